/-
  LAYER 16 (ast), THE PROGRAM: copyExprs.
  LAYER 16 (ast), THE PROGRAM: copyStmts.
  CONTRACTS OF LAYER 16 (ast): Stmts and what it gives.
  WHAT A CONSUMER HAS TAKEN (any program): a closure that appends what it is given to a slice in a box, and wants no more than a number of things in all. Nothing of one program stands here.
  LAYER 16 (ast), THE LAWS: what takes the statements and expressions that are yielded (ASTTraverses).
  LAYER 16 (ast), THE LAWS: what the closures of ASTTraverses have taken in the end.
  SLICES OF BYTES AND STRINGS (any program): append of a string, string(b) in a region that draws, blocks of another type than a row of bytes. Nothing of the program stands here.
  A LAID TABLE OF STRUCTS (any program): an array of structs of numbers, truth values and strings that reads as a datum holds the datum's values, cell for cell. Nothing of the program stands here.
  LAYER 16 (ast), THE PROGRAM: its tables, the library's functions that it calls; isKeyword, isIdentifier, formedName, isSigned, isNumber.
-/
import Derived.Test.YtcknpcbkofgdoaaGreatDoorZeShort
import Derived.Test.YtcknpcbkofgdoaaGreatDoorZe02
import Derived.Test.YtcknpcbkofgdoaaGreatDoorZe00
import Derived.Deep.LoopGhost
import Derived.Deep.Cut
import Derived.Shelf.Abstract
import Derived.Test.YtcknpcbkofgdoaaGreatDoorZe01
import Derived.Laws.EntriesVeiled
import Derived.Lib.AppendStr
import Derived.Lib.OthersKept
import Derived.LaidLaws
import Derived.ChangeArms
import Derived.OpenShut
import Derived.Lib.LaidTab
import Derived.Test.YtcknpcbkofgdoaaGreatDoorShelf
import Derived.Shelf.Strings.SlTrimAscii
import Derived.Deep.CutBlock
import Derived.Deep.MidRow
import Derived.Lib.IndexLaws
namespace Go.Proofs.YtcknpcbkofgdoaaGreatDoor
open Go Go.RowKit Go.IntWalk
set_option linter.unusedSimpArgs false
set_option linter.unusedVariables false
set_option maxRecDepth 8000
theorem dropget {α:Type}{D L:List α}{j:Nat}{d:α}(hD:D.length=j) (hd:L[j]?=some d):(D++L.drop j)[j]?=some d:=by
 rw [List.getElem?_append_right (by omega),hD,Nat.sub_self,List.getElem?_drop]
 exact hd
theorem dropset {α:Type}{D L:List α}{j:Nat}{d d':α}(hD:D.length=j) (hd:L[j]?=some d):(D++L.drop j).set j d'=(D++[d'])++L.drop (j+1):=by
 obtain ⟨hj,rfl⟩:=List.getElem?_eq_some_iff.1 hd
 rw [List.drop_eq_getElem_cons hj,List.set_append_right _ _ (by omega),hD,Nat.sub_self,zz5,List.append_assoc]
 rfl
set_option maxHeartbeats 8000000 in
theorem cpX_any:∀(n:Nat) (l:List Xp),nXs l < n→∀(B:Nat→Prop) (w:World) (p:Option Addr) (c:Nat),XL B w p c l→nXs l≤1048576 →
 Calls Tryz.prog 120 #[.slice p l.length c] w fun e w'=>∃p' c',e=.returned (.slice p' l.length c')∧OX w' w.heap.size w'.heap.size p' c' l∧Grew w w':=by
 intro n
 induction n with
 | zero=>intro _ h;exact absurd h (Nat.not_lt_zero _)
 | succ n ih =>
 intro l hln B w p c hx hnX
 have hcap:l.length≤c:=hx.cap.1
 have hmax:=hx.cap.2.1
 have hnl:=nXs_len l
 obtain ⟨_,L,hr,hat⟩:=hx
 have hLl:=XsAt_len hat
 have HAT:=zh hat
 have HLl:=zh hLl
 have HCL:Hid (∀W,Grew w W→Calls Tryz.prog 153 #[.slice p l.length c] W fun e w'=>∃p' c',e=.returned (.slice p' l.length c')∧Frs 6 xdc 35 W.heap.size p' c' L w'∧Grew W w'):=zh (fun W hW=>by
  have h_:=clnX_any L W p c (hr.kept hW) (by omega)
  rw [hLl] at h_
  exact h_)
 clear hr hat hLl
 go_enter Tryz.func120,Tryz.ntmps120
 go_wp2_with (go_at_call 153;(with_reducible refine(HCL.out _ (Grew.refl _)).mono ?_);rintro e_ W1 ⟨p1,c1,rfl,hf1,hg1⟩;have HF1:=zh hf1;have HG1:=zh hg1;clear hf1 hg1)
 have hc1:l.length≤c1:=by have h1:=HF1.out.1.cap;have:=HLl.out;omega
 have hm1:=HF1.out.1.max
 obtain ⟨g,hgS,hg⟩:∃g,w.heap.size≤g∧(0 < l.length→p1=some ⟨g,0,none⟩∧g < W1.heap.size):=by
  by_cases hn:0 < l.length
  ·have hL0:0 < L.length:=by have:=HLl.out;omega
   obtain ⟨g,h1,h2,h3⟩:=(HF1.out.2 hL0).at hL0
   exact⟨g,h2,fun _=>⟨h1,h3⟩⟩
  ·exact⟨w.heap.size,Nat.le_refl _,fun h=>absurd h hn⟩
 have HGS:=zh hgS
 have HGP:=zh hg
 clear hgS hg
 go_loopg [3,8] l.length (fun gg v3_ iv wr=>∃(j:Nat) (D:List Xd),iv=.int .i64 (j:Int)∧j≤l.length∧gg=l.length - j∧Hid (D.length=j)∧Hid (0 < l.length→OwR wr w.heap.size 35 6 xdc (.slice p1 l.length c1) (D++L.drop j))∧Hid (OXs wr (l.take j) (g+1) wr.heap.size D)∧Hid (Chg W1 wr (fun k=>k=g)))
 case atStart=>exact⟨0,[],rfl,Nat.zero_le _,rfl,zh rfl,zh (fun hn=>by have h1:=HF1.out.2 (by have:=HLl.out;omega);rw [HLl.out] at h1;exact h1),zh (by rw [List.take_zero,OXs]),zh (Chg.refl _ _)⟩
 case round =>
  obtain ⟨j,D,rfl,hj,rfl,HD,HOW,HXS,HC⟩:=hrel
  have HGw:Hid (Grew w wr):=zh (grew_lift HG1.out HC.out (fun k hk=>by have h1:k=g:=hk;rw [h1];exact HGS.out))
  by_cases hlt:j < l.length
  ·have hn0:0 < l.length:=by omega
   obtain ⟨hp1,hgW⟩:=HGP.out hn0
   subst hp1
   have how:=HOW.out hn0
   obtain ⟨d,hd,hxd⟩:=XsAt_get HAT.out j hlt
   rw [XAt_iff] at hxd
   obtain ⟨pj,cj,rfl,hz,hXj⟩:=hxd
   have hnx:=nXs_mem (List.getElem_mem hlt)
   have htk:=List.take_succ_eq_append_getElem hlt
   have HLT:=zh (Nat.succ_le_of_lt hlt)
   have hget:=dropget HD.out hd
   generalize l[j]=x at hd hz hXj hnx htk hget
   obtain ⟨k,s,v,o,ar,q⟩:=x
   replace hXj:XL B w pj cj ar:=hXj
   replace hz:s.size≤1048576∧v≤32767:=hz
   have hnx2:nXs ar+1≤nXs l:=hnx
   have hcapj:ar.length≤cj:=hXj.cap.1
   have hmaxj:=hXj.cap.2.1
   have c4:wr.cell? ⟨g,j * 6+4,none⟩=some (.slice pj ar.length cj):=by
    have h1:=(how.rd encXd).2.cell hget (j:=4) (v:=.slice pj ar.length cj) rfl
    rw [Nat.zero_add] at h1
    exact h1
   have HIH:=zh (fun W (hW:Grew w W)=>ih ar (by omega) B W pj cj (hXj.kept hW) (by omega))
   have HHOW:=zh how
   have HHD:=zh hd
   have HTK:=zh htk
   have HZ:=zh hz
   have HGET:=zh hget
   have HGWL:=zh hgW
   clear hd hz hXj hnx hnx2 htk hget how hgW
   go_wp2_with (go_at_call 120;(with_reducible refine(HIH.out _ HGw.out).mono ?_);rintro e_ W2 ⟨p2,c2,rfl,hx2,hg2⟩;have HX2:=zh hx2;have HG2:=zh hg2;have z4:W2.cell? ⟨g,j * 6+4,none⟩=some (.slice pj ar.length cj):=Atv.kept (R:=Grew) c4 hg2;have zf:=((HHOW.out.kept hg2).free encXd (j * 6+4)).2;clear hx2 hg2)
   have HST:=zh (Chg.set W2 ⟨g,j * 6+4,none⟩ (.slice p2 ar.length c2))
   have HSZ:Hid ((W2.setCell ⟨g,j * 6+4,none⟩ (.slice p2 ar.length c2)).heap.size=W2.heap.size):=zh (World.size_setCell _ _ _)
   have HWL:Hid (g < wr.heap.size):=zh (Nat.lt_of_lt_of_le HGWL.out HC.out.size)
   have HOX:Hid (OXs (W2.setCell ⟨g,j * 6+4,none⟩ (.slice p2 ar.length c2)) (l.take (j+1)) (g+1) (W2.setCell ⟨g,j * 6+4,none⟩ (.slice p2 ar.length c2)).heap.size (D++[⟨k,s,v,o,p2,ar.length,c2,q⟩])):=zh (by
    rw [HTK.out,HSZ.out]
    have h1:=OXs_chg (Chg.of_grew HG2.out (fun _=>False)) HXS.out (fun _ _ _ h=>h)
    have h2:=OXs_chg HST.out h1 (fun i h3 _ h4=>by have h5:i=g:=h4;omega)
    have h3:=HX2.out.chg HST.out (fun i h3 _ h4=>by have h5:i=g:=h4;have:=HWL.out;omega)
    exact OXs_snoc h2 HWL.out HG2.out.sz (OXp_iff.2 ⟨p2,c2,rfl,HZ.out,h3⟩))
   have HOW2:Hid (OwR (W2.setCell ⟨g,j * 6+4,none⟩ (.slice p2 ar.length c2)) w.heap.size 35 6 xdc (.slice (some ⟨g,0,none⟩) l.length c1) ((D++[⟨k,s,v,o,p2,ar.length,c2,q⟩])++L.drop (j+1))):=zh (by
    obtain ⟨hi,he⟩:=List.getElem?_eq_some_iff.1 HGET.out
    have h1:=(HHOW.out.kept HG2.out).set1 encXd j 4 (⟨k,s,v,o,p2,ar.length,c2,q⟩:Xd) (.slice p2 ar.length c2) hi (by decide) (by rw [he];rfl)
    rw [dropset HD.out HHD.out] at h1
    exact h1)
   have HC2:Hid (Chg W1 (W2.setCell ⟨g,j * 6+4,none⟩ (.slice p2 ar.length c2)) (fun k=>k=g)):=zh ((HC.out.trans (Chg.of_grew HG2.out _)).trans HST.out)
   go_roundg (l.length - (j+1))
   case measure=>have:=HLT.out;omega
   case rel=>exact⟨j+1,D++[⟨k,s,v,o,p2,ar.length,c2,q⟩],by go_num,HLT.out,rfl,zh (by rw [List.length_append,HD.out];rfl),zh (fun _=>HOW2.out),HOX,HC2⟩
  ·obtain rfl:j=l.length:=by omega
   have HFIN:Hid (OX wr w.heap.size wr.heap.size p1 c1 l):=zh (by
    have hdl:L.drop l.length=[]:=List.drop_eq_nil_of_le (by rw [HLl.out];exact Nat.le_refl _)
    have hxs:=HXS.out
    rw [List.take_length] at hxs
    refine⟨g,D,HD.out,⟨?_,fun hn=>?_⟩,hxs⟩
    ·by_cases hn:0 < l.length
     ·have h1:=HOW.out hn
      rw [hdl,List.append_nil] at h1
      exact(h1.rd encXd).2
     ·obtain rfl:D=[]:=List.eq_nil_of_length_eq_zero (by rw [HD.out];omega)
      have h1:=HF1.out.1
      exact⟨RdL.nil _ _ _ _ _ h1.max,h1.bare⟩
    ·have hn2:0 < l.length:=by rw [HD.out] at hn;exact hn
     have h1:=HOW.out hn2
     rw [hdl,List.append_nil] at h1
     obtain ⟨hp1,hgW⟩:=HGP.out hn2
     exact⟨HGS.out,Nat.lt_of_lt_of_le hgW HC.out.size,hp1,by rw [HD.out];exact h1⟩)
   go_wp2
   go_ret
   exact⟨p1,c1,rfl,HFIN.out,HGw.out⟩
set_option maxHeartbeats 16000000 in
theorem cpS_any:∀(n:Nat) (l:List Sm),nSs l < n→∀(B:Nat→Prop) (w:World) (p:Option Addr) (c:Nat),SL B w p c l→nSs l≤1048576→mSs l≤1048576 →
 Calls Tryz.prog 76 #[.slice p l.length c] w fun e w'=>∃p' c',e=.returned (.slice p' l.length c')∧OS w' w.heap.size w'.heap.size p' c' l∧Grew w w':=by
 intro n
 induction n with
 | zero=>intro _ h;exact absurd h (Nat.not_lt_zero _)
 | succ n ih =>
 intro l hln B w p c hx hnS hmS
 have hcap:l.length≤c:=hx.cap.1
 have hmax:=hx.cap.2.1
 have hnl:=nSs_len l
 obtain ⟨_,L,hr,hat⟩:=hx
 have hLl:=SsAt_len hat
 have HAT:=zh hat
 have HLl:=zh hLl
 have HCL:Hid (∀W,Grew w W→Calls Tryz.prog 119 #[.slice p l.length c] W fun e w'=>∃p' c',e=.returned (.slice p' l.length c')∧Frs 7 sdc 49 W.heap.size p' c' L w'∧Grew W w'):=zh (fun W hW=>by
  have h_:=clnS_any L W p c (hr.kept hW) (by omega)
  rw [hLl] at h_
  exact h_)
 clear hr hat hLl
 go_enter Tryz.func76,Tryz.ntmps76
 go_wp2_with (go_at_call 119;(with_reducible refine(HCL.out _ (Grew.refl _)).mono ?_);rintro e_ W1 ⟨p1,c1,rfl,hf1,hg1⟩;have HF1:=zh hf1;have HG1:=zh hg1;clear hf1 hg1)
 have hc1:l.length≤c1:=by have h1:=HF1.out.1.cap;have:=HLl.out;omega
 have hm1:=HF1.out.1.max
 obtain ⟨g,hgS,hg⟩:∃g,w.heap.size≤g∧(0 < l.length→p1=some ⟨g,0,none⟩∧g < W1.heap.size):=by
  by_cases hn:0 < l.length
  ·have hL0:0 < L.length:=by have:=HLl.out;omega
   obtain ⟨g,h1,h2,h3⟩:=(HF1.out.2 hL0).at hL0
   exact⟨g,h2,fun _=>⟨h1,h3⟩⟩
  ·exact⟨w.heap.size,Nat.le_refl _,fun h=>absurd h hn⟩
 have HGS:=zh hgS
 have HGP:=zh hg
 clear hgS hg
 go_loopg [3,8] l.length (fun gg v3_ iv wr=>∃(j:Nat) (D:List Sd),iv=.int .i64 (j:Int)∧j≤l.length∧gg=l.length - j∧Hid (D.length=j)∧Hid (0 < l.length→OwR wr w.heap.size 49 7 sdc (.slice p1 l.length c1) (D++L.drop j))∧Hid (OSs wr (l.take j) (g+1) wr.heap.size D)∧Hid (Chg W1 wr (fun k=>k=g)))
 case atStart=>exact⟨0,[],rfl,Nat.zero_le _,rfl,zh rfl,zh (fun hn=>by have h1:=HF1.out.2 (by have:=HLl.out;omega);rw [HLl.out] at h1;exact h1),zh (by rw [List.take_zero,OSs]),zh (Chg.refl _ _)⟩
 case round =>
  obtain ⟨j,D,rfl,hj,rfl,HD,HOW,HXS,HC⟩:=hrel
  have HGw:Hid (Grew w wr):=zh (grew_lift HG1.out HC.out (fun k hk=>by have h1:k=g:=hk;rw [h1];exact HGS.out))
  by_cases hlt:j < l.length
  ·have hn0:0 < l.length:=by omega
   obtain ⟨hp1,hgW⟩:=HGP.out hn0
   subst hp1
   have how:=HOW.out hn0
   obtain ⟨d,hd,hxd⟩:=SsAt_get HAT.out j hlt
   rw [SAt_iff] at hxd
   obtain ⟨ap,ac,yp,yc,ep,ec,rfl,hz,hXj,hYj,hEj⟩:=hxd
   have hns:=nSs_mem (List.getElem_mem hlt)
   have hms:=mSs_mem (List.getElem_mem hlt)
   have htk:=List.take_succ_eq_append_getElem hlt
   have HLT:=zh (Nat.succ_le_of_lt hlt)
   have hget:=dropget HD.out hd
   generalize l[j]=x at hd hz hXj hYj hEj hns hms htk hget
   obtain ⟨k,s,nn,ar,yl,el,q⟩:=x
   replace hXj:XL B w ap ac ar:=hXj
   replace hYj:SL B w yp yc yl:=hYj
   replace hEj:SL B w ep ec el:=hEj
   replace hz:s.size≤1048576:=hz
   have hns2:nSs yl+nSs el+1≤nSs l:=hns
   have hms2:nXs ar+mSs yl+mSs el≤mSs l:=hms
   have hcapj:ar.length≤ac∧yl.length≤yc∧el.length≤ec:=⟨hXj.cap.1,hYj.cap.1,hEj.cap.1⟩
   have hmaxj:=And.intro hXj.cap.2.1 (And.intro hYj.cap.2.1 hEj.cap.2.1)
   have c3:wr.cell? ⟨g,j * 7+3,none⟩=some (.slice ap ar.length ac):=by
    have h1:=(how.rd encSd).2.cell (hget) (j:=3) (v:=.slice ap ar.length ac) rfl
    rw [Nat.zero_add] at h1
    exact h1
   have HIA:=zh (fun W (hW:Grew w W)=>cpX_any _ ar (Nat.lt_succ_self _) B W ap ac (hXj.kept hW) (by omega))
   have HIY:=zh (fun W (hW:Grew w W)=>ih yl (by omega) B W yp yc (hYj.kept hW) (by omega) (by omega))
   have HIE:=zh (fun W (hW:Grew w W)=>ih el (by omega) B W ep ec (hEj.kept hW) (by omega) (by omega))
   have HW1:=zh how
   have HHD:=zh hd
   have HTK:=zh htk
   have HZ:=zh hz
   have HGET:=zh hget
   have HGWL:=zh hgW
   have HWL:Hid (g < wr.heap.size):=zh (Nat.lt_of_lt_of_le hgW HC.out.size)
   clear hd hz hXj hYj hEj hns hns2 hms hms2 htk hget how hgW
   go_upto_region 6 with (go_at_call 120;(with_reducible refine(HIA.out _ HGw.out).mono ?_);rintro e_ X1 ⟨ap2,ac2,rfl,hx_,hg_⟩;have HX1:=zh hx_;have HQ1:=zh hg_;have z3:X1.cell? ⟨g,j * 7+3,none⟩=some (.slice ap ar.length ac):=Atv.kept (R:=Grew) c3 hg_;have zf1:=((HW1.out.kept hg_).free encSd (j * 7+3)).2;clear hx_ hg_)
   have hst:Chg X1 (X1.setCell ⟨g,j * 7+3,none⟩ (.slice ap2 ar.length ac2)) (fun k=>k=g):=Chg.set X1 ⟨g,j * 7+3,none⟩ (.slice ap2 ar.length ac2)
   have hsz:(X1.setCell ⟨g,j * 7+3,none⟩ (.slice ap2 ar.length ac2)).heap.size=X1.heap.size:=World.size_setCell _ _ _
   have how1:OwR (X1.setCell ⟨g,j * 7+3,none⟩ (.slice ap2 ar.length ac2)) w.heap.size 49 7 sdc (.slice (some ⟨g,0,none⟩) l.length c1) ((D++L.drop j).set j (⟨k,s,nn,ap2,ar.length,ac2,yp,yl.length,yc,ep,el.length,ec,q⟩:Sd)):=by
    have hl_:((D++L.drop j))[j]?=some (⟨k,s,nn,ap,ar.length,ac,yp,yl.length,yc,ep,el.length,ec,q⟩:Sd):=HGET.out
    obtain ⟨hi,he⟩:=List.getElem?_eq_some_iff.1 hl_
    have h1:=(HW1.out.kept HQ1.out).set1 encSd j 3 (⟨k,s,nn,ap2,ar.length,ac2,yp,yl.length,yc,ep,el.length,ec,q⟩:Sd) (.slice ap2 ar.length ac2) hi (by decide) (by rw [he];rfl)
    skip
    exact h1
   generalize hV:(X1.setCell ⟨g,j * 7+3,none⟩ (.slice ap2 ar.length ac2))=V1 at hst hsz how1 ⊢
   clear hV
   have HC1:Hid (Chg W1 V1 (fun k=>k=g)):=zh ((HC.out.trans (Chg.of_grew HQ1.out _)).trans hst)
   have HST1:=zh hst
   have HSZ1:=zh hsz
   have HGw1:Hid (Grew w V1):=zh (grew_lift HG1.out HC1.out (fun k hk=>by have h1:k=g:=hk;rw [h1];exact HGS.out))
   have HW2:=zh how1
   have c4:V1.cell? ⟨g,j * 7+4,none⟩=some (.slice yp yl.length yc):=by
    have h1:=(how1.rd encSd).2.cell (show ((D++L.drop j).set j (⟨k,s,nn,ap2,ar.length,ac2,yp,yl.length,yc,ep,el.length,ec,q⟩:Sd))[j]?=some (⟨k,s,nn,ap2,ar.length,ac2,yp,yl.length,yc,ep,el.length,ec,q⟩:Sd) from by rw [List.getElem?_set_self (by have h9:=(List.getElem?_eq_some_iff.1 HGET.out).1;exact h9)]) (j:=4) (v:=.slice yp yl.length yc) rfl
    rw [Nat.zero_add] at h1
    exact h1
   have hcp2:=HX1.out.xl.cap
   clear hst hsz how1
   go_upto_region 7 with (go_at_call 76;(with_reducible refine(HIY.out _ HGw1.out).mono ?_);rintro e_ X2 ⟨yp2,yc2,rfl,hx_,hg_⟩;have HX2:=zh hx_;have HQ2:=zh hg_;have z4:X2.cell? ⟨g,j * 7+4,none⟩=some (.slice yp yl.length yc):=Atv.kept (R:=Grew) c4 hg_;have zf2:=((HW2.out.kept hg_).free encSd (j * 7+4)).2;clear hx_ hg_)
   have hst:Chg X2 (X2.setCell ⟨g,j * 7+4,none⟩ (.slice yp2 yl.length yc2)) (fun k=>k=g):=Chg.set X2 ⟨g,j * 7+4,none⟩ (.slice yp2 yl.length yc2)
   have hsz:(X2.setCell ⟨g,j * 7+4,none⟩ (.slice yp2 yl.length yc2)).heap.size=X2.heap.size:=World.size_setCell _ _ _
   have how2:OwR (X2.setCell ⟨g,j * 7+4,none⟩ (.slice yp2 yl.length yc2)) w.heap.size 49 7 sdc (.slice (some ⟨g,0,none⟩) l.length c1) ((D++L.drop j).set j (⟨k,s,nn,ap2,ar.length,ac2,yp2,yl.length,yc2,ep,el.length,ec,q⟩:Sd)):=by
    have hl_:((D++L.drop j).set j (⟨k,s,nn,ap2,ar.length,ac2,yp,yl.length,yc,ep,el.length,ec,q⟩:Sd))[j]?=some (⟨k,s,nn,ap2,ar.length,ac2,yp,yl.length,yc,ep,el.length,ec,q⟩:Sd):=(by rw [List.getElem?_set_self (by have h9:=(List.getElem?_eq_some_iff.1 HGET.out).1;exact h9)])
    obtain ⟨hi,he⟩:=List.getElem?_eq_some_iff.1 hl_
    have h1:=(HW2.out.kept HQ2.out).set1 encSd j 4 (⟨k,s,nn,ap2,ar.length,ac2,yp2,yl.length,yc2,ep,el.length,ec,q⟩:Sd) (.slice yp2 yl.length yc2) hi (by decide) (by rw [he];rfl)
    rw [List.set_set] at h1
    exact h1
   generalize hV:(X2.setCell ⟨g,j * 7+4,none⟩ (.slice yp2 yl.length yc2))=V2 at hst hsz how2 ⊢
   clear hV
   have HC2:Hid (Chg W1 V2 (fun k=>k=g)):=zh ((HC1.out.trans (Chg.of_grew HQ2.out _)).trans hst)
   have HST2:=zh hst
   have HSZ2:=zh hsz
   have HGw2:Hid (Grew w V2):=zh (grew_lift HG1.out HC2.out (fun k hk=>by have h1:k=g:=hk;rw [h1];exact HGS.out))
   have HW3:=zh how2
   have c5:V2.cell? ⟨g,j * 7+5,none⟩=some (.slice ep el.length ec):=by
    have h1:=(how2.rd encSd).2.cell (show ((D++L.drop j).set j (⟨k,s,nn,ap2,ar.length,ac2,yp2,yl.length,yc2,ep,el.length,ec,q⟩:Sd))[j]?=some (⟨k,s,nn,ap2,ar.length,ac2,yp2,yl.length,yc2,ep,el.length,ec,q⟩:Sd) from by rw [List.getElem?_set_self (by have h9:=(List.getElem?_eq_some_iff.1 HGET.out).1;exact h9)]) (j:=5) (v:=.slice ep el.length ec) rfl
    rw [Nat.zero_add] at h1
    exact h1
   clear hst hsz how2
   go_upto_region 8 with (go_at_call 76;(with_reducible refine(HIE.out _ HGw2.out).mono ?_);rintro e_ X3 ⟨ep2,ec2,rfl,hx_,hg_⟩;have HX3:=zh hx_;have HQ3:=zh hg_;have z5:X3.cell? ⟨g,j * 7+5,none⟩=some (.slice ep el.length ec):=Atv.kept (R:=Grew) c5 hg_;have zf3:=((HW3.out.kept hg_).free encSd (j * 7+5)).2;clear hx_ hg_)
   have hst:Chg X3 (X3.setCell ⟨g,j * 7+5,none⟩ (.slice ep2 el.length ec2)) (fun k=>k=g):=Chg.set X3 ⟨g,j * 7+5,none⟩ (.slice ep2 el.length ec2)
   have hsz:(X3.setCell ⟨g,j * 7+5,none⟩ (.slice ep2 el.length ec2)).heap.size=X3.heap.size:=World.size_setCell _ _ _
   have how3:OwR (X3.setCell ⟨g,j * 7+5,none⟩ (.slice ep2 el.length ec2)) w.heap.size 49 7 sdc (.slice (some ⟨g,0,none⟩) l.length c1) ((D++L.drop j).set j (⟨k,s,nn,ap2,ar.length,ac2,yp2,yl.length,yc2,ep2,el.length,ec2,q⟩:Sd)):=by
    have hl_:((D++L.drop j).set j (⟨k,s,nn,ap2,ar.length,ac2,yp2,yl.length,yc2,ep,el.length,ec,q⟩:Sd))[j]?=some (⟨k,s,nn,ap2,ar.length,ac2,yp2,yl.length,yc2,ep,el.length,ec,q⟩:Sd):=(by rw [List.getElem?_set_self (by have h9:=(List.getElem?_eq_some_iff.1 HGET.out).1;exact h9)])
    obtain ⟨hi,he⟩:=List.getElem?_eq_some_iff.1 hl_
    have h1:=(HW3.out.kept HQ3.out).set1 encSd j 5 (⟨k,s,nn,ap2,ar.length,ac2,yp2,yl.length,yc2,ep2,el.length,ec2,q⟩:Sd) (.slice ep2 el.length ec2) hi (by decide) (by rw [he];rfl)
    rw [List.set_set] at h1
    exact h1
   generalize hV:(X3.setCell ⟨g,j * 7+5,none⟩ (.slice ep2 el.length ec2))=V3 at hst hsz how3 ⊢
   clear hV
   have HC3:Hid (Chg W1 V3 (fun k=>k=g)):=zh ((HC2.out.trans (Chg.of_grew HQ3.out _)).trans hst)
   have HOW3:Hid (OwR V3 w.heap.size 49 7 sdc (.slice (some ⟨g,0,none⟩) l.length c1) ((D++[(⟨k,s,nn,ap2,ar.length,ac2,yp2,yl.length,yc2,ep2,el.length,ec2,q⟩:Sd)])++L.drop (j+1))):=zh (by
    rw [← dropset HD.out HHD.out]
    exact how3)
   have HOS3:Hid (OSs V3 (l.take (j+1)) (g+1) V3.heap.size (D++[(⟨k,s,nn,ap2,ar.length,ac2,yp2,yl.length,yc2,ep2,el.length,ec2,q⟩:Sd)])):=zh (by
    have hs1:=HQ1.out.sz
    have hs2:=HQ2.out.sz
    have hs3:=HQ3.out.sz
    have e1:=HSZ1.out
    have e2:=HSZ2.out
    have hwl:=HWL.out
    rw [HTK.out,hsz]
    have ne:∀(a b:Nat),g < a→∀i,a≤i→i < b→¬ (i=g):=fun a b h i h1 _ h2=>by omega
    have nf:∀(a b:Nat) i,a≤i→i < b→¬ False:=fun _ _ _ _ _ h=>h
    have t1:=OSs_chg hst (OSs_chg (Chg.of_grew HQ3.out (fun _=>False)) (OSs_chg HST2.out (OSs_chg (Chg.of_grew HQ2.out (fun _=>False)) (OSs_chg HST1.out (OSs_chg (Chg.of_grew HQ1.out (fun _=>False)) HXS.out (fun _ _ _ h=>h)) (ne _ _ (by omega))) (fun _ _ _ h=>h)) (ne _ _ (by omega))) (fun _ _ _ h=>h)) (ne _ _ (by omega))
    have t2:=((((HX1.out.chg HST1.out (ne _ _ hwl)).kept HQ2.out).chg HST2.out (ne _ _ hwl)).kept HQ3.out).chg hst (ne _ _ hwl)
    have t3:=((HX2.out.chg HST2.out (ne _ _ (by omega))).kept HQ3.out).chg hst (ne _ _ (by omega))
    have t4:=HX3.out.chg hst (ne _ _ (by omega))
    rw [e1] at t3
    rw [e2] at t4
    exact OSs_snoc t1 hwl (by omega) (OSp_iff.2 ⟨ap2,ac2,yp2,yc2,ep2,ec2,X1.heap.size,X2.heap.size,rfl,HZ.out,by omega,by omega,by omega,t2,t3,t4⟩))
   clear hst hsz how3
   go_wp2
   go_roundg (l.length - (j+1))
   case measure=>have:=HLT.out;omega
   case rel=>exact⟨j+1,D++[(⟨k,s,nn,ap2,ar.length,ac2,yp2,yl.length,yc2,ep2,el.length,ec2,q⟩:Sd)],by go_num,HLT.out,rfl,zh (by rw [List.length_append,HD.out];rfl),zh (fun _=>HOW3.out),HOS3,HC3⟩
  ·obtain rfl:j=l.length:=by omega
   have HFIN:Hid (OS wr w.heap.size wr.heap.size p1 c1 l):=zh (by
    have hdl:L.drop l.length=[]:=List.drop_eq_nil_of_le (by rw [HLl.out];exact Nat.le_refl _)
    have hxs:=HXS.out
    rw [List.take_length] at hxs
    refine⟨g,D,HD.out,⟨?_,fun hn=>?_⟩,hxs⟩
    ·by_cases hn:0 < l.length
     ·have h1:=HOW.out hn
      rw [hdl,List.append_nil] at h1
      exact(h1.rd encSd).2
     ·obtain rfl:D=[]:=List.eq_nil_of_length_eq_zero (by rw [HD.out];omega)
      have h1:=HF1.out.1
      exact⟨RdL.nil _ _ _ _ _ h1.max,h1.bare⟩
    ·have hn2:0 < l.length:=by rw [HD.out] at hn;exact hn
     have h1:=HOW.out hn2
     rw [hdl,List.append_nil] at h1
     obtain ⟨hp1,hgW⟩:=HGP.out hn2
     exact⟨HGS.out,Nat.lt_of_lt_of_le hgW HC.out.size,hp1,by rw [HD.out];exact h1⟩)
   go_wp2
   go_ret
   exact⟨p1,c1,rfl,HFIN.out,HGw.out⟩
open Go.Shelf
set_option maxRecDepth 100000
attribute [local go_sem] Oper.semAt_some
set_option maxHeartbeats 4000000 in
theorem stmtsI_any (l:List Sm) (B:Blks) (w:World) (p:Option Addr) (c:Nat) (hx:SL B w p c l) (hn:nSs l≤1048576) (hm:mSs l≤1048576) :
 Calls Tryz.prog 25 #[.slice p l.length c] w fun e w'=>∃K pk ck a b,e=.returned (.func (.func 77) #[] #[.pointer (some ⟨K,0,none⟩)])∧Blk K [.slice pk l.length ck] 40 w'∧SL (Fresh a b) w' pk ck l∧w.heap.size≤K∧Grew w w':=by
 have HC:=zh (cpS_any _ l (Nat.lt_succ_self _) B w p c hx hn hm)
 have HCAP:=zh hx.cap
 clear hx
 go_enter Tryz.func25,Tryz.ntmps25
 go_wp2_with (go_at_call 76;(with_reducible refine(HC.out).mono ?_);rintro e w1 ⟨pk,ck,rfl,ho,hg⟩;have HO:=zh ho.sl;have HG:=zh hg;clear ho hg)
 go_ret
 exact⟨w1.heap.size,pk,ck,_,_,rfl,Blk.new w1 [.slice pk l.length ck] _,HO.out.kept ((Grew.refl _).alloc _),HG.out.sz,HG.out.alloc _⟩
set_option maxHeartbeats 4000000 in
theorem st1_any (y:Value) (C:Blks) (J Jx:Blks→List Sm→World→Prop) (hJ:Abides C J) (hJx:Abides C Jx) (l:List Sm) (K:Nat) (pk:Option Addr) (ck:Nat) (B0:Blks) (w:World) (hK:Blk K [.slice pk l.length ck] 40 w) (hx:SL B0 w pk ck l) (hn:nSs l≤1048576) (hm:mSs l≤1048576)
 (hY:∀B:Blks,(∀b,B b→w.heap.size≤b)→∀P1 pre x d W1,J P1 pre W1→SAt B W1 x d→(∀k,B k→P1 k)→(∀k,P1 k→k < W1.heap.size)→Asked Tryz.prog y #[.agg (sdc d).toArray] W1 fun e W'=>(e=.returned (.bool true)∧J P1 (pre++[x]) W'∧Kept P1 W1 W')∨(e=.returned (.bool false)∧Jx P1 (pre++[x]) W'∧Kept P1 W1 W'))
 (h0:J (fun _=>False) [] w) (m:Nat) :
 CallsIn Fence.wide m Tryz.prog 77 #[y,.pointer (some ⟨K,0,none⟩)] w fun e W'=>(∃v,e=.returned v)∧((∃P1,J P1 (stmL l) W')∨(∃q P1,q <+: stmL l∧Jx P1 q W')):=by
 have HC:=zh (cpS_any _ l (Nat.lt_succ_self _) B0 w pk ck hx hn hm)
 have HYS:=zh (fun(B:Blks) hB=>yS_any y C B J Jx hJ hJx (hY B hB))
 have HJ0:=zh h0
 have HJJ:=zh hJ
 have cK:=hK.cell 0
 have lK:=hK.lt
 simp only [zz7] at cK
 clear hx hK hY h0 hJ hJx
 refine callsIn_of_wp Tryz.func77 rfl trivial ?_ rfl
 simp only [Tryz.ntmps77,List.size_toArray,List.length_cons,List.length_nil,Nat.reduceAdd,Nat.reduceSub,Array.replicate_succ,Array.replicate_zero,List.push_toArray,List.append_toArray,List.nil_append,List.cons_append]
 gi_wp2_with (first
  | (refine⟨trivial,(fun h=>absurd h (by decide)),?_⟩;gi_at_call 76;refine(callsIn_wide.2 (HC.out)).mono ?_;rintro e w1 ⟨p1,c1,rfl,ho,hg⟩;have HG:=zh hg;have HCL:=zh (HYS.out (Fresh w.heap.size w1.heap.size) (fun b hb=>hb.1) _ l (Nat.lt_succ_self _) (m - 1) (Fresh w.heap.size w1.heap.size) [] w1 p1 c1 ho.sl (HJJ.out.grew HJ0.out hg (fun k hk h=>by have:=h.1;omega)) (fun _ h=>h) (fun k h=>h.2));clear ho hg)
  | (refine⟨trivial,(fun h=>absurd h (by decide)),?_⟩;gi_at_call 78;refine(HCL.out).mono ?_;rintro e w2 (⟨rfl,h1,h2⟩ | ⟨rfl,q,h1,h2,h3⟩)))
 ·gi_wp2
  go_end0
  exact⟨⟨_,rfl⟩,.inl ⟨_,by simpa using h1⟩⟩
 ·gi_wp2
  go_end0
  exact⟨⟨_,rfl⟩,.inr ⟨q,_,h1,by simpa using h2⟩⟩
def FrS (z:Nat) (P1:Blks) (_:List (Sm × Sd)) (x:Sm × Sd) (W:World):Prop:=∃B:Blks,(∀b,B b→P1 b)∧(∀b,B b→z≤b)∧SAt B W x.1 x.2
theorem SAt.keep1 {B:Blks}{w w':World}{x:Sm}{d:Sd}(h:SAt B w x d) (hk:∀b,B b→b < w.heap.size→w'.heap[b]?=w.heap[b]?):SAt B w' x d:=by
 rw [SAt_iff] at h ⊢
 obtain ⟨ap,ac,bp,bc,ep,ec,h1,h2,h3,h4,h5⟩:=h
 exact⟨ap,ac,bp,bc,ep,ec,h1,h2,h3.keep (fun _ h=>h) hk,h4.keep (fun _ h=>h) hk,h5.keep (fun _ h=>h) hk⟩
theorem FrS.keep (z:Nat) (P1 P2:Blks) (pre:List (Sm × Sd)) (x:Sm × Sd) (A A':World) (h:FrS z P1 pre x A) (hk:Kept P1 A A') (hp:∀k,P1 k→P2 k):FrS z P2 pre x A':=by
 obtain ⟨B,h1,h2,h3⟩:=h
 exact⟨B,fun b hb=>hp b (h1 b hb),h2,h3.keep1 fun b hb hl=>hk.same b hl (h1 b hb)⟩
theorem st1_gives (l:List Sm) (K:Nat) (pk:Option Addr) (ck:Nat) (B0:Blks) (w:World) (hK:Blk K [.slice pk l.length ck] 40 w) (hx:SL B0 w pk ck l) (hn:nSs l≤1048576) (hm:mSs l≤1048576) :
 Gives Tryz.prog 77 #[.pointer (some ⟨K,0,none⟩)] (fun x:Sm × Sd=>#[.agg #[.int .i64 x.2.k,.string x.2.s,.int .i64 x.2.n,.slice x.2.ap x.2.an x.2.ac,.slice x.2.bp x.2.bn x.2.bc,.slice x.2.ep x.2.en x.2.ec,.int .i64 x.2.q]]) (FrS (w.heap.size+2)) (fun _=>False) (fun xs=>xs.map (·.1)=stmL l) (fun pre=>pre.map (·.1) <+: stmL l) w:=by
 intro n l' J Jx W hg hsz hJ hJx hY h0
 refine(st1_any (.func (.yield l') #[] #[]) (fun _=>False) (fun P1 pre W=>∃xs:List (Sm × Sd),xs.map (·.1)=pre∧J P1 xs W) (fun P1 pre W=>∃xs:List (Sm × Sd),xs.map (·.1)=pre∧Jx P1 xs W) ?_ ?_ l K pk ck B0 W (hK.grew hg) (hx.kept hg) hn hm ?_ ⟨[],rfl,h0⟩ n).mono ?_
 ·rintro P P' s A A' ⟨xs,rfl,h⟩ hc hp
  exact⟨xs,rfl,hJ _ _ _ _ _ h hc hp⟩
 ·rintro P P' s A A' ⟨xs,rfl,h⟩ hc hp
  exact⟨xs,rfl,hJx _ _ _ _ _ h hc hp⟩
 ·rintro B hB P1 pre x d W1 ⟨xs,rfl,h1⟩ h2 h3 h4
  refine .inl ⟨l',rfl,(hY P1 xs (x,d) W1 h1 ⟨B,h3,fun b hb=>by have:=hB b hb;omega,h2⟩ h4).mono ?_⟩
  rintro e W' (⟨rfl,a1,a2⟩ | ⟨rfl,a1,a2⟩)
  ·exact .inl ⟨rfl,⟨xs++[(x,d)],by simp,a1⟩,a2⟩
  ·exact .inr ⟨rfl,⟨xs++[(x,d)],by simp,a1⟩,a2⟩
 ·rintro e W' ⟨hv,h | h⟩
  ·obtain ⟨P1,xs,h1,h2⟩:=h
   exact⟨hv,.inl ⟨xs,P1,h1,h2⟩⟩
  ·obtain ⟨q,P1,h1,xs,rfl,h2⟩:=h
   exact⟨hv,.inr ⟨xs,P1,h1,h2⟩⟩
set_option maxHeartbeats 4000000 in
theorem exprsI_any (l:List Sm) (B:Blks) (w:World) (p:Option Addr) (c:Nat) (hx:SL B w p c l) (hn:nSs l≤1048576) (hm:mSs l≤1048576) :
 Calls Tryz.prog 27 #[.slice p l.length c] w fun e w'=>∃E K pk ck a b,e=.returned (.func (.func 79) #[] #[.pointer (some ⟨E,0,none⟩)])∧Blk E [.func (.func 77) #[] #[.pointer (some ⟨K,0,none⟩)]] 46 w'∧Blk K [.slice pk l.length ck] 40 w'∧SL (Fresh a b) w' pk ck l∧Grew w w':=by
 have HC:=zh (stmtsI_any l B w p c hx hn hm)
 clear hx
 go_enter Tryz.func27,Tryz.ntmps27
 go_wp2_with (go_at_call 25;(with_reducible refine(HC.out).mono ?_);rintro e w1 ⟨K,pk,ck,a,b,rfl,h1,h2,h3,hg⟩;have H1:=zh h1;have H2:=zh h2;have HG:=zh hg;clear h1 h2 h3 hg)
 go_ret
 exact⟨w1.heap.size,K,pk,ck,a,b,rfl,Blk.new w1 [.func (.func 77) #[] #[.pointer (some ⟨K,0,none⟩)]] _,H1.out.grew ((Grew.refl _).alloc _),H2.out.kept ((Grew.refl _).alloc _),HG.out.alloc _⟩
set_option maxHeartbeats 4000000 in
theorem ex1_any (fv:Fn) (lb:Array Value) (C:Blks) (J Jx:Blks→List Xp→World→Prop) (hJ:Abides C J) (hJx:Abides C Jx) (l:List Sm) (E K:Nat) (pk:Option Addr) (ck:Nat) (B0:Blks) (w:World) (hC:∀b,C b↔b=w.heap.size+1∨b=w.heap.size+2)
 (hE:Blk E [.func (.func 77) #[] #[.pointer (some ⟨K,0,none⟩)]] 46 w) (hK:Blk K [.slice pk l.length ck] 40 w) (hx:SL B0 w pk ck l) (hn:nSs l≤1048576) (hm:mSs l≤1048576)
 (hY:∀B:Blks,(∀b,B b→¬ C b)→∀P1 pre x d W1,J P1 pre W1→XAt B W1 x d→(∀k,B k→P1 k)→(∀k,P1 k→k < W1.heap.size)→Asked Tryz.prog (.func fv #[] lb) #[.agg (xdc d).toArray] W1 fun e W'=>(e=.returned (.bool true)∧J P1 (pre++[x]) W'∧Kept P1 W1 W')∨(e=.returned (.bool false)∧Jx P1 (pre++[x]) W'∧Kept P1 W1 W'))
 (h0:J (fun _=>False) [] w) (m:Nat) :
 CallsIn Fence.wide m Tryz.prog 79 #[.func fv #[] lb,.pointer (some ⟨E,0,none⟩)] w fun e W'=>(∃v,e=.returned v)∧((∃P1,J P1 (expL l) W')∨(∃q P1,q <+: expL l∧Jx P1 q W')):=by
 have hB0:Blk w.heap.size [.func fv #[] lb] 38 (w.alloc (.cells #[.func fv #[] lb] 38)):=Blk.new w [.func fv #[] lb] _
 have hG0:Grew w (w.alloc (.cells #[.func fv #[] lb] 38)):=(Grew.refl _).alloc _
 have hz0:(w.alloc (.cells #[.func fv #[] lb] 38)).heap.size=w.heap.size+1:=by simp
 have cE:=(hE.grew hG0).cell 0
 have lE:=(hE.grew hG0).lt
 simp only [zz7] at cE
 have hgv:=st1_gives l K pk ck B0 _ (hK.grew hG0) (hx.kept hG0) hn hm
 have HYX:=zh (fun(B:Blks) hB=>yX_any (.func fv #[] lb) C B J Jx hJ hJx (hY B hB))
 have HJJ:=zh hJ
 have HJX:=zh hJx
 have HJ0:Hid (J (fun k=>False∨k=w.heap.size) [] (w.alloc (.cells #[.func fv #[] lb] 38))):=zh (hJ.grew h0 hG0 (fun k hk h=>by rcases h with h | h;exact h;omega))
 clear hE hK hx hY h0 hJ hJx
 refine callsIn_of_wp_marks Tryz.func79 rfl trivial ?_ rfl
 simp only [Tryz.ntmps79,List.size_toArray,List.length_cons,List.length_nil,Nat.reduceAdd,Nat.reduceSub,Array.replicate_succ,Array.replicate_zero,List.push_toArray,List.append_toArray,List.nil_append,List.cons_append]
 gi_wp2
 generalize w.alloc (Obj.cells #[Value.func fv #[] lb] 38)=w1 at hB0 hG0 hz0 cE lE hgv HJ0 ⊢
 have hCC:∀b,(b=w1.heap.size∨b=w1.heap.size+1)→C b:=fun b hb=>(hC b).2 (by omega)
 refine wpIn_each (gf:=77) (lb:=#[.pointer (some ⟨K,0,none⟩)]) rfl (fun args w=>by go_simp) (encs:=fun x:Sm × Sd=>#[.agg #[.int .i64 x.2.k,.string x.2.s,.int .i64 x.2.n,.slice x.2.ap x.2.an x.2.ac,.slice x.2.bp x.2.bn x.2.bc,.slice x.2.ep x.2.en x.2.ec,.int .i64 x.2.q]]) (fun _=>rfl) (Fr:=FrS (w1.heap.size+2)) (FrS.keep _) hgv (fun k hk=>hk.elim)
  (fun P xs W=>J (fun k=>P k∨k=w.heap.size) (xs.flatMap fun x=>subXs x.1.ar) W∧Blk w.heap.size [.func fv #[] lb] 38 W) (fun c P xs W=>c=.ret∧∃q,q <+: (xs.flatMap fun x=>subXs x.1.ar)∧Jx (fun k=>P k∨k=w.heap.size) q W)
  ?hI ?hIx ⟨HJ0.out,hB0⟩
  (fun z x a1 W=>∃(SB:Nat) (u:Value),z≤SB∧a1={ tmps:=#[.func fv #[] lb,.pointer (some ⟨E,0,none⟩),.pointer (some ⟨w.heap.size,0,none⟩),.pointer (some ⟨SB,0,none⟩),.func (.func 77) #[] #[.pointer (some ⟨K,0,none⟩)],u,undef,undef,undef,undef,undef],defers:=[] }∧Blk SB (sdc x.2) 49 W) ?assign ?put ?body ?done ?stop
 case hI =>
  rintro P P' xs A A' ⟨h1,h2⟩ hc hp
  exact⟨HJJ.out _ _ _ _ _ h1 (hc.mono fun k hk=>⟨.inl hk.1,hCC k hk.2⟩) (fun k hk h=>h.imp_left (hp k hk)),h2.chg hc (fun hk=>by have:=hk.2;omega)⟩
 case hIx =>
  rintro c P P' xs A A' ⟨h0,q,h1,h2⟩ hc hp
  exact⟨h0,q,h1,HJX.out _ _ _ _ _ h2 (hc.mono fun k hk=>⟨.inl hk.1,hCC k hk.2⟩) (fun k hk h=>h.imp_left (hp k hk))⟩
 case assign =>
  intro l' m' x W' K' hK'
  gi_wp2
  exact hK' _ _ ((Grew.refl _).alloc _) ⟨W'.heap.size,_,Nat.le_refl _,rfl,Blk.new W' (sdc x.2) _⟩
 case put =>
  rintro z x a1 W1 r o hr ⟨SB,u,h1,h2,h3⟩
  exact⟨SB,u,h1,h2,(World.putObj_heap_other (by omega)).trans h3⟩
 case body =>
  rintro l' m' z P pre ⟨xx,d⟩ a1 W' ⟨hi,hbk⟩ ⟨B,hb1,hb2,hat⟩ hbd hz ⟨SB,u,hSB,ha1,hbx⟩
  subst ha1
  rw [SAt_iff] at hat
  obtain ⟨ap,ac,bp,bc,ep,ec,hd,h2,hxl,_,_⟩:=hat
  dsimp only at hd hbx
  subst hd
  have c3:=hbx.cell 3
  have l3:=hbx.lt
  have cY:=hbk.cell 0
  have lY:=hbk.lt
  simp only [zz7,zz8] at c3 cY
  have HCALL:=zh (HYX.out B (fun b hb hc=>by have h3:=hb2 b hb;have h4:=(hC b).1 hc;omega) _ xx.ar (Nat.lt_succ_self _) (m' - 1) (fun k=>P k∨k=w.heap.size) _ W' ap ac hxl hi (fun k hk=>.inl (hb1 k hk)) (fun k hk=>by
   rcases hk with hk | rfl
   ·have:=hbd k hk;omega
   ·exact lY))
  have HBK:=zh hbk
  clear hxl hi hbk hbx hgv hB0 hG0 hbd
  gi_wp2_with (refine⟨trivial,(fun h=>absurd h (by decide)),?_⟩;gi_at_call 80;refine(CallsIn.inRound l' (HCALL.out)).mono ?_;rintro e W2 (⟨rfl,h1,h2⟩ | ⟨rfl,q,h1,h2,h3⟩))
  ·refine⟨h2.sub (fun k hk=>.inl hk),?_,h2.heap (.inr rfl) HBK.out⟩
   rw [List.flatMap_append,List.flatMap_cons,List.flatMap_nil,List.append_nil]
   exact h1
  ·refine⟨h3.sub (fun k hk=>.inl hk),rfl,_,?_,h2⟩
   rw [List.flatMap_append,List.flatMap_cons,List.flatMap_nil,List.append_nil]
   exact(List.prefix_append_right_inj _).2 h1
 case done =>
  rintro D P xs W' rfl hPD hS ⟨hj,hbk⟩ hdD
  have HJ:=zh hj
  have HDD:=zh hdD
  clear hj hbk hdD hgv
  gi_wp2
  refine leaves_marks [w1.heap.size] W' (by simp) (fun D' h=>by rw [List.mem_singleton.1 h];exact HDD.out) (fun w' hc=>⟨_,results_none rfl _ _ _,⟨⟨_,rfl⟩,.inl ⟨fun k=>P k∨k=w.heap.size,?_⟩⟩⟩)
  have h:=HJJ.out _ (fun k=>P k∨k=w.heap.size) _ _ w' HJ.out (hc.mono fun k hk=>by rw [List.mem_singleton.1 hk];exact⟨.inl hPD,hCC _ (.inl rfl)⟩) (fun _ _ h=>h)
  rwa [show xs.flatMap (fun x=>subXs x.1.ar)=expL l by rw [expL,← hS,List.flatMap_map]] at h
 case stop =>
  rintro D c P pre W' rfl hPD hS ⟨rfl,q,hq,hjx⟩ hdD
  have HJ:=zh hjx
  have HDD:=zh hdD
  have HQ:Hid (q <+: expL l):=zh (hq.trans (by
   obtain ⟨t,ht⟩:=hS
   rw [expL,← ht,List.flatMap_append,List.flatMap_map]
   exact List.prefix_append _ _))
  clear hjx hdD hgv hq
  gi_wp2
  refine leaves_marks [w1.heap.size] W' (by simp) (fun D' h=>by rw [List.mem_singleton.1 h];exact HDD.out) (fun w' hc=>⟨_,results_none rfl _ _ _,⟨⟨_,rfl⟩,.inr ⟨q,fun k=>P k∨k=w.heap.size,HQ.out,?_⟩⟩⟩)
  exact HJX.out _ _ _ _ w' HJ.out (hc.mono fun k hk=>by rw [List.mem_singleton.1 hk];exact⟨.inl hPD,hCC _ (.inl rfl)⟩) (fun _ _ h=>h)
section
variable {P:Program}{ops:Array Oper}{Q:Exit→Act→World→Prop}
theorem wpAny_both {i j fuel:Nat}(d d':Option Tmp){o o':Oper}{listed:Array Bool}{a:Act}{w:World}(hr:Region.ready .any ops listed=[i,j]) (ho:ops[i]?=some o) (hg:o.guard=none) (hd:o.dst=d) (ho':ops[j]?=some o') (hg':o'.guard=none) (hd':o'.dst=d')
 (h:Runs P o a w fun v w'=>wpAny P .any ops Q fuel (listed.setIfInBounds i true) (a.put d v) w') (h':Runs P o' a w fun v w'=>wpAny P .any ops Q fuel (listed.setIfInBounds j true) (a.put d' v) w'):wpAny P .any ops Q (fuel+1) listed a w:=by
 refine wpAny_all hr (by simp) fun k hk=>?_
 have hk':k=i∨k=j:=by simpa using hk
 rcases hk' with rfl | rfl
 ·subst hd
  unfold wpOp
  simp only [ho]
  rw [if_pos (by simp [Region.wanted,hg])]
  exact .inl (h _ _ fun _ _ h=>h)
 ·subst hd'
  unfold wpOp
  simp only [ho']
  rw [if_pos (by simp [Region.wanted,hg'])]
  exact .inl (h' _ _ fun _ _ h=>h)
end
section
variable {α β:Type}{k:Nat}{enc:α→List Value}{At:(Nat→Prop)→World→List β→List α→Prop}
theorem OwR.addr {w:World}{base:Nat}{e:TypeId}{p:Option Addr}{n c:Nat}{xs:List α}(h:OwR w base e k enc (.slice p n c) xs) (hn:0 < xs.length):∃g,p=some ⟨g,0,none⟩:=by
 rcases h.2 with ⟨hv,h0⟩ | ⟨g,cap,cur,hv,_⟩
 ·omega
 ·simp only [Value.slice.injEq] at hv
  exact⟨g,hv.1⟩
theorem OwR.setLast1 {w:World}{base:Nat}{e:TypeId}{xs:List α}(E:Enc k enc){b n c:Nat}{z:α}(h:OwR w base e k enc (.slice (some ⟨b,0,none⟩) n c) (xs++[z])) (f:Nat) (x:α) (v:Value) (hf:f < k) (hx:enc x=(enc z).set f v){o:Nat}(ho:o=xs.length * k+f) :
 OwR (w.setCell ⟨b,o,none⟩ v) base e k enc (.slice (some ⟨b,0,none⟩) n c) (xs++[x]):=by
 subst ho
 have h1:=h.set1 E xs.length f x v (by simp) hf (by simpa using hx)
 rwa [List.set_append_right _ _ (Nat.le_refl _),Nat.sub_self,zz5] at h1
structure Took (At:(Nat→Prop)→World→List β→List α→Prop) (k:Nat) (enc:α→List Value) (e T t3:TypeId) (S M most:Nat) (C:Blks) (w0:World) (P:Blks) (pre:List β) (W:World):Prop where
 grew:Grew w0 W
 base:w0.heap.size≤S∧S≠M
 offP:¬ P S∧¬ P M
 num:Blk M [.int .i64 (most:Int)] t3 W
 out:∃(B:Blks) (p:Option Addr) (n c:Nat) (L:List α),n=pre.length∧L.length=n∧Blk S [.slice p n c] T W∧OwR W w0.heap.size e k enc (.slice p n c) L∧At B W pre L∧(∀a,p=some a→¬ P a.block∧¬ B a.block∧a.block≠S∧a.block≠M)∧∀b,B b→b≠S∧b≠M∧b < W.heap.size∧¬ C b
variable {e T t3:TypeId}{S M most:Nat}{C:Blks}{w0:World}
theorem Took.abides (H:Hangs k enc At) (hC:∀b,C b→w0.heap.size≤b):Abides C (fun P pre W=>Took At k enc e T t3 S M most C w0 P pre W):=fun P P' s W W' h hc hp=>by
 obtain ⟨h1,h2,h3,h4,B,p,n,c,L,h5,h5',h6,h7,h8,h9,h10⟩:=h
 refine⟨grew_lift h1 hc (fun j hj=>hC j hj.2),h2,⟨fun hs=>h3.1 (hp S h6.lt hs),fun hs=>h3.2 (hp M h4.lt hs)⟩,h4.chg hc (fun hs=>h3.2 hs.1),B,p,n,c,L,h5,h5',h6.chg hc (fun hs=>h3.1 hs.1),h7.chg hc (fun a ha hs=>(h9 a ha).1 hs.1),
  H.keep (fun _ h=>h) (fun b hb hl=>hc.block b hl (fun hs=>(h10 b hb).2.2.2 hs.2)) h8,fun a ha=>⟨fun hs=>(h9 a ha).1 (hp _ (h7.place H.enc a ha).2 hs),(h9 a ha).2⟩,fun b hb=>⟨(h10 b hb).1,(h10 b hb).2.1,Nat.lt_of_lt_of_le (h10 b hb).2.2.1 hc.size,(h10 b hb).2.2.2⟩⟩
theorem Took.more (H:Hangs k enc At){P B':Blks}{pre:List β}{x:β}{d:α}{W1 w4 w5 W':World}(h1:Grew w0 W1) (h2:w0.heap.size≤S∧S≠M) (h3:¬ P S∧¬ P M) (h4:Blk M [.int .i64 (most:Int)] t3 W1) (hPW:∀b,P b→b < W1.heap.size) (hB:∀b,B' b→P b) (hBC:∀b,B' b→¬ C b)
 {B:Blks}{p1:Option Addr}{n1 c1:Nat}{L:List α}(h5:n1=pre.length) (h5':L.length=n1) (h6:Blk S [.slice p1 n1 c1] T W1) (h7:OwR W1 w0.heap.size e k enc (.slice p1 n1 c1) L) (h8:At B W1 pre L) (h9:∀a,p1=some a→¬ P a.block∧¬ B a.block∧a.block≠S∧a.block≠M) (h10:∀b,B b→b≠S∧b≠M∧b < W1.heap.size∧¬ C b) (g4:Grew W1 w4) (hat:At B' w4 [x] [d])
 {g c':Nat}(hc5:Chg w4 w5 (fun j=>Value.ownBlock (.slice p1 n1 c1)=some j)) (how:Value.ownBlock (.slice (some ⟨g,0,none⟩) (n1+1) c')=Value.ownBlock (.slice p1 n1 c1)∨Value.ownBlock (.slice (some ⟨g,0,none⟩) (n1+1) c')=some w4.heap.size)
 (hL':OwR W' w0.heap.size e k enc (.slice (some ⟨g,0,none⟩) (n1+1) c') (L++[d])) (hS':Blk S [.slice (some ⟨g,0,none⟩) (n1+1) c'] T W') (hc':Chg w5 W' (fun j=>j=g∨j=S)) :
 Took At k enc e T t3 S M most C w0 P (pre++[x]) W'∧Kept P W1 W':=by
 have hrow:∀j,Value.ownBlock (.slice p1 n1 c1)=some j→∃a,p1=some a∧a.block=j:=fun j hj=>by
  rw [ownBlock_sl] at hj
  cases p1 with
  | none=>cases hj
  | some a=>exact⟨a,rfl,by simpa using hj⟩
 have hgg:(∃a,p1=some a∧a.block=g)∨g=w4.heap.size:=by
  rcases how with how | how
  ·exact .inl (hrow g how.symm)
  ·rw [ownBlock_sl] at how
   exact .inr (by simpa using how)
 have hs4:W1.heap.size≤w4.heap.size:=g4.sz
 have hSl:=h6.lt
 have hMl:=h4.lt
 have gP:¬ P g∧¬ B g∧g≠S∧g≠M∧w0.heap.size≤g:=by
  rcases hgg with ⟨a,ha,rfl⟩ | rfl
  ·exact⟨(h9 a ha).1,(h9 a ha).2.1,(h9 a ha).2.2.1,(h9 a ha).2.2.2,(h7.place H.enc a ha).1⟩
  ·exact⟨fun h=>by have:=hPW _ h;omega,fun h=>by have:=(h10 _ h).2.2.1;omega,by omega,by omega,by omega⟩
 have hB'g:∀b,B' b→b≠g∧b≠S∧b≠M∧b < W1.heap.size:=fun b hb=>⟨fun e=>gP.1 (e ▸ hB b hb),fun e=>h3.1 (e ▸ hB b hb),fun e=>h3.2 (e ▸ hB b hb),hPW b (hB b hb)⟩
 have hch:Chg W1 W' (fun j=>(∃a,p1=some a∧a.block=j)∨j=g∨j=S):=((Chg.of_grew g4 _).trans (hc5.mono fun j hj=>.inl (hrow j hj))).trans (hc'.mono fun j hj=>.inr hj)
 have hch4:Chg w4 W' (fun j=>(∃a,p1=some a∧a.block=j)∨j=g∨j=S):=(hc5.mono fun j hj=>.inl (hrow j hj)).trans (hc'.mono fun j hj=>.inr hj)
 have aw:∀b,(∀a,p1=some a→a.block≠b)→b≠g→b≠S→¬ ((∃a,p1=some a∧a.block=b)∨b=g∨b=S):=fun b k1 k2 k3 h=>by
  rcases h with ⟨a,ha,rfl⟩ | h | h
  ·exact k1 a ha rfl
  ·exact k2 h
  ·exact k3 h
 have hsz:=hch.size
 refine⟨⟨grew_lift h1 hch (fun j hj=>?_),h2,h3,h4.chg hch (aw M (fun a ha=>(h9 a ha).2.2.2) (Ne.symm gP.2.2.2.1) (Ne.symm h2.2)),fun b=>B b∨B' b,some ⟨g,0,none⟩,n1+1,c',L++[d],by simp [h5],by simp [h5'],hS',hL',?_,fun a ha=>?_,fun b hb=>?_⟩,Kept.of_chg hch fun b hb=>?_⟩
 ·rcases hj with ⟨a,ha,rfl⟩ | rfl | rfl
  ·exact(h7.place H.enc a ha).1
  ·exact gP.2.2.2.2
  ·exact h2.1
 ·refine H.app (H.keep (B:=B') (fun b hb=>.inr hb) (fun b hb hl=>hch4.block b hl ?_) hat) (H.keep (fun b hb=>.inl hb) (fun b hb hl=>hch.block b hl ?_) h8)
  ·obtain ⟨k1,k2,k3,k4⟩:=hB'g b hb
   exact aw b (fun a ha e=>(h9 a ha).1 (e ▸ hB b hb)) k1 k2
  ·exact aw b (fun a ha e=>(h9 a ha).2.1 (e ▸ hb)) (fun e=>gP.2.1 (e ▸ hb)) (h10 b hb).1
 ·obtain rfl:=Option.some.inj ha
  exact⟨gP.1,fun hb=>hb.elim gP.2.1 (fun hb=>(hB'g _ hb).1 rfl),gP.2.2.1,gP.2.2.2.1⟩
 ·rcases hb with hb | hb
  ·exact⟨(h10 b hb).1,(h10 b hb).2.1,Nat.lt_of_lt_of_le (h10 b hb).2.2.1 hsz,(h10 b hb).2.2.2⟩
  ·obtain ⟨k1,k2,k3,k4⟩:=hB'g b hb
   exact⟨k2,k3,Nat.lt_of_lt_of_le k4 hsz,hBC b hb⟩
 ·exact aw b (fun a ha e=>(h9 a ha).1 (e ▸ hb)) (fun e=>gP.1 (e ▸ hb)) (fun e=>h3.1 (e ▸ hb))
theorem Took.inN (H:Hangs k enc At){P:Blks}{pre:List β}{W:World}(h:Took At k enc e T t3 S M most C w0 P pre W):∃(B:Blks) (p:Option Addr) (n c:Nat),Blk S [.slice p n c] T W∧InN At k enc B W p n c pre∧(∀b,B b→b < W.heap.size)∧Blk M [.int .i64 (most:Int)] t3 W∧Grew w0 W:=by
 obtain ⟨h1,h2,h3,h4,B,p,n,c,L,h5,h5',h6,h7,h8,h9,h10⟩:=h
 exact⟨B,p,n,c,h6,⟨h5,L,(h7.rd H.enc).2,h8⟩,fun b hb=>(h10 b hb).2.2.1,h4,h1⟩
theorem Took.start (H:Hangs k enc At){W:World}(hg:Grew w0 W) (h2:w0.heap.size≤S∧S≠M) (hS:Blk S [.slice none 0 0] T W) (hM:Blk M [.int .i64 (most:Int)] t3 W):Took At k enc e T t3 S M most C w0 (fun _=>False) [] W :=
 ⟨hg,h2,⟨fun h=>h,fun h=>h⟩,hM,fun _=>False,none,0,0,[],rfl,rfl,hS,OwR.nil _ _ _ _ _,H.nil,fun a ha=>(by cases ha),fun b hb=>hb.elim⟩
end
set_option maxRecDepth 8000
section
variable {dst:Option Tmp}{ty:TypeId}{pos:String}{after:Array Edge}{g:Option (Nat × Bool)}{a:Act}{w:World}{T:Value→World→Prop}
theorem rn_ld_49 {x:Operand}{S o:Nat}{v0 v1 v2 v3 v4 v5 v6:Value}(hx:a.eval x=.pointer (some ⟨S,o,none⟩)) (h0:w.cell? ⟨S,o,none⟩=some v0) (h1:w.cell? ⟨S,o+1,none⟩=some v1) (h2:w.cell? ⟨S,o+2,none⟩=some v2) (h3:w.cell? ⟨S,o+3,none⟩=some v3) (h4:w.cell? ⟨S,o+4,none⟩=some v4) (h5:w.cell? ⟨S,o+5,none⟩=some v5) (h6:w.cell? ⟨S,o+6,none⟩=some v6) (h:T (.agg #[v0,v1,v2,v3,v4,v5,v6]) w):Runs Tryz.prog ⟨dst,.load 49 x,ty,pos,after,g⟩ a w T:=by
 refine Runs.value (v:=.agg #[v0,v1,v2,v3,v4,v5,v6]) (w':=w) ?_ h
 simp only [execOp,hx]
 go_simp
theorem rn_idx_40 {x y:Operand}{b o n c:Nat}(i:Nat) (hx:a.eval x=.slice (some ⟨b,o,none⟩) n c) (hy:a.eval y=.int .i64 (i:Int)) (hi:i < n) (h:T (.pointer (some ⟨b,o+i * 7,none⟩)) w):Runs Tryz.prog ⟨dst,.indexAddr 40 x y,ty,pos,after,g⟩ a w T:=by
 have hi2:(i:Int) < (n:Int):=by omega
 refine Runs.value (v:=.pointer (some ⟨b,o+i * 7,none⟩)) (w':=w) ?_ h
 simp only [execOp,hx,hy]
 go_simp
theorem rn_st_49 {x y:Operand}{S o:Nat}{v0:Int}{v1:ByteArray}{v2:Int}{v3p:Option Addr}{v3n v3c:Nat}{v4p:Option Addr}{v4n v4c:Nat}{v5p:Option Addr}{v5n v5c:Nat}{v6:Int}{u0 u1 u2 u3 u4 u5 u6:Value}(hx:a.eval x=.pointer (some ⟨S,o,none⟩)) (hy:a.eval y=.agg #[.int .i64 v0,.string v1,.int .i64 v2,.slice v3p v3n v3c,.slice v4p v4n v4c,.slice v5p v5n v5c,.int .i64 v6]) (h0:w.cell? ⟨S,o,none⟩=some u0) (h1:w.cell? ⟨S,o+1,none⟩=some u1) (h2:w.cell? ⟨S,o+2,none⟩=some u2) (h3:w.cell? ⟨S,o+3,none⟩=some u3) (h4:w.cell? ⟨S,o+4,none⟩=some u4) (h5:w.cell? ⟨S,o+5,none⟩=some u5) (h6:w.cell? ⟨S,o+6,none⟩=some u6) (hf:∀i,w.frozen? ⟨S,i,none⟩=false) (h:T undef (((((((w.setCell ⟨S,o,none⟩ (.int .i64 v0)).setCell ⟨S,o+1,none⟩ (.string v1)).setCell ⟨S,o+2,none⟩ (.int .i64 v2)).setCell ⟨S,o+3,none⟩ (.slice v3p v3n v3c)).setCell ⟨S,o+4,none⟩ (.slice v4p v4n v4c)).setCell ⟨S,o+5,none⟩ (.slice v5p v5n v5c)).setCell ⟨S,o+6,none⟩ (.int .i64 v6))):Runs Tryz.prog ⟨dst,.store 49 x y,ty,pos,after,g⟩ a w T:=by
 have hf0:=hf o
 have hf1:=hf (o+1)
 have hf2:=hf (o+2)
 have hf3:=hf (o+3)
 have hf4:=hf (o+4)
 have hf5:=hf (o+5)
 have hf6:=hf (o+6)
 refine Runs.skip (w':=(((((((w.setCell ⟨S,o,none⟩ (.int .i64 v0)).setCell ⟨S,o+1,none⟩ (.string v1)).setCell ⟨S,o+2,none⟩ (.int .i64 v2)).setCell ⟨S,o+3,none⟩ (.slice v3p v3n v3c)).setCell ⟨S,o+4,none⟩ (.slice v4p v4n v4c)).setCell ⟨S,o+5,none⟩ (.slice v5p v5n v5c)).setCell ⟨S,o+6,none⟩ (.int .i64 v6))) ?_ h
 simp only [execOp,hx,hy]
 go_simp
theorem rn_bz_40 (h:T (.slice (some ⟨w.heap.size,0,none⟩) 1 1) (w.alloc (.cells #[.int .i64 0,.string ⟨#[]⟩,.int .i64 0,.slice none 0 0,.slice none 0 0,.slice none 0 0,.int .i64 0] 49))):Runs Tryz.prog ⟨dst,.buildSlice 40 1 #[(0,.const (.agg #[.int .i64 0,.string ⟨#[]⟩,.int .i64 0,.slice none 0 0,.slice none 0 0,.slice none 0 0,.int .i64 0]))],ty,pos,after,g⟩ a w T:=by
 refine Runs.value (v:=.slice (some ⟨w.heap.size,0,none⟩) 1 1) (w':=w.alloc (.cells #[.int .i64 0,.string ⟨#[]⟩,.int .i64 0,.slice none 0 0,.slice none 0 0,.slice none 0 0,.int .i64 0] 49)) ?_ h
 simp only [execOp]
 go_simp
theorem rn_st_35 {x y:Operand}{S o:Nat}{v0:Int}{v1:ByteArray}{v2:Int}{v3:Int}{v4p:Option Addr}{v4n v4c:Nat}{v5:Int}{u0 u1 u2 u3 u4 u5:Value}(hx:a.eval x=.pointer (some ⟨S,o,none⟩)) (hy:a.eval y=.agg #[.int .i64 v0,.string v1,.int .i16 v2,.int .i64 v3,.slice v4p v4n v4c,.int .i64 v5]) (h0:w.cell? ⟨S,o,none⟩=some u0) (h1:w.cell? ⟨S,o+1,none⟩=some u1) (h2:w.cell? ⟨S,o+2,none⟩=some u2) (h3:w.cell? ⟨S,o+3,none⟩=some u3) (h4:w.cell? ⟨S,o+4,none⟩=some u4) (h5:w.cell? ⟨S,o+5,none⟩=some u5) (hf:∀i,w.frozen? ⟨S,i,none⟩=false) (h:T undef ((((((w.setCell ⟨S,o,none⟩ (.int .i64 v0)).setCell ⟨S,o+1,none⟩ (.string v1)).setCell ⟨S,o+2,none⟩ (.int .i16 v2)).setCell ⟨S,o+3,none⟩ (.int .i64 v3)).setCell ⟨S,o+4,none⟩ (.slice v4p v4n v4c)).setCell ⟨S,o+5,none⟩ (.int .i64 v5))):Runs Tryz.prog ⟨dst,.store 35 x y,ty,pos,after,g⟩ a w T:=by
 have hf0:=hf o
 have hf1:=hf (o+1)
 have hf2:=hf (o+2)
 have hf3:=hf (o+3)
 have hf4:=hf (o+4)
 have hf5:=hf (o+5)
 refine Runs.skip (w':=((((((w.setCell ⟨S,o,none⟩ (.int .i64 v0)).setCell ⟨S,o+1,none⟩ (.string v1)).setCell ⟨S,o+2,none⟩ (.int .i16 v2)).setCell ⟨S,o+3,none⟩ (.int .i64 v3)).setCell ⟨S,o+4,none⟩ (.slice v4p v4n v4c)).setCell ⟨S,o+5,none⟩ (.int .i64 v5))) ?_ h
 simp only [execOp,hx,hy]
 go_simp
theorem rn_bz_33 (h:T (.slice (some ⟨w.heap.size,0,none⟩) 1 1) (w.alloc (.cells #[.int .i64 0,.string ⟨#[]⟩,.int .i16 0,.int .i64 0,.slice none 0 0,.int .i64 0] 35))):Runs Tryz.prog ⟨dst,.buildSlice 33 1 #[(0,.const (.agg #[.int .i64 0,.string ⟨#[]⟩,.int .i16 0,.int .i64 0,.slice none 0 0,.int .i64 0]))],ty,pos,after,g⟩ a w T:=by
 refine Runs.value (v:=.slice (some ⟨w.heap.size,0,none⟩) 1 1) (w':=w.alloc (.cells #[.int .i64 0,.string ⟨#[]⟩,.int .i16 0,.int .i64 0,.slice none 0 0,.int .i64 0] 35)) ?_ h
 simp only [execOp]
 go_simp
end
theorem SAt.kept1 {B:Nat→Prop}{w w':World}{x:Sm}{d:Sd}(h:SAt B w x d) (hg:Grew w w'):SAt B w' x d:=by
 rw [SAt_iff] at h ⊢
 obtain ⟨ap,ac,bp,bc,ep,ec,h1,h2,h3,h4,h5⟩:=h
 exact⟨ap,ac,bp,bc,ep,ec,h1,h2,h3.kept hg,h4.kept hg,h5.kept hg⟩
theorem XAt.kept1 {B:Nat→Prop}{w w':World}{x:Xp}{d:Xd}(h:XAt B w x d) (hg:Grew w w'):XAt B w' x d:=by
 rw [XAt_iff] at h ⊢
 obtain ⟨p,c,h1,h2,h3⟩:=h
 exact⟨p,c,h1,h2,h3.kept hg⟩
theorem lastS_set {w:World}{base:Nat}{e:TypeId}{L:List Sd}{g n c o:Nat}{kk qq nn:Int}{ss:ByteArray}{ap bp ep:Option Addr}{an ac bn bc en_ ec:Nat}(h:OwR w base e 7 sdc (.slice (some ⟨g,0,none⟩) n c) (L++[(⟨0,⟨#[]⟩,0,none,0,0,none,0,0,none,0,0,0⟩:Sd)])) (ho:o=L.length * 7) :
 OwR (((((((w.setCell ⟨g,o,none⟩ (.int .i64 kk)).setCell ⟨g,o+1,none⟩ (.string ss)).setCell ⟨g,o+2,none⟩ (.int .i64 nn)).setCell ⟨g,o+3,none⟩ (.slice ap an ac)).setCell ⟨g,o+4,none⟩ (.slice bp bn bc)).setCell ⟨g,o+5,none⟩ (.slice ep en_ ec)).setCell ⟨g,o+6,none⟩ (.int .i64 qq)) base e 7 sdc (.slice (some ⟨g,0,none⟩) n c) (L++[(⟨kk,ss,nn,ap,an,ac,bp,bn,bc,ep,en_,ec,qq⟩:Sd)]):=by
 replace h:=h.setLast1 encSd 0 (⟨kk,⟨#[]⟩,0,none,0,0,none,0,0,none,0,0,0⟩:Sd) (.int .i64 kk) (by decide) rfl (o:=o) (by omega)
 replace h:=h.setLast1 encSd 1 (⟨kk,ss,0,none,0,0,none,0,0,none,0,0,0⟩:Sd) (.string ss) (by decide) rfl (o:=o+1) (by omega)
 replace h:=h.setLast1 encSd 2 (⟨kk,ss,nn,none,0,0,none,0,0,none,0,0,0⟩:Sd) (.int .i64 nn) (by decide) rfl (o:=o+2) (by omega)
 replace h:=h.setLast1 encSd 3 (⟨kk,ss,nn,ap,an,ac,none,0,0,none,0,0,0⟩:Sd) (.slice ap an ac) (by decide) rfl (o:=o+3) (by omega)
 replace h:=h.setLast1 encSd 4 (⟨kk,ss,nn,ap,an,ac,bp,bn,bc,none,0,0,0⟩:Sd) (.slice bp bn bc) (by decide) rfl (o:=o+4) (by omega)
 replace h:=h.setLast1 encSd 5 (⟨kk,ss,nn,ap,an,ac,bp,bn,bc,ep,en_,ec,0⟩:Sd) (.slice ep en_ ec) (by decide) rfl (o:=o+5) (by omega)
 replace h:=h.setLast1 encSd 6 (⟨kk,ss,nn,ap,an,ac,bp,bn,bc,ep,en_,ec,qq⟩:Sd) (.int .i64 qq) (by decide) rfl (o:=o+6) (by omega)
 exact h
theorem lastS_chg (w:World) (g o:Nat) (v0:Value) (v1:Value) (v2:Value) (v3:Value) (v4:Value) (v5:Value) (v6:Value):Chg w (((((((w.setCell ⟨g,o,none⟩ v0).setCell ⟨g,o+1,none⟩ v1).setCell ⟨g,o+2,none⟩ v2).setCell ⟨g,o+3,none⟩ v3).setCell ⟨g,o+4,none⟩ v4).setCell ⟨g,o+5,none⟩ v5).setCell ⟨g,o+6,none⟩ v6) (fun j=>j=g):=(((((((Chg.set w ⟨g,o,none⟩ v0:Chg w _ (fun j=>j=g)).then_set ⟨g,o+1,none⟩ v1 (rfl:g=g)).then_set ⟨g,o+2,none⟩ v2 (rfl:g=g)).then_set ⟨g,o+3,none⟩ v3 (rfl:g=g)).then_set ⟨g,o+4,none⟩ v4 (rfl:g=g)).then_set ⟨g,o+5,none⟩ v5 (rfl:g=g)).then_set ⟨g,o+6,none⟩ v6 (rfl:g=g))
set_option maxHeartbeats 8000000 in
theorem takeS_any {S M most:Nat}{C B':Blks}{w0:World}(hm:most≤1048576) (hBC:∀b,B' b→¬ C b) (P1:Blks) (pre:List Sm) (x:Sm) (d:Sd) (W1:World) (hT:Took SsAt 7 sdc 49 40 3 S M most C w0 P1 pre W1) (hlt:pre.length < most) (hx:SAt B' W1 x d) (hB:∀b,B' b→P1 b) (hPW:∀b,P1 b→b < W1.heap.size) :
 Calls Tryz.prog 26 #[.agg (sdc d).toArray,.pointer (some ⟨S,0,none⟩),.pointer (some ⟨M,0,none⟩)] W1 fun e W'=>Took SsAt 7 sdc 49 40 3 S M most C w0 P1 (pre++[x]) W'∧Kept P1 W1 W'∧e=.returned (.bool (decide (pre.length+1 < most))):=by
 obtain ⟨kk,ss,nn,ap,an,ac,bp,bn,bc,ep,en_,ec,qq⟩:=d
 obtain ⟨h1,h2,h3,h4,B,p1,n1,c1,L,h5,h5',h6,h7,h8,h9,h10⟩:=hT
 have K1:=zh h1
 have K2:=zh h2
 have K3:=zh h3
 have K4:=zh h4
 have K5:=zh h5
 have K6:=zh h5'
 have K7:=zh h7
 have K8:=zh h8
 have K9:=zh h9
 have K10:=zh h10
 have KB:=zh hB
 have KP:=zh hPW
 have KC:=zh hBC
 have KX:=zh hx
 have KL:=zh hlt
 have hnm:n1 < 1048576:=by omega
 have hcap:=((h7.rd encSd).2).cap
 have hcm:=((h7.rd encSd).2).max
 clear h1 h2 h3 h4 h7 h8 h9 h10 hB hPW hBC hx hlt
 go_enter Tryz.func26,Tryz.ntmps26
 go_upto_region 1 with fail
 have HX:Hid (Blk W1.heap.size [.int .i64 kk,.string ss,.int .i64 nn,.slice ap an ac,.slice bp bn bc,.slice ep en_ ec,.int .i64 qq] 49 (W1.alloc (.cells #[.int .i64 kk,.string ss,.int .i64 nn,.slice ap an ac,.slice bp bn bc,.slice ep en_ ec,.int .i64 qq] 49))):=zh (Blk.new W1 [.int .i64 kk,.string ss,.int .i64 nn,.slice ap an ac,.slice bp bn bc,.slice ep en_ ec,.int .i64 qq] _)
 have HGV:Hid (Grew W1 (W1.alloc (.cells #[.int .i64 kk,.string ss,.int .i64 nn,.slice ap an ac,.slice bp bn bc,.slice ep en_ ec,.int .i64 qq] 49))):=zh ((Grew.refl _).alloc _)
 generalize W1.alloc _=V at HX HGV ⊢
 have hgd:∀w,Grew V.drew w→Grew V w:=fun w hR=>(Grew.refl V).drw.trans hR
 refine wp_grew_tail 4 [some 5,some 6,some 7,some 8] (Zfc (Zfa (Ztc (Zfc (Zfb []))))) [fun v _=>v=.slice p1 n1 c1,fun v _=>v=.agg #[.int .i64 kk,.string ss,.int .i64 nn,.slice ap an ac,.slice bp bn bc,.slice ep en_ ec,.int .i64 qq],fun v _=>v=.int .i64 ((n1:Nat):Int),fun v w=>∃q,v=.slice (some ⟨q,0,none⟩) 1 1∧Rw 7 sdc w (some ⟨q,0,none⟩) 1 [(⟨0,⟨#[]⟩,0,none,0,0,none,0,0,none,0,0,0⟩:Sd)]] (by kernel_rfl) (by kernel_rfl) (by kernel_rfl) rfl ?_ ⟨?_,?_,?_,?_,trivial⟩ ?_
 ·exact⟨Zi,Zi,Zi,fun _ _ _ hg ⟨q,a1,a2⟩=>⟨q,a1,a2.kept hg⟩,trivial⟩
 ·intro u w hR hd;exact rn_ld_40 (ev rfl) ((h6.grew (HGV.out.trans (hgd w hR))).cell 0) Zr
 ·intro u w hR hd;exact rn_ld_49 (o:=0) (ev rfl) (by simpa using (HX.out.grew (hgd w hR)).cell 0) (by simpa using (HX.out.grew (hgd w hR)).cell 1) (by simpa using (HX.out.grew (hgd w hR)).cell 2) (by simpa using (HX.out.grew (hgd w hR)).cell 3) (by simpa using (HX.out.grew (hgd w hR)).cell 4) (by simpa using (HX.out.grew (hgd w hR)).cell 5) (by simpa using (HX.out.grew (hgd w hR)).cell 6) Zr
 ·intro u w hR hd;exact rn_len_40 (ev (hd.1 rfl)) Zr
 ·intro u w hR hd;exact rn_bz_40 ⟨(Grew.refl _).alloc _,⟨_,rfl,Rw.made encSd w [(⟨0,⟨#[]⟩,0,none,0,0,none,0,0,none,0,0,0⟩:Sd)] 1 _ _ _ rfl rfl (by decide)⟩⟩
 ·intro u w4 hR h
  have g4:Grew W1 w4:=HGV.out.trans (hgd w4 hR)
  have e0:u 5=.slice p1 n1 c1:=h 0 (by decide)
  have e1:u 6=.agg #[.int .i64 kk,.string ss,.int .i64 nn,.slice ap an ac,.slice bp bn bc,.slice ep en_ ec,.int .i64 qq]:=h 1 (by decide)
  have e2:u 7=.int .i64 ((n1:Nat):Int):=h 2 (by decide)
  obtain ⟨q3,e3,hin⟩:∃q,u 8=.slice (some ⟨q,0,none⟩) 1 1∧Rw 7 sdc w4 (some ⟨q,0,none⟩) 1 [(⟨0,⟨#[]⟩,0,none,0,0,none,0,0,none,0,0,0⟩:Sd)]:=h 3 (by decide)
  have hat4:SsAt B' w4 [x] [(⟨kk,ss,nn,ap,an,ac,bp,bn,bc,ep,en_,ec,qq⟩:Sd)]:=by
   rw [SsAt]
   exact⟨_,[],rfl,(SAt.kept1 KX.out g4),by rw [SsAt]⟩
  refine wpAny_one (i:=4) (some 9) (by kernel_rfl) rfl rfl rfl (runs_append_rowO encSd w0.heap.size 49 zS 112 Tryz.underlying40 infoS rfl _ L (ev e0) (K7.out.kept g4) _ 1 1 [(⟨0,⟨#[]⟩,0,none,0,0,none,0,0,none,0,0,0⟩:Sd)] (ev e3) rfl hin (by rw [K6.out,List.length_singleton];omega) (by rw [K6.out,List.length_singleton];omega) (Nat.le_trans K1.out.sz g4.sz) fun p' c' w5 ho5 hb5 hc5 how5=>?_)
  obtain ⟨g,rfl⟩:=ho5.addr (by simp)
  have hlen:L.length+[(⟨0,⟨#[]⟩,0,none,0,0,none,0,0,none,0,0,0⟩:Sd)].length=n1+1:=by rw [K6.out];rfl
  rw [hlen] at ho5 how5 ⊢
  have hS5:Blk S [.slice p1 n1 c1] 40 w5:=(h6.grew g4).chg hc5 (fun hs=>by
   rw [ownBlock_sl] at hs
   cases p1 with
   | none=>cases hs
   | some a=>exact(K9.out a rfl).2.2.1 (by simpa using hs))
  have hgS:g≠S:=by
   rcases how5 with hw | hw
   ·rw [ownBlock_sl,ownBlock_sl] at hw
    cases p1 with
    | none=>cases hw
    | some a=>intro e;exact(K9.out a rfl).2.2.1 (by rw [← e];simpa using hw.symm)
   ·rw [ownBlock_sl] at hw
    have h1:g=w4.heap.size:=by simpa using hw
    have h2:=(h6.grew g4).lt
    omega
  have hz:∀W,OwR W w0.heap.size 49 7 sdc (.slice (some ⟨g,0,none⟩) (n1+1) c') (L++[(⟨0,⟨#[]⟩,0,none,0,0,none,0,0,none,0,0,0⟩:Sd)])→(∀j v,(sdc (⟨0,⟨#[]⟩,0,none,0,0,none,0,0,none,0,0,0⟩:Sd))[j]?=some v→W.cell? ⟨g,0+n1 * 7+j,none⟩=some v)∧∀i,W.frozen? ⟨g,i,none⟩=false:=fun W ho=>by
   refine⟨fun j v hv=>?_,fun i=>(ho.free encSd i).2⟩
   obtain ⟨b_,o_,hb_,hc_⟩:=(ho.rd encSd).2.rd.cells (by simp)
   have hb2:=Option.some.inj hb_
   simp only [Addr.mk.injEq] at hb2
   obtain ⟨rfl,rfl,_⟩:=hb2
   exact hc_ n1 (⟨0,⟨#[]⟩,0,none,0,0,none,0,0,none,0,0,0⟩:Sd) (by rw [← K6.out];simp) j v hv
  have hon:0+n1 * 7=L.length * 7:=by rw [K6.out];omega
  refine wpAny_both (i:=5) (j:=7) (some 10) none (by kernel_rfl) rfl rfl rfl rfl rfl rfl ?_ ?_
  ·refine rn_idx_40 n1 (ev rfl) (ev e2) (by omega) ?_
   refine wpAny_both (i:=6) (j:=7) none none (by kernel_rfl) rfl rfl rfl rfl rfl rfl ?_ ?_
   ·obtain ⟨hz1,hf1⟩:=hz w5 ho5
    refine rn_st_49 (ev rfl) (ev e1) (hz1 0 _ rfl) (hz1 1 _ rfl) (hz1 2 _ rfl) (hz1 3 _ rfl) (hz1 4 _ rfl) (hz1 5 _ rfl) (hz1 6 _ rfl) hf1 ?_
    have hO6:=lastS_set (kk:=kk) (qq:=qq) (ss:=ss) (nn:=nn) (ap:=ap) (an:=an) (ac:=ac) (bp:=bp) (bn:=bn) (bc:=bc) (ep:=ep) (en_:=en_) (ec:=ec) ho5 hon
    have hC6:Chg w5 (((((((w5.setCell ⟨g,0+n1 * 7,none⟩ (.int .i64 kk)).setCell ⟨g,0+n1 * 7+1,none⟩ (.string ss)).setCell ⟨g,0+n1 * 7+2,none⟩ (.int .i64 nn)).setCell ⟨g,0+n1 * 7+3,none⟩ (.slice ap an ac)).setCell ⟨g,0+n1 * 7+4,none⟩ (.slice bp bn bc)).setCell ⟨g,0+n1 * 7+5,none⟩ (.slice ep en_ ec)).setCell ⟨g,0+n1 * 7+6,none⟩ (.int .i64 qq)) (fun j=>j=g):=lastS_chg w5 g _ _ _ _ _ _ _ _
    have hS6:=hS5.chg hC6 (fun h=>hgS h.symm)
    generalize (((((((w5.setCell ⟨g,0+n1 * 7,none⟩ (.int .i64 kk)).setCell ⟨g,0+n1 * 7+1,none⟩ (.string ss)).setCell ⟨g,0+n1 * 7+2,none⟩ (.int .i64 nn)).setCell ⟨g,0+n1 * 7+3,none⟩ (.slice ap an ac)).setCell ⟨g,0+n1 * 7+4,none⟩ (.slice bp bn bc)).setCell ⟨g,0+n1 * 7+5,none⟩ (.slice ep en_ ec)).setCell ⟨g,0+n1 * 7+6,none⟩ (.int .i64 qq))=w6 at hO6 hC6 hS6 ⊢
    refine wpAny_one (i:=7) none (by kernel_rfl) rfl rfl rfl (rn_st_40 (ev rfl) (ev rfl) (hS6.cell 0) (hS6.free 0) ?_)
    have hO:=hO6.chg (Chg.set w6 ⟨S,0,none⟩ (.slice (some ⟨g,0,none⟩) (n1+1) c')) (fun a ha hs=>hgS (by obtain rfl:=Option.some.inj ha;exact hs))
    have hS:=hS6.set 0 (.slice (some ⟨g,0,none⟩) (n1+1) c')
    have hC:Chg w5 (w6.setCell ⟨S,0,none⟩ (.slice (some ⟨g,0,none⟩) (n1+1) c')) (fun j=>j=g∨j=S):=(hC6.mono fun _ h=>.inl h).trans ((Chg.set _ _ _).mono fun _ h=>.inr h)
    refine wpAny_done (by kernel_rfl) ?_ _
    have hfin:=Took.more hangsS K1.out K2.out K3.out K4.out KP.out KB.out KC.out K5.out K6.out h6 K7.out K8.out K9.out K10.out g4 hat4 hc5 how5 hO hS hC
    have HF:=zh hfin
    have cS':=hS.cell 0
    have lS':=hS.lt
    have cM':=hfin.1.num.cell 0
    have lM':=hfin.1.num.lt
    simp only [zz7] at cS' cM'
    generalize (w6.setCell ⟨S,0,none⟩ (.slice (some ⟨g,0,none⟩) (n1+1) c'))=WE at cS' lS' cM' lM' HF ⊢
    clear hfin hO hS hC hc5 how5 hat4 h hR
    simp only [zz1,zz2,zz3,Act.put,mixA,mixL,zz9,zz0,zz4,zz5,zz6]
    go_wp2
    go_ret
    exact⟨HF.out.1,HF.out.2,ret_bool (decide_eq_decide.2 (by omega))⟩

   ·refine rn_st_40 (ev rfl) (ev rfl) (hS5.cell 0) (hS5.free 0) ?_
    have hO7:=ho5.chg (Chg.set w5 ⟨S,0,none⟩ (.slice (some ⟨g,0,none⟩) (n1+1) c')) (fun a ha hs=>hgS (by obtain rfl:=Option.some.inj ha;exact hs))
    have hS7:=hS5.set 0 (.slice (some ⟨g,0,none⟩) (n1+1) c')
    obtain ⟨hz1,hf1⟩:=hz _ hO7
    refine wpAny_one (i:=6) none (by kernel_rfl) rfl rfl rfl (rn_st_49 (ev rfl) (ev e1) (hz1 0 _ rfl) (hz1 1 _ rfl) (hz1 2 _ rfl) (hz1 3 _ rfl) (hz1 4 _ rfl) (hz1 5 _ rfl) (hz1 6 _ rfl) hf1 ?_)
    have hO:=lastS_set (kk:=kk) (qq:=qq) (ss:=ss) (nn:=nn) (ap:=ap) (an:=an) (ac:=ac) (bp:=bp) (bn:=bn) (bc:=bc) (ep:=ep) (en_:=en_) (ec:=ec) hO7 hon
    have hC6:Chg (w5.setCell ⟨S,0,none⟩ (.slice (some ⟨g,0,none⟩) (n1+1) c')) ((((((((w5.setCell ⟨S,0,none⟩ (.slice (some ⟨g,0,none⟩) (n1+1) c')).setCell ⟨g,0+n1 * 7,none⟩ (.int .i64 kk)).setCell ⟨g,0+n1 * 7+1,none⟩ (.string ss)).setCell ⟨g,0+n1 * 7+2,none⟩ (.int .i64 nn)).setCell ⟨g,0+n1 * 7+3,none⟩ (.slice ap an ac)).setCell ⟨g,0+n1 * 7+4,none⟩ (.slice bp bn bc)).setCell ⟨g,0+n1 * 7+5,none⟩ (.slice ep en_ ec)).setCell ⟨g,0+n1 * 7+6,none⟩ (.int .i64 qq)) (fun j=>j=g):=lastS_chg (w5.setCell ⟨S,0,none⟩ (.slice (some ⟨g,0,none⟩) (n1+1) c')) g _ _ _ _ _ _ _ _
    have hS:=hS7.chg hC6 (fun h=>hgS h.symm)
    have hC:Chg w5 ((((((((w5.setCell ⟨S,0,none⟩ (.slice (some ⟨g,0,none⟩) (n1+1) c')).setCell ⟨g,0+n1 * 7,none⟩ (.int .i64 kk)).setCell ⟨g,0+n1 * 7+1,none⟩ (.string ss)).setCell ⟨g,0+n1 * 7+2,none⟩ (.int .i64 nn)).setCell ⟨g,0+n1 * 7+3,none⟩ (.slice ap an ac)).setCell ⟨g,0+n1 * 7+4,none⟩ (.slice bp bn bc)).setCell ⟨g,0+n1 * 7+5,none⟩ (.slice ep en_ ec)).setCell ⟨g,0+n1 * 7+6,none⟩ (.int .i64 qq)) (fun j=>j=g∨j=S):=((Chg.set _ _ _).mono fun _ h=>.inr h).trans (hC6.mono fun _ h=>.inl h)
    refine wpAny_done (by kernel_rfl) ?_ _
    have hfin:=Took.more hangsS K1.out K2.out K3.out K4.out KP.out KB.out KC.out K5.out K6.out h6 K7.out K8.out K9.out K10.out g4 hat4 hc5 how5 hO hS hC
    have HF:=zh hfin
    have cS':=hS.cell 0
    have lS':=hS.lt
    have cM':=hfin.1.num.cell 0
    have lM':=hfin.1.num.lt
    simp only [zz7] at cS' cM'
    generalize ((((((((w5.setCell ⟨S,0,none⟩ (.slice (some ⟨g,0,none⟩) (n1+1) c')).setCell ⟨g,0+n1 * 7,none⟩ (.int .i64 kk)).setCell ⟨g,0+n1 * 7+1,none⟩ (.string ss)).setCell ⟨g,0+n1 * 7+2,none⟩ (.int .i64 nn)).setCell ⟨g,0+n1 * 7+3,none⟩ (.slice ap an ac)).setCell ⟨g,0+n1 * 7+4,none⟩ (.slice bp bn bc)).setCell ⟨g,0+n1 * 7+5,none⟩ (.slice ep en_ ec)).setCell ⟨g,0+n1 * 7+6,none⟩ (.int .i64 qq))=WE at cS' lS' cM' lM' HF ⊢
    clear hfin hO hS hC hc5 how5 hat4 h hR
    simp only [zz1,zz2,zz3,Act.put,mixA,mixL,zz9,zz0,zz4,zz5,zz6]
    go_wp2
    go_ret
    exact⟨HF.out.1,HF.out.2,ret_bool (decide_eq_decide.2 (by omega))⟩
  ·refine rn_st_40 (ev rfl) (ev rfl) (hS5.cell 0) (hS5.free 0) ?_
   refine wpAny_one (i:=5) (some 10) (by kernel_rfl) rfl rfl rfl (rn_idx_40 n1 (ev rfl) (ev e2) (by omega) ?_)
   have hO7:=ho5.chg (Chg.set w5 ⟨S,0,none⟩ (.slice (some ⟨g,0,none⟩) (n1+1) c')) (fun a ha hs=>hgS (by obtain rfl:=Option.some.inj ha;exact hs))
   have hS7:=hS5.set 0 (.slice (some ⟨g,0,none⟩) (n1+1) c')
   obtain ⟨hz1,hf1⟩:=hz _ hO7
   refine wpAny_one (i:=6) none (by kernel_rfl) rfl rfl rfl (rn_st_49 (ev rfl) (ev e1) (hz1 0 _ rfl) (hz1 1 _ rfl) (hz1 2 _ rfl) (hz1 3 _ rfl) (hz1 4 _ rfl) (hz1 5 _ rfl) (hz1 6 _ rfl) hf1 ?_)
   have hO:=lastS_set (kk:=kk) (qq:=qq) (ss:=ss) (nn:=nn) (ap:=ap) (an:=an) (ac:=ac) (bp:=bp) (bn:=bn) (bc:=bc) (ep:=ep) (en_:=en_) (ec:=ec) hO7 hon
   have hC6:Chg (w5.setCell ⟨S,0,none⟩ (.slice (some ⟨g,0,none⟩) (n1+1) c')) ((((((((w5.setCell ⟨S,0,none⟩ (.slice (some ⟨g,0,none⟩) (n1+1) c')).setCell ⟨g,0+n1 * 7,none⟩ (.int .i64 kk)).setCell ⟨g,0+n1 * 7+1,none⟩ (.string ss)).setCell ⟨g,0+n1 * 7+2,none⟩ (.int .i64 nn)).setCell ⟨g,0+n1 * 7+3,none⟩ (.slice ap an ac)).setCell ⟨g,0+n1 * 7+4,none⟩ (.slice bp bn bc)).setCell ⟨g,0+n1 * 7+5,none⟩ (.slice ep en_ ec)).setCell ⟨g,0+n1 * 7+6,none⟩ (.int .i64 qq)) (fun j=>j=g):=lastS_chg (w5.setCell ⟨S,0,none⟩ (.slice (some ⟨g,0,none⟩) (n1+1) c')) g _ _ _ _ _ _ _ _
   have hS:=hS7.chg hC6 (fun h=>hgS h.symm)
   have hC:Chg w5 ((((((((w5.setCell ⟨S,0,none⟩ (.slice (some ⟨g,0,none⟩) (n1+1) c')).setCell ⟨g,0+n1 * 7,none⟩ (.int .i64 kk)).setCell ⟨g,0+n1 * 7+1,none⟩ (.string ss)).setCell ⟨g,0+n1 * 7+2,none⟩ (.int .i64 nn)).setCell ⟨g,0+n1 * 7+3,none⟩ (.slice ap an ac)).setCell ⟨g,0+n1 * 7+4,none⟩ (.slice bp bn bc)).setCell ⟨g,0+n1 * 7+5,none⟩ (.slice ep en_ ec)).setCell ⟨g,0+n1 * 7+6,none⟩ (.int .i64 qq)) (fun j=>j=g∨j=S):=((Chg.set _ _ _).mono fun _ h=>.inr h).trans (hC6.mono fun _ h=>.inl h)
   refine wpAny_done (by kernel_rfl) ?_ _
   have hfin:=Took.more hangsS K1.out K2.out K3.out K4.out KP.out KB.out KC.out K5.out K6.out h6 K7.out K8.out K9.out K10.out g4 hat4 hc5 how5 hO hS hC
   have HF:=zh hfin
   have cS':=hS.cell 0
   have lS':=hS.lt
   have cM':=hfin.1.num.cell 0
   have lM':=hfin.1.num.lt
   simp only [zz7] at cS' cM'
   generalize ((((((((w5.setCell ⟨S,0,none⟩ (.slice (some ⟨g,0,none⟩) (n1+1) c')).setCell ⟨g,0+n1 * 7,none⟩ (.int .i64 kk)).setCell ⟨g,0+n1 * 7+1,none⟩ (.string ss)).setCell ⟨g,0+n1 * 7+2,none⟩ (.int .i64 nn)).setCell ⟨g,0+n1 * 7+3,none⟩ (.slice ap an ac)).setCell ⟨g,0+n1 * 7+4,none⟩ (.slice bp bn bc)).setCell ⟨g,0+n1 * 7+5,none⟩ (.slice ep en_ ec)).setCell ⟨g,0+n1 * 7+6,none⟩ (.int .i64 qq))=WE at cS' lS' cM' lM' HF ⊢
   clear hfin hO hS hC hc5 how5 hat4 h hR
   simp only [zz1,zz2,zz3,Act.put,mixA,mixL,zz9,zz0,zz4,zz5,zz6]
   go_wp2
   go_ret
   exact⟨HF.out.1,HF.out.2,ret_bool (decide_eq_decide.2 (by omega))⟩
theorem lastX_set {w:World}{base:Nat}{e:TypeId}{L:List Xd}{g n c o:Nat}{kk qq vv oo:Int}{ss:ByteArray}{ap:Option Addr}{an ac:Nat}(h:OwR w base e 6 xdc (.slice (some ⟨g,0,none⟩) n c) (L++[(⟨0,⟨#[]⟩,0,0,none,0,0,0⟩:Xd)])) (ho:o=L.length * 6) :
 OwR ((((((w.setCell ⟨g,o,none⟩ (.int .i64 kk)).setCell ⟨g,o+1,none⟩ (.string ss)).setCell ⟨g,o+2,none⟩ (.int .i16 vv)).setCell ⟨g,o+3,none⟩ (.int .i64 oo)).setCell ⟨g,o+4,none⟩ (.slice ap an ac)).setCell ⟨g,o+5,none⟩ (.int .i64 qq)) base e 6 xdc (.slice (some ⟨g,0,none⟩) n c) (L++[(⟨kk,ss,vv,oo,ap,an,ac,qq⟩:Xd)]):=by
 replace h:=h.setLast1 encXd 0 (⟨kk,⟨#[]⟩,0,0,none,0,0,0⟩:Xd) (.int .i64 kk) (by decide) rfl (o:=o) (by omega)
 replace h:=h.setLast1 encXd 1 (⟨kk,ss,0,0,none,0,0,0⟩:Xd) (.string ss) (by decide) rfl (o:=o+1) (by omega)
 replace h:=h.setLast1 encXd 2 (⟨kk,ss,vv,0,none,0,0,0⟩:Xd) (.int .i16 vv) (by decide) rfl (o:=o+2) (by omega)
 replace h:=h.setLast1 encXd 3 (⟨kk,ss,vv,oo,none,0,0,0⟩:Xd) (.int .i64 oo) (by decide) rfl (o:=o+3) (by omega)
 replace h:=h.setLast1 encXd 4 (⟨kk,ss,vv,oo,ap,an,ac,0⟩:Xd) (.slice ap an ac) (by decide) rfl (o:=o+4) (by omega)
 replace h:=h.setLast1 encXd 5 (⟨kk,ss,vv,oo,ap,an,ac,qq⟩:Xd) (.int .i64 qq) (by decide) rfl (o:=o+5) (by omega)
 exact h
theorem lastX_chg (w:World) (g o:Nat) (v0:Value) (v1:Value) (v2:Value) (v3:Value) (v4:Value) (v5:Value):Chg w ((((((w.setCell ⟨g,o,none⟩ v0).setCell ⟨g,o+1,none⟩ v1).setCell ⟨g,o+2,none⟩ v2).setCell ⟨g,o+3,none⟩ v3).setCell ⟨g,o+4,none⟩ v4).setCell ⟨g,o+5,none⟩ v5) (fun j=>j=g):=((((((Chg.set w ⟨g,o,none⟩ v0:Chg w _ (fun j=>j=g)).then_set ⟨g,o+1,none⟩ v1 (rfl:g=g)).then_set ⟨g,o+2,none⟩ v2 (rfl:g=g)).then_set ⟨g,o+3,none⟩ v3 (rfl:g=g)).then_set ⟨g,o+4,none⟩ v4 (rfl:g=g)).then_set ⟨g,o+5,none⟩ v5 (rfl:g=g))
set_option maxHeartbeats 8000000 in
theorem takeX_any {S M most:Nat}{C B':Blks}{w0:World}(hm:most≤1048576) (hBC:∀b,B' b→¬ C b) (P1:Blks) (pre:List Xp) (x:Xp) (d:Xd) (W1:World) (hT:Took XsAt 6 xdc 35 33 3 S M most C w0 P1 pre W1) (hlt:pre.length < most) (hx:XAt B' W1 x d) (hB:∀b,B' b→P1 b) (hPW:∀b,P1 b→b < W1.heap.size) :
 Calls Tryz.prog 28 #[.agg (xdc d).toArray,.pointer (some ⟨S,0,none⟩),.pointer (some ⟨M,0,none⟩)] W1 fun e W'=>Took XsAt 6 xdc 35 33 3 S M most C w0 P1 (pre++[x]) W'∧Kept P1 W1 W'∧e=.returned (.bool (decide (pre.length+1 < most))):=by
 obtain ⟨kk,ss,vv,oo,ap,an,ac,qq⟩:=d
 obtain ⟨h1,h2,h3,h4,B,p1,n1,c1,L,h5,h5',h6,h7,h8,h9,h10⟩:=hT
 have K1:=zh h1
 have K2:=zh h2
 have K3:=zh h3
 have K4:=zh h4
 have K5:=zh h5
 have K6:=zh h5'
 have K7:=zh h7
 have K8:=zh h8
 have K9:=zh h9
 have K10:=zh h10
 have KB:=zh hB
 have KP:=zh hPW
 have KC:=zh hBC
 have KX:=zh hx
 have KL:=zh hlt
 have hnm:n1 < 1048576:=by omega
 have hcap:=((h7.rd encXd).2).cap
 have hcm:=((h7.rd encXd).2).max
 clear h1 h2 h3 h4 h7 h8 h9 h10 hB hPW hBC hx hlt
 go_enter Tryz.func28,Tryz.ntmps28
 go_upto_region 1 with fail
 have HX:Hid (Blk W1.heap.size [.int .i64 kk,.string ss,.int .i16 vv,.int .i64 oo,.slice ap an ac,.int .i64 qq] 35 (W1.alloc (.cells #[.int .i64 kk,.string ss,.int .i16 vv,.int .i64 oo,.slice ap an ac,.int .i64 qq] 35))):=zh (Blk.new W1 [.int .i64 kk,.string ss,.int .i16 vv,.int .i64 oo,.slice ap an ac,.int .i64 qq] _)
 have HGV:Hid (Grew W1 (W1.alloc (.cells #[.int .i64 kk,.string ss,.int .i16 vv,.int .i64 oo,.slice ap an ac,.int .i64 qq] 35))):=zh ((Grew.refl _).alloc _)
 generalize W1.alloc _=V at HX HGV ⊢
 have hgd:∀w,Grew V.drew w→Grew V w:=fun w hR=>(Grew.refl V).drw.trans hR
 refine wp_grew_tail 4 [some 5,some 6,some 7,some 8] (Zfc (Zfa (Ztc (Zfc (Zfb []))))) [fun v _=>v=.slice p1 n1 c1,fun v _=>v=.agg #[.int .i64 kk,.string ss,.int .i16 vv,.int .i64 oo,.slice ap an ac,.int .i64 qq],fun v _=>v=.int .i64 ((n1:Nat):Int),fun v w=>∃q,v=.slice (some ⟨q,0,none⟩) 1 1∧Rw 6 xdc w (some ⟨q,0,none⟩) 1 [(⟨0,⟨#[]⟩,0,0,none,0,0,0⟩:Xd)]] (by kernel_rfl) (by kernel_rfl) (by kernel_rfl) rfl ?_ ⟨?_,?_,?_,?_,trivial⟩ ?_
 ·exact⟨Zi,Zi,Zi,fun _ _ _ hg ⟨q,a1,a2⟩=>⟨q,a1,a2.kept hg⟩,trivial⟩
 ·intro u w hR hd;exact rn_ld_33 (ev rfl) ((h6.grew (HGV.out.trans (hgd w hR))).cell 0) Zr
 ·intro u w hR hd;exact rn_ld_35 (o:=0) (ev rfl) (by simpa using (HX.out.grew (hgd w hR)).cell 0) (by simpa using (HX.out.grew (hgd w hR)).cell 1) (by simpa using (HX.out.grew (hgd w hR)).cell 2) (by simpa using (HX.out.grew (hgd w hR)).cell 3) (by simpa using (HX.out.grew (hgd w hR)).cell 4) (by simpa using (HX.out.grew (hgd w hR)).cell 5) Zr
 ·intro u w hR hd;exact rn_len_33 (ev (hd.1 rfl)) Zr
 ·intro u w hR hd;exact rn_bz_33 ⟨(Grew.refl _).alloc _,⟨_,rfl,Rw.made encXd w [(⟨0,⟨#[]⟩,0,0,none,0,0,0⟩:Xd)] 1 _ _ _ rfl rfl (by decide)⟩⟩
 ·intro u w4 hR h
  have g4:Grew W1 w4:=HGV.out.trans (hgd w4 hR)
  have e0:u 5=.slice p1 n1 c1:=h 0 (by decide)
  have e1:u 6=.agg #[.int .i64 kk,.string ss,.int .i16 vv,.int .i64 oo,.slice ap an ac,.int .i64 qq]:=h 1 (by decide)
  have e2:u 7=.int .i64 ((n1:Nat):Int):=h 2 (by decide)
  obtain ⟨q3,e3,hin⟩:∃q,u 8=.slice (some ⟨q,0,none⟩) 1 1∧Rw 6 xdc w4 (some ⟨q,0,none⟩) 1 [(⟨0,⟨#[]⟩,0,0,none,0,0,0⟩:Xd)]:=h 3 (by decide)
  have hat4:XsAt B' w4 [x] [(⟨kk,ss,vv,oo,ap,an,ac,qq⟩:Xd)]:=by
   rw [XsAt]
   exact⟨_,[],rfl,(XAt.kept1 KX.out g4),by rw [XsAt]⟩
  refine wpAny_one (i:=4) (some 9) (by kernel_rfl) rfl rfl rfl (runs_append_rowO encXd w0.heap.size 35 zX 72 Tryz.underlying33 infoX rfl _ L (ev e0) (K7.out.kept g4) _ 1 1 [(⟨0,⟨#[]⟩,0,0,none,0,0,0⟩:Xd)] (ev e3) rfl hin (by rw [K6.out,List.length_singleton];omega) (by rw [K6.out,List.length_singleton];omega) (Nat.le_trans K1.out.sz g4.sz) fun p' c' w5 ho5 hb5 hc5 how5=>?_)
  obtain ⟨g,rfl⟩:=ho5.addr (by simp)
  have hlen:L.length+[(⟨0,⟨#[]⟩,0,0,none,0,0,0⟩:Xd)].length=n1+1:=by rw [K6.out];rfl
  rw [hlen] at ho5 how5 ⊢
  have hS5:Blk S [.slice p1 n1 c1] 33 w5:=(h6.grew g4).chg hc5 (fun hs=>by
   rw [ownBlock_sl] at hs
   cases p1 with
   | none=>cases hs
   | some a=>exact(K9.out a rfl).2.2.1 (by simpa using hs))
  have hgS:g≠S:=by
   rcases how5 with hw | hw
   ·rw [ownBlock_sl,ownBlock_sl] at hw
    cases p1 with
    | none=>cases hw
    | some a=>intro e;exact(K9.out a rfl).2.2.1 (by rw [← e];simpa using hw.symm)
   ·rw [ownBlock_sl] at hw
    have h1:g=w4.heap.size:=by simpa using hw
    have h2:=(h6.grew g4).lt
    omega
  have hz:∀W,OwR W w0.heap.size 35 6 xdc (.slice (some ⟨g,0,none⟩) (n1+1) c') (L++[(⟨0,⟨#[]⟩,0,0,none,0,0,0⟩:Xd)])→(∀j v,(xdc (⟨0,⟨#[]⟩,0,0,none,0,0,0⟩:Xd))[j]?=some v→W.cell? ⟨g,0+n1 * 6+j,none⟩=some v)∧∀i,W.frozen? ⟨g,i,none⟩=false:=fun W ho=>by
   refine⟨fun j v hv=>?_,fun i=>(ho.free encXd i).2⟩
   obtain ⟨b_,o_,hb_,hc_⟩:=(ho.rd encXd).2.rd.cells (by simp)
   have hb2:=Option.some.inj hb_
   simp only [Addr.mk.injEq] at hb2
   obtain ⟨rfl,rfl,_⟩:=hb2
   exact hc_ n1 (⟨0,⟨#[]⟩,0,0,none,0,0,0⟩:Xd) (by rw [← K6.out];simp) j v hv
  have hon:0+n1 * 6=L.length * 6:=by rw [K6.out];omega
  refine wpAny_both (i:=5) (j:=7) (some 10) none (by kernel_rfl) rfl rfl rfl rfl rfl rfl ?_ ?_
  ·refine rn_idx_33 n1 (ev rfl) (ev e2) (by omega) ?_
   refine wpAny_both (i:=6) (j:=7) none none (by kernel_rfl) rfl rfl rfl rfl rfl rfl ?_ ?_
   ·obtain ⟨hz1,hf1⟩:=hz w5 ho5
    refine rn_st_35 (ev rfl) (ev e1) (hz1 0 _ rfl) (hz1 1 _ rfl) (hz1 2 _ rfl) (hz1 3 _ rfl) (hz1 4 _ rfl) (hz1 5 _ rfl) hf1 ?_
    have hO6:=lastX_set (kk:=kk) (qq:=qq) (ss:=ss) (vv:=vv) (oo:=oo) (ap:=ap) (an:=an) (ac:=ac) ho5 hon
    have hC6:Chg w5 ((((((w5.setCell ⟨g,0+n1 * 6,none⟩ (.int .i64 kk)).setCell ⟨g,0+n1 * 6+1,none⟩ (.string ss)).setCell ⟨g,0+n1 * 6+2,none⟩ (.int .i16 vv)).setCell ⟨g,0+n1 * 6+3,none⟩ (.int .i64 oo)).setCell ⟨g,0+n1 * 6+4,none⟩ (.slice ap an ac)).setCell ⟨g,0+n1 * 6+5,none⟩ (.int .i64 qq)) (fun j=>j=g):=lastX_chg w5 g _ _ _ _ _ _ _
    have hS6:=hS5.chg hC6 (fun h=>hgS h.symm)
    generalize ((((((w5.setCell ⟨g,0+n1 * 6,none⟩ (.int .i64 kk)).setCell ⟨g,0+n1 * 6+1,none⟩ (.string ss)).setCell ⟨g,0+n1 * 6+2,none⟩ (.int .i16 vv)).setCell ⟨g,0+n1 * 6+3,none⟩ (.int .i64 oo)).setCell ⟨g,0+n1 * 6+4,none⟩ (.slice ap an ac)).setCell ⟨g,0+n1 * 6+5,none⟩ (.int .i64 qq))=w6 at hO6 hC6 hS6 ⊢
    refine wpAny_one (i:=7) none (by kernel_rfl) rfl rfl rfl (rn_st_33 (ev rfl) (ev rfl) (hS6.cell 0) (hS6.free 0) ?_)
    have hO:=hO6.chg (Chg.set w6 ⟨S,0,none⟩ (.slice (some ⟨g,0,none⟩) (n1+1) c')) (fun a ha hs=>hgS (by obtain rfl:=Option.some.inj ha;exact hs))
    have hS:=hS6.set 0 (.slice (some ⟨g,0,none⟩) (n1+1) c')
    have hC:Chg w5 (w6.setCell ⟨S,0,none⟩ (.slice (some ⟨g,0,none⟩) (n1+1) c')) (fun j=>j=g∨j=S):=(hC6.mono fun _ h=>.inl h).trans ((Chg.set _ _ _).mono fun _ h=>.inr h)
    refine wpAny_done (by kernel_rfl) ?_ _
    have hfin:=Took.more hangsX K1.out K2.out K3.out K4.out KP.out KB.out KC.out K5.out K6.out h6 K7.out K8.out K9.out K10.out g4 hat4 hc5 how5 hO hS hC
    have HF:=zh hfin
    have cS':=hS.cell 0
    have lS':=hS.lt
    have cM':=hfin.1.num.cell 0
    have lM':=hfin.1.num.lt
    simp only [zz7] at cS' cM'
    generalize (w6.setCell ⟨S,0,none⟩ (.slice (some ⟨g,0,none⟩) (n1+1) c'))=WE at cS' lS' cM' lM' HF ⊢
    clear hfin hO hS hC hc5 how5 hat4 h hR
    simp only [zz1,zz2,zz3,Act.put,mixA,mixL,zz9,zz0,zz4,zz5,zz6]
    go_wp2
    go_ret
    exact⟨HF.out.1,HF.out.2,ret_bool (decide_eq_decide.2 (by omega))⟩

   ·refine rn_st_33 (ev rfl) (ev rfl) (hS5.cell 0) (hS5.free 0) ?_
    have hO7:=ho5.chg (Chg.set w5 ⟨S,0,none⟩ (.slice (some ⟨g,0,none⟩) (n1+1) c')) (fun a ha hs=>hgS (by obtain rfl:=Option.some.inj ha;exact hs))
    have hS7:=hS5.set 0 (.slice (some ⟨g,0,none⟩) (n1+1) c')
    obtain ⟨hz1,hf1⟩:=hz _ hO7
    refine wpAny_one (i:=6) none (by kernel_rfl) rfl rfl rfl (rn_st_35 (ev rfl) (ev e1) (hz1 0 _ rfl) (hz1 1 _ rfl) (hz1 2 _ rfl) (hz1 3 _ rfl) (hz1 4 _ rfl) (hz1 5 _ rfl) hf1 ?_)
    have hO:=lastX_set (kk:=kk) (qq:=qq) (ss:=ss) (vv:=vv) (oo:=oo) (ap:=ap) (an:=an) (ac:=ac) hO7 hon
    have hC6:Chg (w5.setCell ⟨S,0,none⟩ (.slice (some ⟨g,0,none⟩) (n1+1) c')) (((((((w5.setCell ⟨S,0,none⟩ (.slice (some ⟨g,0,none⟩) (n1+1) c')).setCell ⟨g,0+n1 * 6,none⟩ (.int .i64 kk)).setCell ⟨g,0+n1 * 6+1,none⟩ (.string ss)).setCell ⟨g,0+n1 * 6+2,none⟩ (.int .i16 vv)).setCell ⟨g,0+n1 * 6+3,none⟩ (.int .i64 oo)).setCell ⟨g,0+n1 * 6+4,none⟩ (.slice ap an ac)).setCell ⟨g,0+n1 * 6+5,none⟩ (.int .i64 qq)) (fun j=>j=g):=lastX_chg (w5.setCell ⟨S,0,none⟩ (.slice (some ⟨g,0,none⟩) (n1+1) c')) g _ _ _ _ _ _ _
    have hS:=hS7.chg hC6 (fun h=>hgS h.symm)
    have hC:Chg w5 (((((((w5.setCell ⟨S,0,none⟩ (.slice (some ⟨g,0,none⟩) (n1+1) c')).setCell ⟨g,0+n1 * 6,none⟩ (.int .i64 kk)).setCell ⟨g,0+n1 * 6+1,none⟩ (.string ss)).setCell ⟨g,0+n1 * 6+2,none⟩ (.int .i16 vv)).setCell ⟨g,0+n1 * 6+3,none⟩ (.int .i64 oo)).setCell ⟨g,0+n1 * 6+4,none⟩ (.slice ap an ac)).setCell ⟨g,0+n1 * 6+5,none⟩ (.int .i64 qq)) (fun j=>j=g∨j=S):=((Chg.set _ _ _).mono fun _ h=>.inr h).trans (hC6.mono fun _ h=>.inl h)
    refine wpAny_done (by kernel_rfl) ?_ _
    have hfin:=Took.more hangsX K1.out K2.out K3.out K4.out KP.out KB.out KC.out K5.out K6.out h6 K7.out K8.out K9.out K10.out g4 hat4 hc5 how5 hO hS hC
    have HF:=zh hfin
    have cS':=hS.cell 0
    have lS':=hS.lt
    have cM':=hfin.1.num.cell 0
    have lM':=hfin.1.num.lt
    simp only [zz7] at cS' cM'
    generalize (((((((w5.setCell ⟨S,0,none⟩ (.slice (some ⟨g,0,none⟩) (n1+1) c')).setCell ⟨g,0+n1 * 6,none⟩ (.int .i64 kk)).setCell ⟨g,0+n1 * 6+1,none⟩ (.string ss)).setCell ⟨g,0+n1 * 6+2,none⟩ (.int .i16 vv)).setCell ⟨g,0+n1 * 6+3,none⟩ (.int .i64 oo)).setCell ⟨g,0+n1 * 6+4,none⟩ (.slice ap an ac)).setCell ⟨g,0+n1 * 6+5,none⟩ (.int .i64 qq))=WE at cS' lS' cM' lM' HF ⊢
    clear hfin hO hS hC hc5 how5 hat4 h hR
    simp only [zz1,zz2,zz3,Act.put,mixA,mixL,zz9,zz0,zz4,zz5,zz6]
    go_wp2
    go_ret
    exact⟨HF.out.1,HF.out.2,ret_bool (decide_eq_decide.2 (by omega))⟩
  ·refine rn_st_33 (ev rfl) (ev rfl) (hS5.cell 0) (hS5.free 0) ?_
   refine wpAny_one (i:=5) (some 10) (by kernel_rfl) rfl rfl rfl (rn_idx_33 n1 (ev rfl) (ev e2) (by omega) ?_)
   have hO7:=ho5.chg (Chg.set w5 ⟨S,0,none⟩ (.slice (some ⟨g,0,none⟩) (n1+1) c')) (fun a ha hs=>hgS (by obtain rfl:=Option.some.inj ha;exact hs))
   have hS7:=hS5.set 0 (.slice (some ⟨g,0,none⟩) (n1+1) c')
   obtain ⟨hz1,hf1⟩:=hz _ hO7
   refine wpAny_one (i:=6) none (by kernel_rfl) rfl rfl rfl (rn_st_35 (ev rfl) (ev e1) (hz1 0 _ rfl) (hz1 1 _ rfl) (hz1 2 _ rfl) (hz1 3 _ rfl) (hz1 4 _ rfl) (hz1 5 _ rfl) hf1 ?_)
   have hO:=lastX_set (kk:=kk) (qq:=qq) (ss:=ss) (vv:=vv) (oo:=oo) (ap:=ap) (an:=an) (ac:=ac) hO7 hon
   have hC6:Chg (w5.setCell ⟨S,0,none⟩ (.slice (some ⟨g,0,none⟩) (n1+1) c')) (((((((w5.setCell ⟨S,0,none⟩ (.slice (some ⟨g,0,none⟩) (n1+1) c')).setCell ⟨g,0+n1 * 6,none⟩ (.int .i64 kk)).setCell ⟨g,0+n1 * 6+1,none⟩ (.string ss)).setCell ⟨g,0+n1 * 6+2,none⟩ (.int .i16 vv)).setCell ⟨g,0+n1 * 6+3,none⟩ (.int .i64 oo)).setCell ⟨g,0+n1 * 6+4,none⟩ (.slice ap an ac)).setCell ⟨g,0+n1 * 6+5,none⟩ (.int .i64 qq)) (fun j=>j=g):=lastX_chg (w5.setCell ⟨S,0,none⟩ (.slice (some ⟨g,0,none⟩) (n1+1) c')) g _ _ _ _ _ _ _
   have hS:=hS7.chg hC6 (fun h=>hgS h.symm)
   have hC:Chg w5 (((((((w5.setCell ⟨S,0,none⟩ (.slice (some ⟨g,0,none⟩) (n1+1) c')).setCell ⟨g,0+n1 * 6,none⟩ (.int .i64 kk)).setCell ⟨g,0+n1 * 6+1,none⟩ (.string ss)).setCell ⟨g,0+n1 * 6+2,none⟩ (.int .i16 vv)).setCell ⟨g,0+n1 * 6+3,none⟩ (.int .i64 oo)).setCell ⟨g,0+n1 * 6+4,none⟩ (.slice ap an ac)).setCell ⟨g,0+n1 * 6+5,none⟩ (.int .i64 qq)) (fun j=>j=g∨j=S):=((Chg.set _ _ _).mono fun _ h=>.inr h).trans (hC6.mono fun _ h=>.inl h)
   refine wpAny_done (by kernel_rfl) ?_ _
   have hfin:=Took.more hangsX K1.out K2.out K3.out K4.out KP.out KB.out KC.out K5.out K6.out h6 K7.out K8.out K9.out K10.out g4 hat4 hc5 how5 hO hS hC
   have HF:=zh hfin
   have cS':=hS.cell 0
   have lS':=hS.lt
   have cM':=hfin.1.num.cell 0
   have lM':=hfin.1.num.lt
   simp only [zz7] at cS' cM'
   generalize (((((((w5.setCell ⟨S,0,none⟩ (.slice (some ⟨g,0,none⟩) (n1+1) c')).setCell ⟨g,0+n1 * 6,none⟩ (.int .i64 kk)).setCell ⟨g,0+n1 * 6+1,none⟩ (.string ss)).setCell ⟨g,0+n1 * 6+2,none⟩ (.int .i16 vv)).setCell ⟨g,0+n1 * 6+3,none⟩ (.int .i64 oo)).setCell ⟨g,0+n1 * 6+4,none⟩ (.slice ap an ac)).setCell ⟨g,0+n1 * 6+5,none⟩ (.int .i64 qq))=WE at cS' lS' cM' lM' HF ⊢
   clear hfin hO hS hC hc5 how5 hat4 h hR
   simp only [zz1,zz2,zz3,Act.put,mixA,mixL,zz9,zz0,zz4,zz5,zz6]
   go_wp2
   go_ret
   exact⟨HF.out.1,HF.out.2,ret_bool (decide_eq_decide.2 (by omega))⟩
theorem take_of_lt {α:Type}{l:List α}{n:Nat}(h:l.length < n):l=l.take n:=(List.take_of_length_le (Nat.le_of_lt h)).symm
theorem take_of_pre {α:Type}{l q:List α}{n:Nat}(h:q <+: l) (hn:q.length=n):q=l.take n:=by
 subst hn
 exact List.prefix_iff_eq_take.1 h
theorem traS_any (l:List Sm) (most:Nat) (h1:1≤most) (hm:most≤1048576) (K S M:Nat) (pk:Option Addr) (ck:Nat) (B0:Blks) (W0 W:World) (hK:Blk K [.slice pk l.length ck] 40 W) (hx:SL B0 W pk ck l) (hn:nSs l≤1048576) (hmm:mSs l≤1048576)
 (hg:Grew W0 W) (h2:W0.heap.size≤S∧S≠M) (hS:Blk S [.slice none 0 0] 40 W) (hM:Blk M [.int .i64 (most:Int)] 3 W) :
 Calls Tryz.prog 77 #[.func (.func 26) #[] #[.pointer (some ⟨S,0,none⟩),.pointer (some ⟨M,0,none⟩)],.pointer (some ⟨K,0,none⟩)] W fun e W'=>(∃v,e=.returned v)∧∃P1,Took SsAt 7 sdc 49 40 3 S M most (fun _=>False) W0 P1 ((stmL l).take most) W':=by
 refine(callsIn_wide (n:=9)).1 ?_
 refine(st1_any (.func (.func 26) #[] #[.pointer (some ⟨S,0,none⟩),.pointer (some ⟨M,0,none⟩)]) (fun _=>False)
  (fun P pre W'=>Took SsAt 7 sdc 49 40 3 S M most (fun _=>False) W0 P pre W'∧pre.length < most) (fun P pre W'=>Took SsAt 7 sdc 49 40 3 S M most (fun _=>False) W0 P pre W'∧pre.length=most)
  ((Took.abides hangsS (fun _ h=>h.elim)).and (fun _ _ _ _ _ h _ _=>h)) ((Took.abides hangsS (fun _ h=>h.elim)).and (fun _ _ _ _ _ h _ _=>h)) l K pk ck B0 W hK hx hn hmm ?_ ⟨Took.start hangsS hg h2 hS hM,h1⟩ 9).mono ?_
 ·rintro B hB P1 pre x d W1 ⟨t1,t2⟩ t3 t4 t5
  refine .inr ⟨_,_,rfl,fun args w=>by go_simp,(takeS_any hm (fun b _ h=>h) P1 pre x d W1 t1 t2 t3 t4 t5).mono ?_⟩
  rintro e W' ⟨a1,a2,rfl⟩
  by_cases hl:pre.length+1 < most
  ·exact .inl ⟨by rw [decide_eq_true hl],⟨a1,by simpa using hl⟩,a2⟩
  ·exact .inr ⟨by rw [decide_eq_false hl],⟨a1,by simp;omega⟩,a2⟩
 ·rintro e W' ⟨hv,⟨P1,a1,a2⟩ | ⟨q,P1,a0,a1,a2⟩⟩
  ·exact⟨hv,P1,by rw [← take_of_lt a2];exact a1⟩
  ·exact⟨hv,P1,by rw [← take_of_pre a0 a2];exact a1⟩
theorem traX_any (l:List Sm) (most:Nat) (h1:1≤most) (hm:most≤1048576) (E K S M:Nat) (pk:Option Addr) (ck:Nat) (B0:Blks) (W0 W:World) (hE:Blk E [.func (.func 77) #[] #[.pointer (some ⟨K,0,none⟩)]] 46 W) (hK:Blk K [.slice pk l.length ck] 40 W) (hx:SL B0 W pk ck l) (hn:nSs l≤1048576) (hmm:mSs l≤1048576)
 (hg:Grew W0 W) (h2:W0.heap.size≤S∧S≠M) (hS:Blk S [.slice none 0 0] 33 W) (hM:Blk M [.int .i64 (most:Int)] 3 W) :
 Calls Tryz.prog 79 #[.func (.func 28) #[] #[.pointer (some ⟨S,0,none⟩),.pointer (some ⟨M,0,none⟩)],.pointer (some ⟨E,0,none⟩)] W fun e W'=>(∃v,e=.returned v)∧∃P1,Took XsAt 6 xdc 35 33 3 S M most (fun b=>b=W.heap.size+1∨b=W.heap.size+2) W0 P1 ((expL l).take most) W':=by
 have hab:∀b,(b=W.heap.size+1∨b=W.heap.size+2)→W0.heap.size≤b:=fun b hb=>by have:=hg.sz;omega
 refine(callsIn_wide (n:=9)).1 ?_
 refine(ex1_any (.func 28) #[.pointer (some ⟨S,0,none⟩),.pointer (some ⟨M,0,none⟩)] (fun b=>b=W.heap.size+1∨b=W.heap.size+2)
  (fun P pre W'=>Took XsAt 6 xdc 35 33 3 S M most (fun b=>b=W.heap.size+1∨b=W.heap.size+2) W0 P pre W'∧pre.length < most) (fun P pre W'=>Took XsAt 6 xdc 35 33 3 S M most (fun b=>b=W.heap.size+1∨b=W.heap.size+2) W0 P pre W'∧pre.length=most)
  ((Took.abides hangsX hab).and (fun _ _ _ _ _ h _ _=>h)) ((Took.abides hangsX hab).and (fun _ _ _ _ _ h _ _=>h)) l E K pk ck B0 W (fun b=>Iff.rfl) hE hK hx hn hmm ?_ ⟨Took.start hangsX hg h2 hS hM,h1⟩ 9).mono ?_
 ·rintro B hB P1 pre x d W1 ⟨t1,t2⟩ t3 t4 t5
  refine .inr ⟨_,_,rfl,fun args w=>by go_simp,(takeX_any hm hB P1 pre x d W1 t1 t2 t3 t4 t5).mono ?_⟩
  rintro e W' ⟨a1,a2,rfl⟩
  by_cases hl:pre.length+1 < most
  ·exact .inl ⟨by rw [decide_eq_true hl],⟨a1,by simpa using hl⟩,a2⟩
  ·exact .inr ⟨by rw [decide_eq_false hl],⟨a1,by simp;omega⟩,a2⟩
 ·rintro e W' ⟨hv,⟨P1,a1,a2⟩ | ⟨q,P1,a0,a1,a2⟩⟩
  ·exact⟨hv,P1,by rw [← take_of_lt a2];exact a1⟩
  ·exact⟨hv,P1,by rw [← take_of_pre a0 a2];exact a1⟩
open Go.ChangeShapes Go.WideShapes Go.ChangeAt
theorem Own.apart {w:World}{base:Nat}{e e':TypeId}{p:Option Addr}{n c:Nat}{xs:List UInt8}(h:Own w base e (.slice p n c) xs) (he:e≠e'){S:Nat}{vs:List Value}(hb:Blk S vs e' w):¬ (Value.ownBlock (.slice p n c)=some S):=fun hs=>by
 rcases h.2 with ⟨hv,_⟩ | ⟨g,cap,cur,hv,_,hg,_⟩
 ·simp only [Value.slice.injEq] at hv
  rw [ownBlock_sl,hv.1] at hs
  cases hs
 ·simp only [Value.slice.injEq] at hv
  rw [ownBlock_sl,hv.1] at hs
  obtain rfl:g=S:=Option.some.inj hs
  have h2:w.heap[g]?=_:=hb
  rw [h2] at hg
  simp at hg
  exact he hg.2.symm
theorem Own.gr {w w':World}{base:Nat}{e:TypeId}{v:Value}{xs:List UInt8}(h:Own w base e v xs) (hg:Grew w w'):Own w' base e v xs:=h.below hg
theorem Own.empty (w:World) (base:Nat) (e:TypeId):Own w base e (.slice none 0 0) []:=World.ownsRow_nil w base e 1
section
variable {P:Program}{w:World}{ops:Array Oper}{rest:List Oper}{o:Oper}{a:Act}{Q:Exit→Act→World→Prop}
theorem wpList_append_str (hgd:o.guard=none) (s x:Operand) (t u:TypeId)
 (ho:o.op=.call { callee:=.builtin .append,args:=#[s,x],argTypes:=#[t,u] })
 (base:Nat) (e:TypeId) (ht:P.underlying t=some (.slice e)) (hu:P.underlying u=some .string) (hi:(P.info? e).map (fun i=>(i.zero,i.size,i.bytes))=some (some (.int .u8 0),1,1))
 (v:Value) (xs:List UInt8) (hs:a.eval s=v) (hown:Own w base e v xs) (l:List UInt8) (hx:a.eval x=.string ⟨l.toArray⟩)
 (hbytes:xs.length+l.length≤140737488355328) (hbase:base≤w.heap.size)
 (h:∀p' c' zs w',Hid (zs=xs++l)→Own w' base e (.slice p' zs.length c') zs→Below base w w'→Chg w w' (fun j=>v.ownBlock=some j)→wpList P ops Q rest (a.put o.dst (.slice p' zs.length c')) w'):wpList P ops Q (o :: rest) a w:=by
 obtain ⟨i,hi,hz0,hz1,hz2⟩:=info_parts hi
 have hsz:(⟨l.toArray⟩:ByteArray).size=l.length:=rfl
 refine Lib.wpList_append_own_string w hgd s x t u ho base e i ht hu hi hz0 hz1 hz2 v xs.length (bvs xs) hs hown ⟨l.toArray⟩ hx (by rw [hsz];simp only [maxLen];omega) (by rw [hsz];omega) hbase fun v' w' h2 h3 _=>?_
 have h4:Own w' base e v' (xs++l):=by
  show World.ownsRow _ _ _ _ _ _ _
  rw [List.length_append,bvs_append]
  exact h2
 obtain ⟨p',c',rfl,_,_⟩:=h4.shape
 exact h p' c' _ w' rfl h4 (hown.grown_below h3 (Nat.le_refl _) hbase) (Chg.of_grownBy h3)
end
section
variable {P:Program}{dst:Option Tmp}{ty:TypeId}{pos:String}{after:Array Edge}{g:Option (Nat × Bool)}{a:Act}{w:World}{T:Value→World→Prop}
end

def litV {H:Type}:DataW H→Value
 | .lit (.int k n)=>.int k n
 | .lit (.bool b)=>.bool b
 | .lit (.string l)=>.string ⟨l.toArray⟩
 | _=>undef
def rowV {H:Type}:DataW H→List Value
 | .agg ds=>ds.map litV
 | _=>[]
def arrV {H:Type}:DataW H→List Value
 | .agg rs=>rs.flatMap rowV
 | _=>[]
def flat1 (P:Program) (t:TypeId):Bool:=match P.underlying t with
 | some (.int _)=>true
 | some .bool=>true
 | some .string=>true
 | _=>false
def rowOk (P:Program) (fs:Array Field):Bool:=(List.range fs.size).all fun i=>match fs[i]? with
 | some f=>f.offset==i&&P.cellsOf f.type==1&&flat1 P f.type
 | none=>false
section
variable {H:Type}{enc:TypeId × Value→H}{P:Program}{w:World}{base:Nat}{sp:Nat→Bool}{held:Bool}{fuel:Nat}{cs:List Value}
theorem lit_vals {t:TypeId}{x:DataW H × List MemPlace}(hf:flat1 P t=true) (h:DataW.trod enc P w base sp held fuel t cs=some x):cs=[litV x.1]:=by
 unfold flat1 at hf
 split at hf
 ·rename_i hu
  obtain ⟨n,rfl,rfl,_⟩:=DataW.trod_int hu h
  rfl
 ·rename_i hu
  obtain ⟨b,rfl,rfl⟩:=DataW.trod_bool hu h
  rfl
 ·rename_i hu
  obtain ⟨s,rfl,rfl,_⟩:=DataW.trod_string hu h
  rfl
 ·cases hf
theorem row_vals {t:TypeId}{fs:Array Field}{x:DataW H × List MemPlace}(ht:P.underlying t=some (.struct fs)) (hc:P.cellsOf t=fs.size) (hok:rowOk P fs=true)
 (h:DataW.trod enc P w base sp held fuel t cs=some x):cs=rowV x.1:=by
 obtain ⟨xs,n,_,rfl,hl,hxs,hf⟩:=DataW.trod_struct ht h
 show cs=(xs.map (·.1)).map litV
 apply List.ext_getElem?
 intro i
 by_cases hi:i < fs.size
 ·have h1:=List.all_eq_true.1 hok i (List.mem_range.2 hi)
  rw [Array.getElem?_eq_getElem hi] at h1
  simp only [Bool.and_eq_true,beq_iff_eq] at h1
  obtain ⟨⟨h2,h3⟩,h4⟩:=h1
  have h5:=hf i fs[i] (Array.getElem?_eq_getElem hi)
  have hx:i < xs.length:=by omega
  rw [List.getElem?_eq_getElem hx,h2,h3] at h5
  have h6:=lit_vals h4 h5
  have h7:cs[i]?=some (litV xs[i].1):=by
   have:=congrArg (·[0]?) h6
   simpa [List.getElem?_take,List.getElem?_drop] using this
  rw [h7]
  simp [List.getElem?_eq_getElem hx]
 ·rw [List.getElem?_eq_none (by omega),List.getElem?_eq_none (by simp;omega)]
theorem arr_vals {T e:TypeId}{m k:Nat}{fs:Array Field}{x:DataW H × List MemPlace}(hT:P.underlying T=some (.array m e)) (he:P.underlying e=some (.struct fs)) (hce:P.cellsOf e=k) (hk:fs.size=k) (hcT:P.cellsOf T=m * k) (hok:rowOk P fs=true)
 (h:DataW.trod enc P w base sp held fuel T cs=some x):cs=arrV x.1:=by
 obtain ⟨xs,n,_,rfl,hl,hxs,hf⟩:=DataW.trod_array hT h
 show cs=(xs.map (·.1)).flatMap rowV
 rw [hcT] at hl
 have key:∀j,j≤m→cs.take (j * k)=((xs.map (·.1)).take j).flatMap rowV:=by
  intro j
  induction j with
  | zero=>intro _;simp
  | succ j ih =>
    intro hj
    have hx:j < xs.length:=by omega
    have h1:=hf j (by omega)
    rw [List.getElem?_eq_getElem hx,hce] at h1
    have h2:=row_vals he (hce.trans hk.symm) hok h1
    rw [Nat.succ_mul,List.take_add,ih (by omega),h2,List.take_add_one,List.getElem?_eq_getElem (by simpa using hx)]
    simp
 have:=key m (Nat.le_refl _)
 rwa [List.take_of_length_le (by omega),List.take_of_length_le (by simp;omega)] at this
end
theorem rows_of_head {P:Program}{W:World}{name:String}{d:DataW Unit}{rest:List (String × DataW Unit)}{g:Nat}{T e:TypeId}{m k:Nat}{fs:Array Field}
 (hg:P.globalNamed name=some g) (hty:(P.globals[g]?).map (·.type)=some T) (hT:P.underlying T=some (.array m e)) (he:P.underlying e=some (.struct fs)) (hce:P.cellsOf e=k) (hk:fs.size=k) (hcT:P.cellsOf T=m * k) (hok:rowOk P fs=true)
 (h:laidMet P ((name,d) :: rest) W):W.var? P name=some (arrV d).toArray:=by
 obtain ⟨ps,⟨g',t',cs,fuel,p,q,hg',ht',hvar,hd,_,_⟩,_⟩:=h
 obtain rfl:=Option.some.inj (hg.symm.trans hg')
 obtain rfl:=Option.some.inj (hty.symm.trans ht')
 have:=arr_vals hT he hce hk hcT hok hd
 rw [hvar,← this]
open Go.Lib (decDigits itoa)
open Go.Sort

abbrev setLD:ByteArray:=⟨#[65,66,67,68,69,70,71,72,73,74,75,76,77,78,79,80,81,82,83,84,85,86,87,88,89,90,95,97,98,99,100,101,102,103,104,105,106,107,108,109,110,111,112,113,114,115,116,117,118,119,120,121,122,48,49,50,51,52,53,54,55,56,57]⟩
abbrev setD:ByteArray:=⟨#[48,49,50,51,52,53,54,55,56,57]⟩
theorem all_bytes {p:UInt8→Bool}(h:(List.range 256).all (fun n=>p (UInt8.ofNat n))=true) (c:UInt8):p c=true:=by
 have h1:=List.all_eq_true.1 h c.toNat (List.mem_range.2 c.toNat_lt)
 simpa using h1
theorem same_bytes {p q:UInt8→Bool}(h:(List.range 256).all (fun n=>p (UInt8.ofNat n)==q (UInt8.ofNat n))=true):∀c,p c=q c:=fun c=>eq_of_beq (all_bytes (p:=fun c=>p c==q c) h c)
theorem setLD_has:∀c,setLD.data.toList.contains c=wd c:=same_bytes (by kernel_rfl)
theorem setD_has:∀c,setD.data.toList.contains c=dig c:=same_bytes (by kernel_rfl)
theorem var?_keep {P:Program}{w w':World}{n:String}{cs:Array Value}(hb:Below w.heap.size w w') (h:w.var? P n=some cs):w'.var? P n=some cs:=by
 unfold World.var? at h ⊢
 cases hg:P.globalNamed n with
 | none=>simp [hg] at h
 | some g =>
   simp only [hg,Option.bind_some] at h ⊢
   have hlt:g < w.heap.size:=by
    rcases Nat.lt_or_ge g w.heap.size with h' | h'
    ·exact h'
    ·simp [Array.getElem?_eq_none h'] at h
   rw [hb.block g hlt]
   exact h
structure Es5 where
 b:Bool
 v:Int
 f:Int
 l:Int
 n:Int
structure Ss5 where
 b:Bool
 n:Int
 a:Int
 y:Bool
 e:Bool
structure Op2 where
 s:List UInt8
 l:Int
abbrev es5 (o:Es5):List Value:=[.bool o.b,.int .i16 o.v,.int .i64 o.f,.int .i64 o.l,.int .i64 o.n]
abbrev ss5 (o:Ss5):List Value:=[.bool o.b,.int .i64 o.n,.int .i64 o.a,.bool o.y,.bool o.e]
abbrev op2 (o:Op2):List Value:=[.string ⟨o.s.toArray⟩,.int .i64 o.l]
theorem encE5:Enc 5 es5:=⟨fun _=>rfl,fun x u hu=>by simp at hu;rcases hu with rfl | rfl | rfl | rfl | rfl <;> rfl,by decide⟩
theorem encS5:Enc 5 ss5:=⟨fun _=>rfl,fun x u hu=>by simp at hu;rcases hu with rfl | rfl | rfl | rfl | rfl <;> rfl,by decide⟩
theorem encO2:Enc 2 op2:=⟨fun _=>rfl,fun x u hu=>by simp at hu;rcases hu with rfl | rfl <;> rfl,by decide⟩
def lvO (o:Int):Int:=if o=1∨o=2 then 6 else lvT o
def exL:List Es5:=[⟨false,0,0,0,0⟩,⟨false,32767,0,0,0⟩,⟨true,0,0,0,0⟩,⟨true,0,0,0,1⟩,⟨true,0,0,0,0⟩,⟨false,0,1,2,1⟩,⟨false,0,3,15,2⟩]
def ssL:List Ss5:=[⟨false,0,0,false,false⟩,⟨true,0,1,false,false⟩,⟨true,0,1,false,false⟩,⟨true,0,2,false,false⟩,⟨false,0,1,true,true⟩,⟨false,32767,0,true,false⟩,⟨false,0,1,true,false⟩,⟨true,0,1,false,false⟩,⟨false,0,1,false,false⟩,⟨true,0,1,false,false⟩,⟨false,32767,0,true,false⟩,⟨false,32767,0,true,false⟩,⟨false,0,0,false,false⟩,⟨false,0,0,false,false⟩]
def oprL:List Op2:=(List.range 16).map fun(i:Nat)=>(⟨sgT (i:Int),if i=0 then 0 else lvO (i:Int)⟩:Op2)
def exC:List Value:=flatL es5 exL
def ssC:List Value:=flatL ss5 ssL
def oprC:List Value:=flatL op2 oprL
def exR (k:Int):Es5:=exL.getD k.toNat ⟨false,0,0,0,0⟩
def ssR (k:Int):Ss5:=ssL.getD k.toNat ⟨false,0,0,false,false⟩
structure Env (w:World):Prop where
 kws : w.var? Tryz.prog "trickle/ast.keywords" = some (kwT.map (fun l => Value.string ⟨l.toArray⟩)).toArray
 exs : w.var? Tryz.prog "trickle/ast.exprShapes" = some exC.toArray
 sts : w.var? Tryz.prog "trickle/ast.stmtShapes" = some ssC.toArray
 ops : w.var? Tryz.prog "trickle/ast.operators" = some oprC.toArray
 pow : Lib.TabIs Tryz.prog w "internal/strconv.uint64pow10" .u64 Lib.pow10Tab
theorem Env.grew {w w':World}(h:Env w) (hb:Grew w w'):Env w':=by
 obtain ⟨h1,h2,h3,h4,h5⟩:=h
 exact⟨var?_keep hb h1,var?_keep hb h2,var?_keep hb h3,var?_keep hb h4,var?_keep hb h5⟩
theorem Env.rangeK {w:World}(h:Env w):w.rangeAt 2 0 (kwT.map (fun l=>Value.string ⟨l.toArray⟩)):=fun j v hv=>by
 rw [Nat.zero_add, World.var?_cell (show Tryz.prog.globalNamed "trickle/ast.keywords" = some 2 by kernel_rfl) h.kws j]
 simpa using hv
theorem Env.ex {w:World}(h:Env w) (k:Nat) (hk:k < 7) (j:Nat){v:Value}(hv:(es5 (exR (k:Int)))[j]?=some v):w.cell? ⟨0,k * 5+j,none⟩=some v:=by
 have h1 := World.var?_cell (show Tryz.prog.globalNamed "trickle/ast.exprShapes" = some 0 by kernel_rfl) h.exs (k * 5 + j)
 rw [h1]
 have h2:exL[k]?=some (exR (k:Int)):=by
  have hl:k < exL.length:=hk
  unfold exR
  simp only [Int.toNat_natCast,List.getD,List.getElem?_eq_getElem hl,Option.getD_some]
 simpa [exC] using flatL_get encE5 h2 hv
theorem Env.st {w:World}(h:Env w) (k:Nat) (hk:k < 14) (j:Nat){v:Value}(hv:(ss5 (ssR (k:Int)))[j]?=some v):w.cell? ⟨3,k * 5+j,none⟩=some v:=by
 have h1 := World.var?_cell (show Tryz.prog.globalNamed "trickle/ast.stmtShapes" = some 3 by kernel_rfl) h.sts (k * 5 + j)
 rw [h1]
 have h2:ssL[k]?=some (ssR (k:Int)):=by
  have hl:k < ssL.length:=hk
  unfold ssR
  simp only [Int.toNat_natCast,List.getD,List.getElem?_eq_getElem hl,Option.getD_some]
 simpa [ssC] using flatL_get encS5 h2 hv
theorem oprL_at:∀k,(h:k < 16)→oprL[k]'h=⟨sgT (k:Int),if k=0 then 0 else lvO (k:Int)⟩:=by
 intro k h
 rcases k with _ | _ | _ | _ | _ | _ | _ | _ | _ | _ | _ | _ | _ | _ | _ | _ | k
 all_goals first | rfl | omega
theorem Env.op {w:World}(h:Env w) (k:Nat) (h0:1≤k) (hk:k < 16) (j:Nat){v:Value}(hv:(op2 ⟨sgT (k:Int),lvO (k:Int)⟩)[j]?=some v):w.cell? ⟨1,k * 2+j,none⟩=some v:=by
 have h1 := World.var?_cell (show Tryz.prog.globalNamed "trickle/ast.operators" = some 1 by kernel_rfl) h.ops (k * 2 + j)
 rw [h1]
 have hl:k < oprL.length:=hk
 have h2:oprL[k]?=some ⟨sgT (k:Int),lvO (k:Int)⟩:=by
  rw [List.getElem?_eq_getElem hl]
  exact congrArg some ((oprL_at k hk).trans (by rw [if_neg (by omega)]))
 simpa [oprC] using flatL_get encO2 h2 hv
set_option maxRecDepth 20000 in
theorem index_kw:∀(k:Nat) (_:k < 22) (W:World),Sem.run Tryz.prog (Instr.index 162 (.agg (kwT.map (fun l=>Value.string ⟨l.toArray⟩)).toArray) (.int .i64 (k:Int))) W=.ok (.string ⟨(kwT.getD k []).toArray⟩) W
 | 0,_,W=>by kernel_rfl
 | 1,_,W=>by kernel_rfl
 | 2,_,W=>by kernel_rfl
 | 3,_,W=>by kernel_rfl
 | 4,_,W=>by kernel_rfl
 | 5,_,W=>by kernel_rfl
 | 6,_,W=>by kernel_rfl
 | 7,_,W=>by kernel_rfl
 | 8,_,W=>by kernel_rfl
 | 9,_,W=>by kernel_rfl
 | 10,_,W=>by kernel_rfl
 | 11,_,W=>by kernel_rfl
 | 12,_,W=>by kernel_rfl
 | 13,_,W=>by kernel_rfl
 | 14,_,W=>by kernel_rfl
 | 15,_,W=>by kernel_rfl
 | 16,_,W=>by kernel_rfl
 | 17,_,W=>by kernel_rfl
 | 18,_,W=>by kernel_rfl
 | 19,_,W=>by kernel_rfl
 | 20,_,W=>by kernel_rfl
 | 21,_,W=>by kernel_rfl
 | k+22,h,_=>absurd h (by omega)
theorem beq_list {a:List UInt8}{s:ByteArray}:(a==s.toList)=(a==s.data.toList):=by rw [ByteArray.toList_eq]
theorem ascii {cs:ByteArray}(h:cs.data.toList.all (fun b=>decide (b.toNat < 128))=true):∀(j:Nat) b,cs.data.toList[j]?=some b→b.toNat < 128:=fun j b hb=>by
 have:=List.all_eq_true.1 h b (List.mem_of_getElem? hb)
 simpa using this
theorem index_has (l:List UInt8) (c:UInt8):(0≤Lib.indexByte l c)↔l.contains c=true:=by
 have h0:=Lib.indexByte_ge l c
 constructor
 ·intro h
  obtain ⟨o,ho⟩:∃o:Nat,Lib.indexByte l c=o:=⟨(Lib.indexByte l c).toNat,by omega⟩
  simpa using List.mem_of_getElem? (Lib.indexByte_some ho).1
 ·intro h
  obtain ⟨k,hk,e⟩:=List.getElem_of_mem (by simpa using h:c ∈ l)
  rcases Int.lt_or_le (Lib.indexByte l c) 0 with h1 | h1
  ·exact absurd (by rw [List.getElem?_eq_getElem hk,e]) (Lib.indexByte_none (by omega:Lib.indexByte l c=-1) k)
  ·exact h1
theorem index_le:∀(l:List UInt8) (c:UInt8),Lib.indexByte l c≤l.length:=fun l c=>by
 have h0:=Lib.indexByte_ge l c
 rcases Int.lt_or_le (Lib.indexByte l c) 0 with h1 | h1
 ·omega
 ·obtain ⟨o,ho⟩:∃o:Nat,Lib.indexByte l c=o:=⟨(Lib.indexByte l c).toNat,by omega⟩
  have:=(List.getElem?_eq_some_iff.1 (Lib.indexByte_some ho).1).1
  omega
theorem u8_toNat (c:UInt8):(c.toNat:Int).toNat.toUInt8=c:=by
 rw [Int.toNat_natCast]
 exact UInt8.ofNat_toNat
theorem digit_any (c:UInt8):∃z:Int,decide (z < 0)=!dig c∧(-1≤z∧z≤10)∧∀W,Calls Tryz.prog 109 #[.string setD,.int .u8 (c.toNat:Nat)] W fun e w'=>e=.returned (.int .i64 z)∧W=w':=by
 refine⟨Lib.indexByte setD.data.toList c,?_,⟨Lib.indexByte_ge _ _,index_le _ _⟩,fun W=>?_⟩
 ·rw [← setD_has]
  cases h:setD.data.toList.contains c with
  | true=>have:=(index_has _ _).2 h;simpa using this
  | false =>
    have:¬ 0≤Lib.indexByte setD.data.toList c:=fun h1=>by rw [(index_has _ _).1 h1] at h;cases h
    simpa using this
 ·have:=Tryz.strings_IndexByte setD (c.toNat:Int) W
  rw [u8_toNat] at this
  exact this.mono fun e w' h=>⟨h.1,h.2.symm⟩
theorem dw_all (p:UInt8→Bool):∀l:List UInt8,l.dropWhile p=[]↔l.all p=true
 | []=>by simp
 | a :: r=>by
   rw [List.dropWhile_cons,List.all_cons]
   cases h:p a with
   | true=>rw [if_pos rfl,Bool.true_and];exact dw_all p r
   | false=>simp
theorem dw_none (p:UInt8→Bool) (l:List UInt8):(l.dropWhile p).all p=l.all p:=by
 induction l with
 | nil=>rfl
 | cons a r ih =>
   rw [List.dropWhile_cons]
   cases h:p a with
   | true=>rw [if_pos rfl,List.all_cons,h,Bool.true_and,ih]
   | false=>rw [if_neg (by simp),List.all_cons,h]
theorem trim_nil (l cs:List UInt8):Lib.trimS l cs=[]↔l.all cs.contains=true:=by
 unfold Lib.trimS Lib.trimLeftS Lib.trimRightS
 rw [dw_all,List.all_reverse]
 exact(by rw [dw_none (fun x=>cs.contains x) l.reverse,List.all_reverse])
theorem trim_any (s:ByteArray) (hs:s.size≤1048576):∃y:List UInt8,(y.isEmpty=s.data.toList.all wd)∧∀W,Calls Tryz.prog 110 #[.string s,.string setLD] W fun e w'=>e=.returned (.string ⟨y.toArray⟩)∧Grew W w':=by
 refine⟨Lib.trimS s.data.toList setLD.data.toList,?_,fun W=>?_⟩
 ·rw [Bool.eq_iff_iff,List.isEmpty_iff,trim_nil]
  have:(fun x=>setLD.data.toList.contains x)=wd:=funext setLD_has
  show s.data.toList.all (fun x=>setLD.data.toList.contains x)=true↔_
  rw [this]
 ·exact Any.strings_Trim_laid Tryz.lays160 (by kernel_rfl) s setLD W (by omega) (by decide) (ascii (by kernel_rfl))
theorem grow_grew (w:World) (k:Nat) (os:Array Obj):Grew w (grow (w.drewN k) os) :=
 ⟨rfl,rfl,rfl,by simp [grow,World.drewN],fun j hj=>by
  show (w.heap++os)[j]?=w.heap[j]?
  exact Array.getElem?_append_left hj⟩
theorem itoa_num (z:Int):itoa z=numZ z:=by
 rw [itoa,numZ]
 split
 ·rw [show z.natAbs=(-z).toNat by omega]
 ·rfl
theorem itoa_any (z:Int) (hz:-9223372036854775808≤z∧z≤9223372036854775807) (w:World) (hE:Env w):Calls Tryz.prog 40 #[.int .i64 z] w fun e w'=>e=.returned (.string ⟨(numZ z).toArray⟩)∧Grew w w' :=
 (Tryz.strconv_Itoa z hz.1 hz.2 w hE.pow).mono fun e w' h=>by
   obtain ⟨h1,k,os,h2⟩:=h
   exact⟨itoa_num z ▸ h1,h2 ▸ grow_grew w k os⟩
theorem kwT_at {k:Nat}(h:k < 22):kwT.getD k [] ∈ kwT:=by
 have hl:k < kwT.length:=h
 rw [List.getD_eq_getElem?_getD,List.getElem?_eq_getElem hl]
 exact List.getElem_mem hl
theorem kwT_no {t:List UInt8}(h:∀i,i < 22→kwT.getD i []≠t):kwT.contains t=false:=by
 cases hc:kwT.contains t with
 | false=>rfl
 | true =>
   obtain ⟨k,hk,e⟩:=List.getElem_of_mem (by simpa using hc:t ∈ kwT)
   refine absurd ?_ (h k hk)
   rw [List.getD_eq_getElem?_getD,List.getElem?_eq_getElem hk]
   exact e
theorem iskw_any (s:ByteArray) (w:World) (hE:Env w):Calls Tryz.prog 111 #[.string s] w fun e w'=>e=.returned (.bool (kwT.contains s.data.toList))∧w=w':=by
 have HNO:=zh (kwT_no (t:=s.data.toList))
 have HYES:=zh (fun k (hk:k < 22) (e:kwT.getD k []=s.data.toList)=>(show kwT.contains s.data.toList=true by rw [← e];simpa using kwT_at hk))
 generalize kwT.contains s.data.toList=b at HNO HYES ⊢
 go_enter Tryz.func111,Tryz.ntmps111
 go_upto_region 1 with fail
 refine wp_region_list ?_
 refine wpList_load_mid rfl 162 (.global 2) rfl 2 0 rfl (kwT.map (fun l=>Value.string ⟨l.toArray⟩)) _ hE.rangeK Tryz.underlying162 rfl (by kernel_rfl) ?_
 have HIX:=zh index_kw
 generalize Value.agg (kwT.map (fun l=>Value.string ⟨l.toArray⟩)).toArray=TAB at HIX ⊢
 clear hE
 go_wp2
 go_loopg [6] 22 (fun gg iv wr=>∃j:Nat,iv=.int .i64 (j:Int)∧j≤22∧gg=22 - j∧Hid (∀i,i < j→kwT.getD i []≠s.data.toList)∧wr=w)
 case atStart=>exact⟨0,rfl,by omega,rfl,zh (fun i h=>absurd h (Nat.not_lt_zero i)),rfl⟩
 case round =>
  obtain ⟨j,rfl,hj,rfl,HN,rfl⟩:=hrel
  by_cases hlt:j < 22
  ·have hx:=fun W=>HIX.out j hlt W
   have HJ:=zh hlt
   have HY:=zh (HYES.out j hlt)
   obtain ⟨t,ht⟩:∃t,kwT.getD j []=t:=⟨_,rfl⟩
   rw [ht] at hx HY
   have HT:=zh ht
   clear ht
   by_cases he:t=s.data.toList
   ·have h1:(t==s.toList)=true:=by rw [beq_list,he];simp
    have HE:=zh (HY.out he)
    clear he
    go_wp2
    go_ret
    exact⟨ret_bool HE.out.symm,rfl⟩
   ·have h1:(t==s.toList)=false:=by rw [beq_list];simpa using he
    have HE:=zh he
    clear he
    go_wp2
    go_roundg (22 - (j+1))
    case measure=>have:=HJ.out;omega
    case rel=>exact⟨j+1,by go_num,HJ.out,rfl,zh (fun i hi=>by rcases Nat.lt_or_eq_of_le (Nat.le_of_lt_succ hi) with h | rfl;exact HN.out i h;rw [HT.out];exact HE.out),rfl⟩
  ·obtain rfl:j=22:=by omega
   have HF:=zh (HNO.out HN.out)
   go_wp2
   go_ret
   exact⟨ret_bool HF.out.symm,rfl⟩
theorem dig_wd {c:UInt8}:dig c=true→ltr c=false:=by
 have:∀c:UInt8,(!dig c||!ltr c)=true:=all_bytes (p:=fun c=>!dig c||!ltr c) (by kernel_rfl)
 intro h
 have:=this c
 rw [h] at this
 simpa using this
theorem idB_eq (c:UInt8) (r:List UInt8):idB (c :: r)=(decide ((c :: r).length≤32)&&(!dig c&&((c :: r).all wd&&!kwT.contains (c :: r)))):=by
 have h1:idc (c :: r)=(!dig c&&(c :: r).all wd):=by
  rw [idc,List.all_cons]
  cases hd:dig c with
  | true=>rw [dig_wd hd];rfl
  | false=>rw [wd,hd,Bool.or_false];rfl
 rw [idB,h1]
 have h2:decide (1≤(c :: r).length)=true:=by simp
 rw [h2]
 cases kwT.contains (c :: r) <;> cases dig c <;> cases (c :: r).all wd <;> cases decide ((c :: r).length≤32) <;> rfl
set_option maxHeartbeats 4000000 in
theorem isid_any (s:ByteArray) (hs:s.size≤1048576) (w:World) (hE:Env w):Calls Tryz.prog 57 #[.string s] w fun e w'=>e=.returned (.bool (idn s))∧Grew w w':=by
 have HE:=zh hE
 clear hE
 by_cases hz:s.size=0
 ·have hnl:s.toList=[]:=by rw [ByteArray.toList_eq];exact List.eq_nil_of_length_eq_zero hz
  have h0:idn s=false:=by rw [idn,← ByteArray.toList_eq,hnl];rfl
  rw [h0]
  clear h0
  go_enter Tryz.func57,Tryz.ntmps57
  go_wp2
  go_ret
  exact⟨rfl,Grew.refl _⟩
 ·have hpos:0 < s.size:=Nat.pos_of_ne_zero hz
  have hne:¬ s.toList=[]:=fun h=>hz (by
   rw [ByteArray.toList_eq] at h
   exact congrArg List.length h)
  have hie:s.toList.isEmpty=false:=by rw [List.isEmpty_eq_false_iff];exact hne
  obtain ⟨z,hz1,hz2,hzc⟩:=digit_any s[0]
  obtain ⟨y,hy1,hyc⟩:=trim_any s hs
  have key:idn s=(decide (s.size≤32)&&(!dig s[0]&&(s.data.toList.all wd&&!kwT.contains s.data.toList))):=by
   have h1:s.data.toList[0]'hpos=s[0]:=rfl
   cases hx:s.data.toList with
   | nil=>exact absurd (congrArg List.length hx) hz
   | cons a r =>
     simp only [hx,zz2] at h1
     have h2:s.size=(a :: r).length:=congrArg List.length hx
     subst h1
     rw [idn,hx,idB_eq,h2]
  rw [← hz1,← hy1] at key
  rw [key]
  have HZ:=zh hzc
  have HY:=zh hyc
  have HK:=zh (fun W (hW:Grew w W)=>iskw_any s W (HE.out.grew hW))
  clear key hz1 hy1 hzc hyc HE
  generalize kwT.contains s.data.toList=kb at HK ⊢
  by_cases h32:s.size≤32
  ·rw [decide_eq_true h32,Bool.true_and]
   by_cases hz0:z < 0
   ·rw [decide_eq_true hz0,Bool.true_and]
    cases y with
    | nil =>
      rw [List.isEmpty_nil,Bool.true_and]
      go_enter Tryz.func57,Tryz.ntmps57
      go_wp2_with (first
       | (go_at_call 109;(with_reducible refine(HZ.out _).mono ?_);rintro e w1 ⟨rfl,hw1⟩;subst w1)
       | (go_at_call 110;(with_reducible refine(HY.out _).mono ?_);rintro e w1 ⟨rfl,hg1⟩;have HG:=zh hg1;clear hg1)
       | (go_at_call 111;(with_reducible refine(HK.out _ HG.out).mono ?_);rintro e w2 ⟨rfl,hw2⟩;subst w2))
      go_ret
      exact⟨rfl,HG.out⟩
    | cons a r =>
      have hey:((a :: r).isEmpty)=false:=rfl
      rw [hey,Bool.false_and]
      go_enter Tryz.func57,Tryz.ntmps57
      go_wp2_with (first
       | (go_at_call 109;(with_reducible refine(HZ.out _).mono ?_);rintro e w1 ⟨rfl,hw1⟩;subst w1)
       | (go_at_call 110;(with_reducible refine(HY.out _).mono ?_);rintro e w1 ⟨rfl,hg1⟩;have HG:=zh hg1;clear hg1))
      go_ret
      exact⟨rfl,HG.out⟩
   ·rw [decide_eq_false hz0,Bool.false_and]
    go_enter Tryz.func57,Tryz.ntmps57
    go_wp2_with (go_at_call 109;(with_reducible refine(HZ.out _).mono ?_);rintro e w1 ⟨rfl,hw1⟩;subst w1)
    go_ret
    exact⟨rfl,Grew.refl _⟩
  ·rw [decide_eq_false h32,Bool.false_and]
   go_enter Tryz.func57,Tryz.ntmps57
   go_wp2
   go_ret
   exact⟨rfl,Grew.refl _⟩
theorem name_any (s:ByteArray) (nm:Bool) (hs:s.size≤1048576) (w:World) (hE:Env w):Calls Tryz.prog 99 #[.string s,.bool nm] w fun e w'=>e=.returned (.bool (if nm then idn s else decide (s=⟨#[]⟩)))∧Grew w w':=by
 have HC:=zh (isid_any s hs w hE)
 clear hE
 cases nm with
 | true =>
   rw [if_pos rfl]
   go_enter Tryz.func99,Tryz.ntmps99
   go_wp2_with (go_at_call 57;(with_reducible refine(HC.out).mono ?_);rintro e w1 ⟨rfl,hg1⟩;have HG:=zh hg1;clear hg1)
   go_ret
   exact⟨rfl,HG.out⟩
 | false =>
   rw [if_neg (by simp)]
   have hk:s.toList.isEmpty=decide (s=⟨#[]⟩):=by
    rw [ByteArray.toList_eq,Bool.eq_iff_iff,List.isEmpty_iff,decide_eq_true_iff]
    exact⟨fun h=>by cases s;simp at h;rw [h],fun h=>by rw [h]⟩
   have HK:=zh hk
   clear hk
   generalize decide (s=⟨#[]⟩)=d at HK ⊢
   go_enter Tryz.func99,Tryz.ntmps99
   go_wp2
   go_ret
   exact⟨ret_bool (by have:=HK.out;simpa using this),Grew.refl _⟩
theorem signed_any (z:Int) (w:World):Calls Tryz.prog 107 #[.int .i16 z] w fun e w'=>e=.returned (.bool (decide (-32767≤z)))∧w=w':=by
 go_enter Tryz.func107,Tryz.ntmps107
 go_wp2
 go_ret
 exact⟨rfl,rfl⟩
theorem isnum_any (z:Int) (w:World):Calls Tryz.prog 108 #[.int .i64 z] w fun e w'=>e=.returned (.bool (num1 z 0))∧w=w':=by
 by_cases h:(0:Int)≤z
 ·have hk:num1 z 0=decide (z≤32767):=by rw [num1,decide_eq_true h,Bool.true_and]
  rw [hk]
  clear hk
  go_enter Tryz.func108,Tryz.ntmps108
  go_wp2
  go_ret
  exact⟨rfl,rfl⟩
 ·have hk:num1 z 0=false:=by rw [num1,decide_eq_false h,Bool.false_and]
  rw [hk]
  clear hk
  go_enter Tryz.func108,Tryz.ntmps108
  go_wp2
  go_ret
  exact⟨rfl,rfl⟩
end Go.Proofs.YtcknpcbkofgdoaaGreatDoor
