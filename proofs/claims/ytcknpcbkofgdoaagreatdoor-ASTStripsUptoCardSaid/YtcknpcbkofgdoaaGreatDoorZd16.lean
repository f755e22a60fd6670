/-
  LAYER 16 (ast), THE LAWS: Strips.
-/
import Derived.Test.YtcknpcbkofgdoaaGreatDoorZdShort
import Derived.Test.YtcknpcbkofgdoaaGreatDoorZd09
import Derived.Test.YtcknpcbkofgdoaaGreatDoorZd15
import Derived.Test.YtcknpcbkofgdoaaGreatDoorZd08
import Derived.Test.YtcknpcbkofgdoaaGreatDoorZd01
import Derived.Test.YtcknpcbkofgdoaaGreatDoorZd14
import Derived.Test.YtcknpcbkofgdoaaGreatDoorZd00
import Derived.Deep.LoopGhost
import Derived.Deep.Cut
import Derived.Shelf.Abstract
namespace Go.Proofs.YtcknpcbkofgdoaaGreatDoor
open Go Go.RowKit Go.IntWalk
set_option linter.unusedSimpArgs false
set_option linter.unusedVariables false
set_option maxRecDepth 8000
section
variable {dst:Option Tmp}{ty:TypeId}{pos:String}{after:Array Edge}{g:Option (Nat × Bool)}{a:Act}{w:World}{T:Value→World→Prop}
end
theorem Frs.newF {α:Type}{k:Nat}{enc:α→List Value}(E:Enc k enc){e:TypeId}{N a:Nat}{p:Option Addr}{c:Nat}{L:List α}{w:World}(h:Frs k enc e N p c L w) (ha:a≤N):NewF k enc a w.heap.size p c L w :=
 ⟨h.1,fun hn ad had=>by have h1:=(h.2 hn).place E ad had;exact⟨by omega,h1.2,by omega⟩⟩
theorem CpW.pg {P:Pg}{B:Nat→Prop}{w0 w:World}{a:Nat}{cp gp sp op hp tp:Option Addr}{cc gc sc oc hc tc:Nat}{cq gq sq oq hq tq:Option Addr}{ck gk sk ok hk tk:Nat}(h0:PgIn B w0 P cp gp sp op hp tp cc gc sc oc hc tc) (h:CpW w a (stP P) cq gq sq oq hq tq ck gk sk ok hk tk):PgIn (Fresh a w.heap.size) w (stP P) cq gq sq oq hq tq ck gk sk ok hk tk:=by
 obtain ⟨b,h1,h2,h3,h4,h5,h6,h7,h8⟩:=h
 exact PgIn.of_new h0 (h4.newF encCn h1) (h5.newF encGl h1) (h6.newF encStr h1) (h7.newF encStr h1) (h8.newF encCh h1) (h3.tl.keep (fun i hi=>⟨hi.1,by have:=hi.2;omega⟩) (fun _ _ _=>rfl)) (Nat.le_refl a)
theorem pgv_stz (P:Pg){cq gq sq oq hq tq:Option Addr}{ck gk sk ok hk tk:Nat}:pgv (stP P) cq gq sq oq hq tq ck gk sk ok hk tk=pgv P cq gq sq oq hq tq ck gk sk ok hk tk:=by
 rw [pgv,pgv,stP]
 simp only [List.length_map]
theorem en_l12q:Enters Tryz.prog 21:=fun args w=>by go_simp
set_option maxHeartbeats 32000000 in
theorem strips_walk (P:Pg) (B:Nat→Prop) (w:World) (cp gp sp op hp tp:Option Addr) (cc gc sc oc hc tc:Nat) (hB:∀b,B b→b < w.heap.size) (hpg:PgIn B w P cp gp sp op hp tp cc gc sc oc hc tc) (hE:Env w) (hn:zT P.ts≤1048576) :
 Calls Tryz.prog 9 #[pgv P cp gp sp op hp tp cc gc sc oc hc tc] w fun e w'=>e=.returned (.bool true)∧Grew w w':=by
 obtain ⟨hcaps,hmaxs⟩:=hpg.caps
 have HBB:=zh hB
 have HE:=zh hE
 have HPG:=zh hpg
 have HN:=zh hn
 have HAW:=zh (fun W (hW:Grew w W)=>awake_any W (HE.out.grew hW))
 have HSM:=zh (fun W (hW:Grew w W)=>small_any P B W cp gp sp op hp tp cc gc sc oc hc tc (fun b hb=>Nat.lt_of_lt_of_le (hB b hb) hW.sz) (hpg.kept hW) hn)
 obtain ⟨b,hb⟩:∃b,smallP P=b:=⟨_,rfl⟩
 have HSP:=zh hb
 rw [hb] at HSM
 clear hb
 have HFP:Hid (b=true→∀W,Grew w W→Calls Tryz.prog 13 #[pgv P cp gp sp op hp tp cc gc sc oc hc tc] W fun e w'=>e=.returned (.string (if okP P=true then ⟨(fmT P).toArray⟩ else ⟨#[]⟩))∧Grew W w'):=zh (fun hb W hW=>fmtP_any P B W cp gp sp op hp tp cc gc sc oc hc tc (fun b hb=>Nat.lt_of_lt_of_le (HBB.out b hb) hW.sz) (HPG.out.kept hW) (HE.out.grew hW) (HSP.out.trans hb))
 have HFQ:Hid (b=true→∀(A:Nat→Prop) (W:World) (cq gq sq oq hq tq:Option Addr) (ck gk sk ok hk tk:Nat),(∀i,A i→i < W.heap.size)→PgIn A W (stP P) cq gq sq oq hq tq ck gk sk ok hk tk→Grew w W→Calls Tryz.prog 13 #[pgv P cq gq sq oq hq tq ck gk sk ok hk tk] W fun e w'=>e=.returned (.string (if okP P=true then ⟨(fmT P).toArray⟩ else ⟨#[]⟩))∧Grew W w'):=zh (fun hb A W cq gq sq oq hq tq ck gk sk ok hk tk hA hq_ hW=>by
  have h_:=fmtP_any (stP P) A W cq gq sq oq hq tq ck gk sk ok hk tk hA hq_ (HE.out.grew hW) ((smallP_stz P).trans (HSP.out.trans hb))
  rw [okP_stz,fmT_stz,pgv_stz] at h_
  exact h_)
 have HRE:Hid (b=true→∀(A:Nat→Prop) (W:World) (cq gq sq oq hq tq:Option Addr) (ck gk sk ok hk tk:Nat),PgIn A W (stP P) cq gq sq oq hq tq ck gk sk ok hk tk→PgIn B W P cp gp sp op hp tp cc gc sc oc hc tc→Calls Tryz.prog 21 #[pgv P cp gp sp op hp tp cc gc sc oc hc tc,pgv P cq gq sq oq hq tq ck gk sk ok hk tk] W fun e w'=>e=.returned (.bool true)∧Grew W w'):=zh (fun hb A W cq gq sq oq hq tq ck gk sk ok hk tk hq_ hp_=>by
  have h_:=eqR_any P (stP P) B A W cp gp sp op hp tp cc gc sc oc hc tc cq gq sq oq hq tq ck gk sk ok hk tk hp_ hq_ (by have h9:=small_le (HSP.out.trans hb);omega) (by have h9:=small_le ((smallP_stz P).trans (HSP.out.trans hb));omega)
  rw [eqPg_stz,pgv_stz] at h_
  exact h_)
 have HST:Hid (b=true→∀W,Grew w W→Calls Tryz.prog 35 #[pgv P cp gp sp op hp tp cc gc sc oc hc tc] W fun e w'=>∃cq gq sq oq hq tq ck gk sk ok hk tk,e=.returned (pgv P cq gq sq oq hq tq ck gk sk ok hk tk)∧CpW w' W.heap.size (stP P) cq gq sq oq hq tq ck gk sk ok hk tk∧PgIn (Fresh W.heap.size w'.heap.size) w' (stP P) cq gq sq oq hq tq ck gk sk ok hk tk∧Grew W w'):=zh (fun hb W hW=>(sP_any P B W cp gp sp op hp tp cc gc sc oc hc tc (HPG.out.kept hW) (by have h9:=small_le (HSP.out.trans hb);omega)).mono (by
  rintro e w' ⟨cq,gq,sq,oq,hq,tq,ck,gk,sk,ok,hk,tk,h1,h2,h3⟩
  exact⟨cq,gq,sq,oq,hq,tq,ck,gk,sk,ok,hk,tk,h1,h2,CpW.pg HPG.out h2,h3⟩))
 have HRS:Hid (b=true→∀W,PgIn B W P cp gp sp op hp tp cc gc sc oc hc tc→Calls Tryz.prog 36 #[pgv P cp gp sp op hp tp cc gc sc oc hc tc] W fun e w'=>∃cz gz sz oz hz tz cy gy sy oy hy ty,e=.returned (pgv P cz gz sz oz hz tz cy gy sy oy hy ty)∧PgIn (Fresh W.heap.size w'.heap.size) w' (stP P) cz gz sz oz hz tz cy gy sy oy hy ty∧Grew W w'):=zh (fun hb W hp_=>stripP_any P B W cp gp sp op hp tp cc gc sc oc hc tc hp_ (by have h9:=small_le (HSP.out.trans hb);omega))
 have HLE:Hid (b=true→zT P.ts≤300):=zh (fun hb=>(small_le (HSP.out.trans hb)).2.2.2.2.2.2.1)
 clear HSP
 generalize (if okP P=true then (⟨(fmT P).toArray⟩:ByteArray) else ⟨#[]⟩)=d at HFP HFQ
 obtain ⟨cs,gs,ss,os,hs,ts⟩:=P
 dsimp only at hcaps HSM HLE
 have HG1:=zh ((Grew.refl w).alloc (Obj.cells #[.slice cp cs.length cc,.slice gp gs.length gc,.slice sp ss.length sc,.slice op os.length oc,.slice hp hs.length hc,.slice tp ts.length tc] 28))
 clear hB hpg hE hn HN HE
 show Calls Tryz.prog 9 #[.agg #[.slice cp cs.length cc,.slice gp gs.length gc,.slice sp ss.length sc,.slice op os.length oc,.slice hp hs.length hc,.slice tp ts.length tc]] w fun e w'=>e=.returned (.bool true)∧Grew w w'
 cases b with
 | false =>
   clear HFP HFQ HRE HST HRS HLE
   go_enter Tryz.func9,Tryz.ntmps9
   go_wp2_with (first
    | (go_at_call 11;(with_reducible refine(HAW.out _ HG1.out).mono ?_);rintro e w1 ⟨rfl,g⟩;have HG2:=zh (HG1.out.trans g);have hbx:=(Blk.new w [.slice cp cs.length cc,.slice gp gs.length gc,.slice sp ss.length sc,.slice op os.length oc,.slice hp hs.length hc,.slice tp ts.length tc] 28).grew g;have q0:w1.cell? ⟨w.heap.size,0,none⟩=some (.slice cp cs.length cc):=hbx.cell 0;have q1:w1.cell? ⟨w.heap.size,1,none⟩=some (.slice gp gs.length gc):=hbx.cell 1;have q2:w1.cell? ⟨w.heap.size,2,none⟩=some (.slice sp ss.length sc):=hbx.cell 2;have q3:w1.cell? ⟨w.heap.size,3,none⟩=some (.slice op os.length oc):=hbx.cell 3;have q4:w1.cell? ⟨w.heap.size,4,none⟩=some (.slice hp hs.length hc):=hbx.cell 4;have q5:w1.cell? ⟨w.heap.size,5,none⟩=some (.slice tp ts.length tc):=hbx.cell 5;clear g hbx)
    | (go_at_call 12;(with_reducible refine(HSM.out _ HG2.out).mono ?_);rintro e w2 ⟨rfl,g⟩;have HG3:=zh (HG2.out.trans g);clear g))
   go_ret
   exact⟨rfl,HG3.out⟩
 | true =>
   replace HFP:=zh (HFP.out rfl)
   replace HFQ:=zh (HFQ.out rfl)
   replace HRE:=zh (HRE.out rfl)
   replace HST:=zh (HST.out rfl)
   replace HRS:=zh (HRS.out rfl)
   replace HLE:=zh (HLE.out rfl)
   go_enter Tryz.func9,Tryz.ntmps9
   go_upto_region 5 with (first
    | (go_at_call 11;(with_reducible refine(HAW.out _ HG1.out).mono ?_);rintro e w1 ⟨rfl,g⟩;have HG2:=zh (HG1.out.trans g);have HBX:=zh ((Blk.new w [.slice cp cs.length cc,.slice gp gs.length gc,.slice sp ss.length sc,.slice op os.length oc,.slice hp hs.length hc,.slice tp ts.length tc] 28).grew g);have q0:w1.cell? ⟨w.heap.size,0,none⟩=some (.slice cp cs.length cc):=HBX.out.cell 0;have q1:w1.cell? ⟨w.heap.size,1,none⟩=some (.slice gp gs.length gc):=HBX.out.cell 1;have q2:w1.cell? ⟨w.heap.size,2,none⟩=some (.slice sp ss.length sc):=HBX.out.cell 2;have q3:w1.cell? ⟨w.heap.size,3,none⟩=some (.slice op os.length oc):=HBX.out.cell 3;have q4:w1.cell? ⟨w.heap.size,4,none⟩=some (.slice hp hs.length hc):=HBX.out.cell 4;have q5:w1.cell? ⟨w.heap.size,5,none⟩=some (.slice tp ts.length tc):=HBX.out.cell 5;clear g)
    | (go_at_call 12;(with_reducible refine(HSM.out _ HG2.out).mono ?_);rintro e V0 ⟨rfl,g⟩;have HGV0:=zh (HG2.out.trans g);have HBV0:=zh (HBX.out.grew g);have z0:V0.cell? ⟨w.heap.size,0,none⟩=some (.slice cp cs.length cc):=HBV0.out.cell 0;have z1:V0.cell? ⟨w.heap.size,1,none⟩=some (.slice gp gs.length gc):=HBV0.out.cell 1;have z2:V0.cell? ⟨w.heap.size,2,none⟩=some (.slice sp ss.length sc):=HBV0.out.cell 2;have z3:V0.cell? ⟨w.heap.size,3,none⟩=some (.slice op os.length oc):=HBV0.out.cell 3;have z4:V0.cell? ⟨w.heap.size,4,none⟩=some (.slice hp hs.length hc):=HBV0.out.cell 4;have z5:V0.cell? ⟨w.heap.size,5,none⟩=some (.slice tp ts.length tc):=HBV0.out.cell 5;clear g))
   obtain ⟨T,hT⟩:∃T,w.heap.size=T:=⟨_,rfl⟩
   have HTT:Hid (w.heap.size≤T∧T < V0.heap.size):=zh (by have h1:=HBV0.out.lt;omega)
   rw [hT] at HBV0 HBX q0 z0 q1 z1 q2 z2 q3 z3 q4 z4 q5 z5 ⊢
   clear hT HBX HG2 HG1 HAW HSM q0 q1 q2 q3 q4 q5
   go_upto_region 6 with (go_at_call 35;(with_reducible refine(HST.out _ HGV0.out).mono ?_);rintro e_ W0 ⟨cq,gq,sq,oq,hq,tq,ck,gk,sk,ok,hk,tk,rfl,hcw,hpq,hg1⟩;have HCW0:=zh hcw;have HPQ0:=zh hpq;have HGW0:=zh hg1;have HBV1:=zh (HBV0.out.grew hg1);clear hcw hpq hg1)
   obtain ⟨b,hab,hbW,hot,fc,fg,fs,fo,fh⟩:=HCW0.out
   replace hot:OT W0 V0.heap.size b tq tk (ts.map stTa):=hot
   have hbn:Blk W0.heap.size [.slice cq cs.length ck,.slice gq gs.length gk,.slice sq ss.length sk,.slice oq os.length ok,.slice hq hs.length hk,.slice tq ts.length tk] 28 (W0.alloc (Obj.cells #[.slice cq cs.length ck,.slice gq gs.length gk,.slice sq ss.length sk,.slice oq os.length ok,.slice hq hs.length hk,.slice tq ts.length tk] 28)):=Blk.new W0 _ _
   have hgn:Grew W0 (W0.alloc (Obj.cells #[.slice cq cs.length ck,.slice gq gs.length gk,.slice sq ss.length sk,.slice oq os.length ok,.slice hq hs.length hk,.slice tq ts.length tk] 28)):=(Grew.refl _).alloc _
   generalize (W0.alloc (Obj.cells #[.slice cq cs.length ck,.slice gq gs.length gk,.slice sq ss.length sk,.slice oq os.length ok,.slice hq hs.length hk,.slice tq ts.length tk] 28))=V at hbn hgn ⊢
   obtain ⟨U,hU⟩:∃U,W0.heap.size=U:=⟨_,rfl⟩
   rw [hU] at hbn ⊢
   have HBT:Hid (Blk T [.slice cp cs.length cc,.slice gp gs.length gc,.slice sp ss.length sc,.slice op os.length oc,.slice hp hs.length hc,.slice tp ts.length tc] 28 V):=zh (HBV1.out.grew hgn)
   have HBU:Hid (Blk U [.slice cq cs.length ck,.slice gq gs.length gk,.slice sq ss.length sk,.slice oq os.length ok,.slice hq hs.length hk,.slice tq ts.length tk] 28 V):=zh hbn
   have HGV:Hid (Grew w V):=zh ((HGV0.out.trans HGW0.out).trans hgn)
   have HPQ:Hid (PgIn (Fresh V0.heap.size W0.heap.size) V (stP ⟨cs,gs,ss,os,hs,ts⟩) cq gq sq oq hq tq ck gk sk ok hk tk):=zh (HPQ0.out.kept hgn)
   have HOT:Hid (OT V V0.heap.size b tq tk (ts.map stTa)):=zh (hot.kept hgn)
   have HTB:Hid (w.heap.size≤T∧T < V0.heap.size∧V0.heap.size≤b∧b≤U∧U < V.heap.size):=zh (by have h1:=hbn.lt;have h2:=HTT.out;omega)
   have hcq:=HPQ.out.caps
   simp only [stP,List.length_map] at hcq
   obtain ⟨hcq,hmq⟩:=hcq
   have HFP1:Hid (∀W,Grew V W→Calls Tryz.prog 13 #[.agg #[.slice cp cs.length cc,.slice gp gs.length gc,.slice sp ss.length sc,.slice op os.length oc,.slice hp hs.length hc,.slice tp ts.length tc]] W fun e w'=>e=.returned (.string d)∧Grew W w'):=zh (fun W h=>HFP.out W (HGV.out.trans h))
   have HFQ1:Hid (∀W,Grew V W→Calls Tryz.prog 13 #[.agg #[.slice cq cs.length ck,.slice gq gs.length gk,.slice sq ss.length sk,.slice oq os.length ok,.slice hq hs.length hk,.slice tq ts.length tk]] W fun e w'=>e=.returned (.string d)∧Grew W w'):=zh (fun W h=>HFQ.out _ W cq gq sq oq hq tq ck gk sk ok hk tk (fun i hi=>by have h1:V0.heap.size≤i∧i < W0.heap.size:=hi;have h2:=hgn.sz;have h3:=h.sz;omega) (HPQ.out.kept h) (HGV.out.trans h))
   have HRE1:Hid (∀W,Grew V W→Calls Tryz.prog 21 #[.agg #[.slice cp cs.length cc,.slice gp gs.length gc,.slice sp ss.length sc,.slice op os.length oc,.slice hp hs.length hc,.slice tp ts.length tc],.agg #[.slice cq cs.length ck,.slice gq gs.length gk,.slice sq ss.length sk,.slice oq os.length ok,.slice hq hs.length hk,.slice tq ts.length tk]] W fun e w'=>e=.returned (.bool true)∧Grew W w'):=zh (fun W h=>HRE.out _ W cq gq sq oq hq tq ck gk sk ok hk tk (HPQ.out.kept h) (HPG.out.kept (HGV.out.trans h)))
   have hb1:=HBT.out
   have hb2:=HBU.out
   have d0:Atv ⟨T,0,none⟩ (.slice cp cs.length cc) V.drew:=(hb1.grew (Grew.refl _).drw).atv 0 rfl
   have d1:Atv ⟨T,1,none⟩ (.slice gp gs.length gc) V.drew:=(hb1.grew (Grew.refl _).drw).atv 1 rfl
   have d2:Atv ⟨T,2,none⟩ (.slice sp ss.length sc) V.drew:=(hb1.grew (Grew.refl _).drw).atv 2 rfl
   have d3:Atv ⟨T,3,none⟩ (.slice op os.length oc) V.drew:=(hb1.grew (Grew.refl _).drw).atv 3 rfl
   have d4:Atv ⟨T,4,none⟩ (.slice hp hs.length hc) V.drew:=(hb1.grew (Grew.refl _).drw).atv 4 rfl
   have d5:Atv ⟨T,5,none⟩ (.slice tp ts.length tc) V.drew:=(hb1.grew (Grew.refl _).drw).atv 5 rfl
   have e0:Atv ⟨U,0,none⟩ (.slice cq cs.length ck) V.drew:=(hb2.grew (Grew.refl _).drw).atv 0 rfl
   have e1:Atv ⟨U,1,none⟩ (.slice gq gs.length gk) V.drew:=(hb2.grew (Grew.refl _).drw).atv 1 rfl
   have e2:Atv ⟨U,2,none⟩ (.slice sq ss.length sk) V.drew:=(hb2.grew (Grew.refl _).drw).atv 2 rfl
   have e3:Atv ⟨U,3,none⟩ (.slice oq os.length ok) V.drew:=(hb2.grew (Grew.refl _).drw).atv 3 rfl
   have e4:Atv ⟨U,4,none⟩ (.slice hq hs.length hk) V.drew:=(hb2.grew (Grew.refl _).drw).atv 4 rfl
   have e5:Atv ⟨U,5,none⟩ (.slice tq ts.length tk) V.drew:=(hb2.grew (Grew.refl _).drw).atv 5 rfl
   clear hb1 hb2 hU hot fc fg fs fo fh hab hbW hbn hgn HFP HFQ HST HCW0 HPQ0 HGW0 HGV0 HBV0 HBV1 HTT z0 z1 z2 z3 z4 z5
   refine wp_posts [some 26,some 27,some 28,some 29,some 30,some 31,some 32,some 33,some 34,some 35,some 36] (Zfe (Zfd (Zfb (Ztd (Ztb (Zta (Zfg (Zfg (Zfg (Zfd (Zfa []))))))))))) [fun v _=>v=.agg #[.slice cp (cs.length) (cc),.slice gp (gs.length) (gc),.slice sp (ss.length) (sc),.slice op (os.length) (oc),.slice hp (hs.length) (hc),.slice tp (ts.length) (tc)],fun v _=>v=.agg #[.slice cq (cs.length) (ck),.slice gq (gs.length) (gk),.slice sq (ss.length) (sk),.slice oq (os.length) (ok),.slice hq (hs.length) (hk),.slice tq (ts.length) (tk)],fun v _=>v=.bool (true),fun v _=>v=.bool (false),fun v _=>v=.bool (false),fun v _=>v=.agg #[.slice cp (cs.length) (cc),.slice gp (gs.length) (gc),.slice sp (ss.length) (sc),.slice op (os.length) (oc),.slice hp (hs.length) (hc),.slice tp (ts.length) (tc)],fun v _=>v=.string d,fun v _=>v=.agg #[.slice cq (cs.length) (ck),.slice gq (gs.length) (gk),.slice sq (ss.length) (sk),.slice oq (os.length) (ok),.slice hq (hs.length) (hk),.slice tq (ts.length) (tk)],fun v _=>v=.string d,fun v _=>v=.bool (!decide ((d)=(d))),fun v _=>v=.bool (!decide ((d)=(d)))] (by kernel_rfl) (by kernel_rfl) rfl ?_ ⟨?_,?_,?_,?_,?_,?_,?_,?_,?_,?_,?_,trivial⟩ ?_
   ·exact⟨Zi,Zi,Zi,Zi,Zi,Zi,Zi,Zi,Zi,Zi,Zi,trivial⟩
   ·intro u w hR hd;exact rn_ld_28 (ev rfl) (d0.kept hR) (d1.kept hR) (d2.kept hR) (d3.kept hR) (d4.kept hR) (d5.kept hR) Zr
   ·intro u w hR hd;exact rn_ld_28 (ev rfl) (e0.kept hR) (e1.kept hR) (e2.kept hR) (e3.kept hR) (e4.kept hR) (e5.kept hR) Zr
   ·intro u w hR hd;exact runs_c2 en_l12q (ev (hd.1 rfl)) (ev (hd.2.1 rfl)) (callp (fun _ e=>e) (HRE1.out _ ((Grew.refl _).drw.trans hR)))
   ·intro u w hR hd;exact runs_nt (ev (hd.1 rfl)) Zr
   ·intro u w hR hd;exact runs_mv (ev (hd.1 rfl)) Zr
   ·intro u w hR hd;exact⟨fun _=>rn_ld_28 (ev rfl) (d0.kept hR) (d1.kept hR) (d2.kept hR) (d3.kept hR) (d4.kept hR) (d5.kept hR) Zr,fun hn=>absurd (hd.1 rfl) hn⟩
   ·intro u w hR hd;exact⟨fun _=>runs_c1 en_l7 (ev (hd.1 rfl)) (callp (fun _ e=>e) (HFP1.out _ ((Grew.refl _).drw.trans hR))),fun hn=>absurd (hd.2.1 rfl) hn⟩
   ·intro u w hR hd;exact⟨fun _=>rn_ld_28 (ev rfl) (e0.kept hR) (e1.kept hR) (e2.kept hR) (e3.kept hR) (e4.kept hR) (e5.kept hR) Zr,fun hn=>absurd (hd.1 rfl) hn⟩
   ·intro u w hR hd;exact⟨fun _=>runs_c1 en_l7 (ev (hd.1 rfl)) (callp (fun _ e=>e) (HFQ1.out _ ((Grew.refl _).drw.trans hR))),fun hn=>absurd (hd.2.2.1 rfl) hn⟩
   ·intro u w hR hd;exact⟨fun _=>rn_nes_9 (ev (hd.1 rfl)) (ev (hd.2.1 rfl)) Zr,fun hn=>absurd (hd.2.2.1 rfl) hn⟩
   ·intro u w hR hd;exact runs_or2 (ev (hd.1 rfl)) (fun hb=>ev ((hd.2.1 rfl))) Zr
   ·intro u w4 hR hh_
    have he:u 36=.bool (!decide ((d)=(d))):=hh_ 10 (by decide)
    have HZ:(!decide ((d)=(d)))=false:=by simp
    rw [HZ] at he
    simp only [mixA,mixL,zz9,zz0,he]
    have HG:Hid (Grew V w4):=zh ((Grew.refl V).drw.trans hR)
    clear hh_ he hR HZ HFP1 HFQ1 HRE1 d0 e0 d1 e1 d2 e2 d3 e3 d4 e4 d5 e5
    have z0:=HBU.out.grew HG.out |>.cell 0
    simp only [zz7,zz8] at z0
    go_wp2
    clear z0
    have HG0:=HG
    clear HG
    go_loopg [5,40] cs.length (fun gg v_ iv wr=>∃(j:Nat),iv=.int .i64 (j:Int)∧j≤cs.length∧gg=cs.length - j∧Hid (Grew V wr))
    case atStart=>exact⟨0,rfl,Nat.zero_le _,rfl,HG0⟩
    case round =>
     obtain ⟨j,rfl,hj,rfl,HG⟩:=hrel
     clear HG0
     by_cases hlt:j < cs.length
     ·have hlm:j < (cs.map stCn).length:=by rw [List.length_map];exact hlt
      obtain ⟨b1,o1,rfl,hcc⟩:=HPQ.out.cs.2.getF j hlm
      have HLT:=zh (Nat.succ_le_of_lt hlt)
      have hge:(cs.map stCn)[j]=stCn cs[j]:=List.getElem_map ..
      replace hcc:=hge ▸ hcc
      generalize cs[j]=x at hcc
      obtain ⟨s,z,q⟩:=x
      clear hge
      replace hcc:∀i_ u_,([.string s,.int .i16 z,.int .i64 0]:List Value)[i_]?=some u_→V.cell? ⟨b1,o1+j * 3+i_,none⟩=some u_:=hcc
      have q0:wr.cell? ⟨b1,o1+j * 3,none⟩=some (.string s):=Atv.kept (hcc 0 _ rfl) HG.out
      have q1:wr.cell? ⟨b1,o1+j * 3+1,none⟩=some (.int .i16 z):=Atv.kept (hcc 1 _ rfl) HG.out
      have q2:wr.cell? ⟨b1,o1+j * 3+2,none⟩=some (.int .i64 0):=Atv.kept (hcc 2 _ rfl) HG.out
      clear hcc hlm
      go_upto_region 11 with fail
      have hb1:Blk wr.heap.size [.string s,.int .i16 z,.int .i64 0] 60 (wr.alloc (Obj.cells #[.string s,.int .i16 z,.int .i64 0] 60)):=Blk.new wr _ _
      have hg1:Grew V (wr.alloc (Obj.cells #[.string s,.int .i16 z,.int .i64 0] 60)):=HG.out.alloc _
      generalize (wr.alloc (Obj.cells #[.string s,.int .i16 z,.int .i64 0] 60))=V1 at hb1 hg1 ⊢
      generalize wr.heap.size=T1 at hb1 ⊢
      have r0:V1.cell? ⟨T1,2,none⟩=some (.int .i64 0):=hb1.cell 2
      have HGN:=zh hg1
      clear hb1 hg1 HG q0 q1 q2
      go_wp2
      go_roundg (cs.length - (j+1))
      case measure=>have:=HLT.out;omega
      case rel=>exact⟨j+1,by go_num,HLT.out,rfl,HGN⟩
     ·obtain rfl:j=cs.length:=by omega
      have z1:=HBU.out.grew HG.out |>.cell 1
      simp only [zz7,zz8] at z1
      go_wp2
      clear z1
      have HG0:=HG
      clear HG
      go_loopg [7,51] gs.length (fun gg v_ iv wr=>∃(j:Nat),iv=.int .i64 (j:Int)∧j≤gs.length∧gg=gs.length - j∧Hid (Grew V wr))
      case atStart=>exact⟨0,rfl,Nat.zero_le _,rfl,HG0⟩
      case round =>
       obtain ⟨j,rfl,hj,rfl,HG⟩:=hrel
       clear HG0
       by_cases hlt:j < gs.length
       ·have hlm:j < (gs.map stGl).length:=by rw [List.length_map];exact hlt
        obtain ⟨b1,o1,rfl,hcc⟩:=HPQ.out.gs.2.getF j hlm
        have HLT:=zh (Nat.succ_le_of_lt hlt)
        have hge:(gs.map stGl)[j]=stGl gs[j]:=List.getElem_map ..
        replace hcc:=hge ▸ hcc
        generalize gs[j]=x at hcc
        obtain ⟨s,y,z,q⟩:=x
        clear hge
        replace hcc:∀i_ u_,([.string s,.int .i64 y,.int .i16 z,.int .i64 0]:List Value)[i_]?=some u_→V.cell? ⟨b1,o1+j * 4+i_,none⟩=some u_:=hcc
        have q0:wr.cell? ⟨b1,o1+j * 4,none⟩=some (.string s):=Atv.kept (hcc 0 _ rfl) HG.out
        have q1:wr.cell? ⟨b1,o1+j * 4+1,none⟩=some (.int .i64 y):=Atv.kept (hcc 1 _ rfl) HG.out
        have q2:wr.cell? ⟨b1,o1+j * 4+2,none⟩=some (.int .i16 z):=Atv.kept (hcc 2 _ rfl) HG.out
        have q3:wr.cell? ⟨b1,o1+j * 4+3,none⟩=some (.int .i64 0):=Atv.kept (hcc 3 _ rfl) HG.out
        clear hcc hlm
        go_upto_region 17 with fail
        have hb1:Blk wr.heap.size [.string s,.int .i64 y,.int .i16 z,.int .i64 0] 62 (wr.alloc (Obj.cells #[.string s,.int .i64 y,.int .i16 z,.int .i64 0] 62)):=Blk.new wr _ _
        have hg1:Grew V (wr.alloc (Obj.cells #[.string s,.int .i64 y,.int .i16 z,.int .i64 0] 62)):=HG.out.alloc _
        generalize (wr.alloc (Obj.cells #[.string s,.int .i64 y,.int .i16 z,.int .i64 0] 62))=V1 at hb1 hg1 ⊢
        generalize wr.heap.size=T1 at hb1 ⊢
        have r0:V1.cell? ⟨T1,3,none⟩=some (.int .i64 0):=hb1.cell 3
        have HGN:=zh hg1
        clear hb1 hg1 HG q0 q1 q2 q3
        go_wp2
        go_roundg (gs.length - (j+1))
        case measure=>have:=HLT.out;omega
        case rel=>exact⟨j+1,by go_num,HLT.out,rfl,HGN⟩
       ·obtain rfl:j=gs.length:=by omega
        have z4:=HBU.out.grew HG.out |>.cell 4
        simp only [zz7,zz8] at z4
        go_wp2
        clear z4
        have HG0:=HG
        clear HG
        go_loopg [9,62] hs.length (fun gg v_ iv wr=>∃(j:Nat),iv=.int .i64 (j:Int)∧j≤hs.length∧gg=hs.length - j∧Hid (Grew V wr))
        case atStart=>exact⟨0,rfl,Nat.zero_le _,rfl,HG0⟩
        case round =>
         obtain ⟨j,rfl,hj,rfl,HG⟩:=hrel
         clear HG0
         by_cases hlt:j < hs.length
         ·have hlm:j < (hs.map stCn).length:=by rw [List.length_map];exact hlt
          obtain ⟨b1,o1,rfl,hcc⟩:=HPQ.out.hs.2.getF j hlm
          have HLT:=zh (Nat.succ_le_of_lt hlt)
          have hge:(hs.map stCn)[j]=stCn hs[j]:=List.getElem_map ..
          replace hcc:=hge ▸ hcc
          generalize hs[j]=x at hcc
          obtain ⟨s,z,q⟩:=x
          clear hge
          replace hcc:∀i_ u_,([.string s,.int .i64 z,.int .i64 0]:List Value)[i_]?=some u_→V.cell? ⟨b1,o1+j * 3+i_,none⟩=some u_:=hcc
          have q0:wr.cell? ⟨b1,o1+j * 3,none⟩=some (.string s):=Atv.kept (hcc 0 _ rfl) HG.out
          have q1:wr.cell? ⟨b1,o1+j * 3+1,none⟩=some (.int .i64 z):=Atv.kept (hcc 1 _ rfl) HG.out
          have q2:wr.cell? ⟨b1,o1+j * 3+2,none⟩=some (.int .i64 0):=Atv.kept (hcc 2 _ rfl) HG.out
          clear hcc hlm
          go_upto_region 23 with fail
          have hb1:Blk wr.heap.size [.string s,.int .i64 z,.int .i64 0] 64 (wr.alloc (Obj.cells #[.string s,.int .i64 z,.int .i64 0] 64)):=Blk.new wr _ _
          have hg1:Grew V (wr.alloc (Obj.cells #[.string s,.int .i64 z,.int .i64 0] 64)):=HG.out.alloc _
          generalize (wr.alloc (Obj.cells #[.string s,.int .i64 z,.int .i64 0] 64))=V1 at hb1 hg1 ⊢
          generalize wr.heap.size=T1 at hb1 ⊢
          have r0:V1.cell? ⟨T1,2,none⟩=some (.int .i64 0):=hb1.cell 2
          have HGN:=zh hg1
          clear hb1 hg1 HG q0 q1 q2
          go_wp2
          go_roundg (hs.length - (j+1))
          case measure=>have:=HLT.out;omega
          case rel=>exact⟨j+1,by go_num,HLT.out,rfl,HGN⟩
         ·obtain rfl:j=hs.length:=by omega
          have hbt:=HBT.out.grew HG.out
          have t0:wr.cell? ⟨T,0,none⟩=some (.slice cp cs.length cc):=hbt.cell 0
          have t1:wr.cell? ⟨T,1,none⟩=some (.slice gp gs.length gc):=hbt.cell 1
          have t2:wr.cell? ⟨T,2,none⟩=some (.slice sp ss.length sc):=hbt.cell 2
          have t3:wr.cell? ⟨T,3,none⟩=some (.slice op os.length oc):=hbt.cell 3
          have t4:wr.cell? ⟨T,4,none⟩=some (.slice hp hs.length hc):=hbt.cell 4
          have t5:wr.cell? ⟨T,5,none⟩=some (.slice tp ts.length tc):=hbt.cell 5
          have HRS1:=zh (HRS.out wr (HPG.out.kept (HGV.out.trans HG.out)))
          clear hbt
          go_upto_region 27 with (go_at_call 36;(with_reducible refine HRS1.out.mono ?_);rintro e_ W2 ⟨cz,gz,sz,oz,hz,tz,cy,gy,sy,oy,hy,ty,rfl,hpz,hg2⟩;have HPZ0:=zh hpz;have HGW2:=zh hg2;clear hpz hg2)
          have hbn:Blk W2.heap.size [.slice cz cs.length cy,.slice gz gs.length gy,.slice sz ss.length sy,.slice oz os.length oy,.slice hz hs.length hy,.slice tz ts.length ty] 28 (W2.alloc (Obj.cells #[.slice cz cs.length cy,.slice gz gs.length gy,.slice sz ss.length sy,.slice oz os.length oy,.slice hz hs.length hy,.slice tz ts.length ty] 28)):=Blk.new W2 _ _
          have hgn:Grew W2 (W2.alloc (Obj.cells #[.slice cz cs.length cy,.slice gz gs.length gy,.slice sz ss.length sy,.slice oz os.length oy,.slice hz hs.length hy,.slice tz ts.length ty] 28)):=(Grew.refl _).alloc _
          generalize (W2.alloc (Obj.cells #[.slice cz cs.length cy,.slice gz gs.length gy,.slice sz ss.length sy,.slice oz os.length oy,.slice hz hs.length hy,.slice tz ts.length ty] 28))=Y at hbn hgn ⊢
          obtain ⟨X,hX⟩:∃X,W2.heap.size=X:=⟨_,rfl⟩
          rw [hX] at hbn ⊢
          have HGY:Hid (Grew V Y):=zh ((HG.out.trans HGW2.out).trans hgn)
          have HGWY:Hid (Grew w Y):=zh (HGV.out.trans HGY.out)
          have HBTY:Hid (Blk T [.slice cp cs.length cc,.slice gp gs.length gc,.slice sp ss.length sc,.slice op os.length oc,.slice hp hs.length hc,.slice tp ts.length tc] 28 Y):=zh (HBT.out.grew HGY.out)
          have HBUY:Hid (Blk U [.slice cq cs.length ck,.slice gq gs.length gk,.slice sq ss.length sk,.slice oq os.length ok,.slice hq hs.length hk,.slice tq ts.length tk] 28 Y):=zh (HBU.out.grew HGY.out)
          have HBX:Hid (Blk X [.slice cz cs.length cy,.slice gz gs.length gy,.slice sz ss.length sy,.slice oz os.length oy,.slice hz hs.length hy,.slice tz ts.length ty] 28 Y):=zh hbn
          have HPZ:Hid (PgIn (Fresh wr.heap.size W2.heap.size) Y (stP ⟨cs,gs,ss,os,hs,ts⟩) cz gz sz oz hz tz cy gy sy oy hy ty):=zh (HPZ0.out.kept hgn)
          obtain ⟨W1s,hW1s⟩:∃n,wr.heap.size=n:=⟨_,rfl⟩
          obtain ⟨W2s,hW2s⟩:∃n,W2.heap.size=n:=⟨_,rfl⟩
          have HWS:Hid (b≤W1s):=zh (by have h1:=HG.out.sz;have h2:=HTB.out;omega)
          have HXB:Hid (b≤X):=zh (by have h1:=HG.out.sz;have h2:=HTB.out;have h3:=HGW2.out.sz;omega)
          have HBY:Hid (b≤Y.heap.size):=zh (by have h1:=HGY.out.sz;have h2:=HTB.out;omega)
          rw [hW1s,hW2s] at HPZ
          have hcz:=HPZ.out.caps
          simp only [stP,List.length_map] at hcz
          obtain ⟨g,L,hL,hrow,hxs⟩:=(HOT.out.kept HGY.out)
          have HLT0:=zh hL
          have HROW:=zh hrow
          have HXT0:=zh hxs
          clear hL hrow hxs hX hW1s hW2s hbn hgn HRS1 HRS HG HGW2 HPZ0 t0 t1 t2 t3 t4 t5
          have u0:Y.cell? ⟨U,0,none⟩=some (.slice cq cs.length ck):=HBUY.out.cell 0
          have u1:Y.cell? ⟨U,1,none⟩=some (.slice gq gs.length gk):=HBUY.out.cell 1
          have u2:Y.cell? ⟨U,2,none⟩=some (.slice sq ss.length sk):=HBUY.out.cell 2
          have u3:Y.cell? ⟨U,3,none⟩=some (.slice oq os.length ok):=HBUY.out.cell 3
          have u4:Y.cell? ⟨U,4,none⟩=some (.slice hq hs.length hk):=HBUY.out.cell 4
          have u5:Y.cell? ⟨U,5,none⟩=some (.slice tq ts.length tk):=HBUY.out.cell 5
          go_wp2
          clear u0 u1 u2 u3 u4 u5
          go_loopg [12,14,16,17,18,75] ts.length (fun gg v1_ v2_ v3_ v4_ v5_ iv wr=>∃(j m:Nat),iv=.int .i64 (j:Int)∧j≤ts.length∧gg=ts.length - j∧Hid (g+1≤m)∧Hid (OTs wr ((ts.map stTa).drop j) m b (L.drop j))∧Hid (Chg Y wr (fun k=>V0.heap.size≤k∧g+1≤k∧k < b)))
          case atStart=>exact⟨0,g+1,rfl,Nat.zero_le _,rfl,zh (Nat.le_refl _),zh HXT0.out,zh (Chg.refl _ _)⟩
          case round =>
           obtain ⟨j,m,rfl,hj,rfl,HGM,HXR,HC⟩:=hrel
           by_cases hlt:j < ts.length
           ·have hlm:j < (ts.map stTa).length:=by rw [List.length_map];exact hlt
            have hjL:j < L.length:=by have:=HLT0.out;rw [List.length_map] at this;omega
            obtain ⟨hag,hgb,hp1,_⟩:=HROW.out.2 (by omega)
            subst hp1
            have hrw:Rw 8 tdc wr (some ⟨g,0,none⟩) tk L:=HROW.out.1.chg HC.out (fun ad ha hk=>by obtain rfl:=Option.some.inj ha;have h1:V0.heap.size≤g∧g+1≤g∧g < b:=hk;omega)
            have hxr:=HXR.out
            rw [List.drop_eq_getElem_cons hlm,List.drop_eq_getElem_cons hjL] at hxr
            obtain ⟨d1,L1',m',hdl,hm1,hm2,hxd,hxr2⟩:=OTs_cons hxr
            obtain ⟨he1,he2⟩:=List.cons.inj hdl
            rw [← he2] at hxr2
            obtain ⟨bp,bc,hd1,hz,hYj⟩:=hxd
            have hge:(ts.map stTa)[j]=stTa ts[j]:=List.getElem_map ..
            rw [hge] at hd1 hz hYj
            have HNZ:=zT_mem (List.getElem_mem hlt)
            have HLT:=zh (Nat.succ_le_of_lt hlt)
            have hget:L[j]?=some d1:=by rw [List.getElem?_eq_getElem hjL,he1]
            have HXR2:=zh hxr2
            clear hxr hdl he1 he2 hge hxr2
            generalize ts[j]=x at hd1 hz hYj HNZ
            obtain ⟨s,pp,dd,ch_,pm,wi,y,q⟩:=x
            replace HNZ:nSs y+mSs y≤zT ts:=HNZ
            replace hYj:OS wr m m' bp bc (stSs y):=hYj
            replace hd1:d1=⟨s,pp,dd,ch_,pm,wi,bp,(stSs y).length,bc,0⟩:=hd1
            have HNB:Hid (nSs (stSs y)≤1048576∧mSs (stSs y)≤1048576):=zh (by rw [nSs_stz,mSs_stz];have:=HLE.out;omega)
            have HQX:Hid (∀x ∈ expL (stSs y),x.q=0):=zh (expL_stz y)
            have HQS:Hid (∀x ∈ stmL (stSs y),x.q=0):=zh (fun x hx=>(stmL_stz y x hx).1)
            clear HNZ hz
            generalize stSs y=yy at hd1 hYj HNB HQX HQS
            subst hd1
            have hcapj:yy.length≤bc:=hYj.sl.cap.1
            have hmaxj:=hYj.sl.cap.2.1
            have HCY:=zh hYj.sl.cap
            have hc_:∀i_ u_,([.string s,.int .i64 pp,.int .i64 dd,.string ch_,.string pm,.int .i64 wi,.slice bp yy.length bc,.int .i64 0]:List Value)[i_]?=some u_→wr.cell? ⟨g,j * 8+i_,none⟩=some u_:=fun i_ u_ h_=>by
             have h1:=hrw.cell hget (j:=i_) (v:=u_) h_
             rw [Nat.zero_add] at h1
             exact h1
            have c0:wr.cell? ⟨g,j * 8,none⟩=some (.string s):=by simpa using hc_ 0 _ rfl
            have c1:wr.cell? ⟨g,j * 8+1,none⟩=some (.int .i64 pp):=hc_ 1 _ rfl
            have c2:wr.cell? ⟨g,j * 8+2,none⟩=some (.int .i64 dd):=hc_ 2 _ rfl
            have c3:wr.cell? ⟨g,j * 8+3,none⟩=some (.string ch_):=hc_ 3 _ rfl
            have c4:wr.cell? ⟨g,j * 8+4,none⟩=some (.string pm):=hc_ 4 _ rfl
            have c5:wr.cell? ⟨g,j * 8+5,none⟩=some (.int .i64 wi):=hc_ 5 _ rfl
            have c6:wr.cell? ⟨g,j * 8+6,none⟩=some (.slice bp yy.length bc):=hc_ 6 _ rfl
            have c7:wr.cell? ⟨g,j * 8+7,none⟩=some (.int .i64 0):=hc_ 7 _ rfl
            have HMM0:=zh (And.intro hm1 (And.intro hm2 (And.intro hag hgb)))
            clear hc_ hrw hget hm1 hm2 hag hgb
            go_upto_region 30 with fail
            have hb1:Blk wr.heap.size [.string s,.int .i64 pp,.int .i64 dd,.string ch_,.string pm,.int .i64 wi,.slice bp yy.length bc,.int .i64 0] 42 (wr.alloc (Obj.cells #[.string s,.int .i64 pp,.int .i64 dd,.string ch_,.string pm,.int .i64 wi,.slice bp yy.length bc,.int .i64 0] 42)):=Blk.new wr _ _
            have hg1:Grew wr (wr.alloc (Obj.cells #[.string s,.int .i64 pp,.int .i64 dd,.string ch_,.string pm,.int .i64 wi,.slice bp yy.length bc,.int .i64 0] 42)):=(Grew.refl _).alloc _
            have hbz:b≤wr.heap.size:=Nat.le_trans HBY.out HC.out.size
            generalize (wr.alloc (Obj.cells #[.string s,.int .i64 pp,.int .i64 dd,.string ch_,.string pm,.int .i64 wi,.slice bp yy.length bc,.int .i64 0] 42))=V1 at hb1 hg1 ⊢
            obtain ⟨R,hR_⟩:∃R,wr.heap.size=R:=⟨_,rfl⟩
            rw [hR_] at hb1 ⊢
            have HMM:Hid (m≤m'∧m'≤b∧g < b∧g+1≤m∧b≤R∧R < V1.heap.size∧V0.heap.size≤g):=zh (by have h1:=hb1.lt;have h2:=HMM0.out;have h3:=HGM.out;omega)
            have HRB:=zh hb1
            have HGR:=zh hg1
            have HYS:Hid (OS V1 m m' bp bc yy):=zh (hYj.kept hg1)
            have HCV:Hid (Chg Y V1 (fun k=>V0.heap.size≤k∧g+1≤k∧k < b)):=zh (HC.out.trans (Chg.of_grew hg1 _))
            have r7:V1.cell? ⟨R,7,none⟩=some (.int .i64 0):=HRB.out.cell 7
            have r6:V1.cell? ⟨R,6,none⟩=some (.slice bp yy.length bc):=HRB.out.cell 6
            have HXC:=zh (exprs_any yy (Fresh m m') V1 bp bc (fun i hi=>by have h1:m≤i∧i < m':=hi;have:=HMM.out;omega) HYS.out.sl HNB.out.1 HNB.out.2)
            clear hb1 hg1 hR_ hbz hYj HMM0 HC c0 c1 c2 c3 c4 c5 c6 c7
            go_wp2_with (go_at_call 22;(with_reducible refine HXC.out.mono ?_);rintro e_ W3 ⟨p3,n3,c3,rfl,ho_,hg_⟩;have HGC:=zh hg_;have HL3:=zh ho_.len;have HX3:=zh (ho_.inN hangsX);have hcap3:=(ho_.inN hangsX).cap hangsX;clear hg_ ho_;have hl3:n3=(expL yy).length:=HL3.out;clear HL3;subst hl3)
            have HGW3:=HGC
            clear HGC r6 r7 HXC
            have HQ1:Hid (∀x ∈ expL yy,x.q=0):=zh HQX.out
            generalize expL yy=lx at HX3 HQ1 hcap3 ⊢
            go_loopg [14,86] lx.length (fun gg v_ iv wr=>∃(k:Nat),iv=.int .i64 (k:Int)∧k≤lx.length∧gg=lx.length - k∧Hid (Grew W3 wr))
            case atStart=>exact⟨0,rfl,Nat.zero_le _,rfl,zh (Grew.refl _)⟩
            case round =>
             obtain ⟨k,rfl,hk,rfl,HG3⟩:=hrel
             by_cases hlk:k < lx.length
             ·obtain ⟨b1,o9,p1,c1,rfl,hsz1,hX1,hcc⟩:=HX3.out.getX k hlk
              have HLK:=zh (Nat.succ_le_of_lt hlk)
              have hq0:=HQ1.out _ (List.getElem_mem hlk)
              have hcap1:=hX1.cap
              generalize lx[k]=x at hcc hq0 hcap1
              obtain ⟨k1,s1,v1,o1,r1,q1⟩:=x
              replace hq0:q1=0:=hq0
              subst hq0
              replace hcc:∀i_ u_,([.int .i64 k1,.string s1,.int .i16 v1,.int .i64 o1,.slice p1 r1.length c1,.int .i64 0]:List Value)[i_]?=some u_→W3.cell? ⟨b1,o9+k * 6+i_,none⟩=some u_:=hcc
              have q0:wr.cell? ⟨b1,o9+k * 6,none⟩=some (.int .i64 k1):=Atv.kept (hcc 0 _ rfl) HG3.out
              have q1:wr.cell? ⟨b1,o9+k * 6+1,none⟩=some (.string s1):=Atv.kept (hcc 1 _ rfl) HG3.out
              have q2:wr.cell? ⟨b1,o9+k * 6+2,none⟩=some (.int .i16 v1):=Atv.kept (hcc 2 _ rfl) HG3.out
              have q3:wr.cell? ⟨b1,o9+k * 6+3,none⟩=some (.int .i64 o1):=Atv.kept (hcc 3 _ rfl) HG3.out
              have q4:wr.cell? ⟨b1,o9+k * 6+4,none⟩=some (.slice p1 r1.length c1):=Atv.kept (hcc 4 _ rfl) HG3.out
              have q5:wr.cell? ⟨b1,o9+k * 6+5,none⟩=some (.int .i64 0):=Atv.kept (hcc 5 _ rfl) HG3.out
              clear hcc hX1 hsz1
              go_upto_region 35 with fail
              have hb1:Blk wr.heap.size [.int .i64 k1,.string s1,.int .i16 v1,.int .i64 o1,.slice p1 r1.length c1,.int .i64 0] 35 (wr.alloc (Obj.cells #[.int .i64 k1,.string s1,.int .i16 v1,.int .i64 o1,.slice p1 r1.length c1,.int .i64 0] 35)):=Blk.new wr _ _
              have hg1:Grew W3 (wr.alloc (Obj.cells #[.int .i64 k1,.string s1,.int .i16 v1,.int .i64 o1,.slice p1 r1.length c1,.int .i64 0] 35)):=HG3.out.alloc _
              generalize (wr.alloc (Obj.cells #[.int .i64 k1,.string s1,.int .i16 v1,.int .i64 o1,.slice p1 r1.length c1,.int .i64 0] 35))=V2 at hb1 hg1 ⊢
              generalize wr.heap.size=T2 at hb1 ⊢
              have r0:V2.cell? ⟨T2,5,none⟩=some (.int .i64 0):=hb1.cell 5
              have HGN:=zh hg1
              clear hb1 hg1 HG3 q0 q1 q2 q3 q4 q5
              go_wp2
              go_roundg (lx.length - (k+1))
              case measure=>have:=HLK.out;omega
              case rel=>exact⟨k+1,by go_num,HLK.out,rfl,HGN⟩
             ·obtain rfl:k=lx.length:=by omega
              have HGZ:=zh (HGW3.out.trans HG3.out)
              have r6:wr.cell? ⟨R,6,none⟩=some (.slice bp yy.length bc):=(HRB.out.grew HGZ.out).cell 6
              have HSC:=zh (stms_any _ yy (Nat.lt_succ_self _) (Fresh m m') wr bp bc (fun i hi=>by have h1:m≤i∧i < m':=hi;have:=HMM.out;have:=HGZ.out.sz;omega) (HYS.out.kept HGZ.out).sl HNB.out.1)
              clear HG3 HX3 HQ1 HGW3 hcap3
              go_wp2_with (go_at_call 29;(with_reducible refine HSC.out.mono ?_);rintro e_ W4 ⟨p3,n3,c3,rfl,ho_,hg_⟩;have HGC:=zh hg_;have HL3:=zh ho_.len;have HX3:=zh (ho_.inN hangsS);have hcap3:=(ho_.inN hangsS).cap hangsS;clear hg_ ho_;have hl3:n3=(stmL yy).length:=HL3.out;clear HL3;subst hl3)
              have HGW4:Hid (Grew V1 W4):=zh (HGZ.out.trans HGC.out)
              clear r6 HSC HGZ HGC
              have HQ2:Hid (∀x ∈ stmL yy,x.q=0):=zh HQS.out
              generalize stmL yy=ly at HX3 HQ2 hcap3 ⊢
              go_loopg [16,98] ly.length (fun gg v_ iv wr=>∃(k:Nat),iv=.int .i64 (k:Int)∧k≤ly.length∧gg=ly.length - k∧Hid (Grew W4 wr))
              case atStart=>exact⟨0,rfl,Nat.zero_le _,rfl,zh (Grew.refl _)⟩
              case round =>
               obtain ⟨k,rfl,hk,rfl,HG3⟩:=hrel
               by_cases hlk:k < ly.length
               ·obtain ⟨b1,o9,ap1,ac1,bp1,bc1,ep1,ec1,rfl,hsz1,hX1,hX2,hX3,hcc⟩:=HX3.out.getS k hlk
                have HLK:=zh (Nat.succ_le_of_lt hlk)
                have hq0:=HQ2.out _ (List.getElem_mem hlk)
                have hcap1:=And.intro hX1.cap (And.intro hX2.cap hX3.cap)
                generalize ly[k]=x at hcc hq0 hcap1
                obtain ⟨k1,s1,n1,r1,y1,e1,q1⟩:=x
                replace hq0:q1=0:=hq0
                subst hq0
                replace hcc:∀i_ u_,([.int .i64 k1,.string s1,.int .i64 n1,.slice ap1 r1.length ac1,.slice bp1 y1.length bc1,.slice ep1 e1.length ec1,.int .i64 0]:List Value)[i_]?=some u_→W4.cell? ⟨b1,o9+k * 7+i_,none⟩=some u_:=hcc
                have q0:wr.cell? ⟨b1,o9+k * 7,none⟩=some (.int .i64 k1):=Atv.kept (hcc 0 _ rfl) HG3.out
                have q1:wr.cell? ⟨b1,o9+k * 7+1,none⟩=some (.string s1):=Atv.kept (hcc 1 _ rfl) HG3.out
                have q2:wr.cell? ⟨b1,o9+k * 7+2,none⟩=some (.int .i64 n1):=Atv.kept (hcc 2 _ rfl) HG3.out
                have q3:wr.cell? ⟨b1,o9+k * 7+3,none⟩=some (.slice ap1 r1.length ac1):=Atv.kept (hcc 3 _ rfl) HG3.out
                have q4:wr.cell? ⟨b1,o9+k * 7+4,none⟩=some (.slice bp1 y1.length bc1):=Atv.kept (hcc 4 _ rfl) HG3.out
                have q5:wr.cell? ⟨b1,o9+k * 7+5,none⟩=some (.slice ep1 e1.length ec1):=Atv.kept (hcc 5 _ rfl) HG3.out
                have q6:wr.cell? ⟨b1,o9+k * 7+6,none⟩=some (.int .i64 0):=Atv.kept (hcc 6 _ rfl) HG3.out
                clear hcc hX1 hX2 hX3 hsz1
                go_upto_region 41 with fail
                have hb1:Blk wr.heap.size [.int .i64 k1,.string s1,.int .i64 n1,.slice ap1 r1.length ac1,.slice bp1 y1.length bc1,.slice ep1 e1.length ec1,.int .i64 0] 49 (wr.alloc (Obj.cells #[.int .i64 k1,.string s1,.int .i64 n1,.slice ap1 r1.length ac1,.slice bp1 y1.length bc1,.slice ep1 e1.length ec1,.int .i64 0] 49)):=Blk.new wr _ _
                have hg1:Grew W4 (wr.alloc (Obj.cells #[.int .i64 k1,.string s1,.int .i64 n1,.slice ap1 r1.length ac1,.slice bp1 y1.length bc1,.slice ep1 e1.length ec1,.int .i64 0] 49)):=HG3.out.alloc _
                generalize (wr.alloc (Obj.cells #[.int .i64 k1,.string s1,.int .i64 n1,.slice ap1 r1.length ac1,.slice bp1 y1.length bc1,.slice ep1 e1.length ec1,.int .i64 0] 49))=V2 at hb1 hg1 ⊢
                generalize wr.heap.size=T2 at hb1 ⊢
                have r0:V2.cell? ⟨T2,6,none⟩=some (.int .i64 0):=hb1.cell 6
                have HGN:=zh hg1
                clear hb1 hg1 HG3 q0 q1 q2 q3 q4 q5 q6
                go_wp2
                go_roundg (ly.length - (k+1))
                case measure=>have:=HLK.out;omega
                case rel=>exact⟨k+1,by go_num,HLK.out,rfl,HGN⟩
               ·obtain rfl:k=ly.length:=by omega
                have HGZ:=zh (HGW4.out.trans HG3.out)
                have HYZ:Hid (OS wr m m' bp bc yy):=zh (HYS.out.kept HGZ.out)
                have HRZ:Hid (Blk R [.string s,.int .i64 pp,.int .i64 dd,.string ch_,.string pm,.int .i64 wi,.slice bp yy.length bc,.int .i64 0] 42 wr):=zh (HRB.out.grew HGZ.out)
                have HCZ:Hid (Chg Y wr (fun k=>V0.heap.size≤k∧g+1≤k∧k < b)):=zh (HCV.out.trans (Chg.of_grew HGZ.out _))
                have HOR:Hid (∀w',Chg wr w' (fun k=>m≤k∧k < m')→OTs w' ((ts.map stTa).drop (j+1)) m' b (L.drop (j+1))):=zh (fun w' hc=>OTs_chg ((Chg.of_grew (HGR.out.trans HGZ.out) (fun k=>m≤k∧k < m')).trans hc) HXR2.out (fun i h1 _ h3=>by have h4:m≤i∧i < m':=h3;omega))
                clear HYS HRB HCV HXR2 HGR HGZ HG3
                obtain ⟨gb,Ls,hLs,hrowS,hxsS⟩:=HYZ.out
                have HLS:=zh hLs
                have HRS0:=zh hrowS
                have HXS0:=zh hxsS
                clear hLs hrowS hxsS HYZ
                have r6:wr.cell? ⟨R,6,none⟩=some (.slice bp yy.length bc):=HRZ.out.cell 6
                go_wp2
                clear r6
                rename World=>Z0
                go_loopg [17,18,109] yy.length (fun gg v1_ v2_ iv wr=>∃(i mi:Nat) (D:List Sd),iv=.int .i64 (i:Int)∧i≤yy.length∧gg=yy.length - i∧Hid (D.length=Ls.length∧D.drop i=Ls.drop i∧gb+1≤mi)∧Hid (0 < yy.length→OwR wr m 49 7 sdc (.slice bp yy.length bc) D)∧Hid (OSs wr (yy.drop i) mi m' (Ls.drop i))∧Hid (Chg Z0 wr (fun k=>m≤k∧k < m')))
                case atStart=>exact⟨0,gb+1,Ls,rfl,Nat.zero_le _,rfl,zh ⟨rfl,rfl,Nat.le_refl _⟩,zh (fun hn=>by have h1:=(HRS0.out.2 (by have:=HLS.out;omega)).2.2.2;rw [HLS.out] at h1;exact h1),zh HXS0.out,zh (Chg.refl _ _)⟩
                case round =>
                 obtain ⟨i,mi,D,rfl,hi,rfl,HD,HOW,HXS,HC1⟩:=hrel
                 have HRr:Hid (Blk R [.string s,.int .i64 pp,.int .i64 dd,.string ch_,.string pm,.int .i64 wi,.slice bp yy.length bc,.int .i64 0] 42 wr):=zh (HRZ.out.chg HC1.out (fun e=>by have h1:m≤R∧R < m':=e;have:=HMM.out;omega))
                 by_cases hli:i < yy.length
                 ·have hn0:0 < yy.length:=by omega
                  obtain ⟨hag1,hgb1,hp1,_⟩:=HRS0.out.2 (by have:=HLS.out;omega)
                  subst hp1
                  have how:=HOW.out hn0
                  have hjL:i < Ls.length:=by have:=HLS.out;omega
                  have hjD:i < D.length:=by have:=HD.out.1;omega
                  have hxr:=HXS.out
                  rw [List.drop_eq_getElem_cons hli,List.drop_eq_getElem_cons hjL,OSs] at hxr
                  obtain ⟨d1,L1',mi',hdl,hm1,hm2,hxd,hxr2⟩:=hxr
                  obtain ⟨he1,he2⟩:=List.cons.inj hdl
                  rw [← he2] at hxr2
                  have hDi:D[i]=Ls[i]:=by
                   have h1:=HD.out.2.1
                   rw [List.drop_eq_getElem_cons hjD,List.drop_eq_getElem_cons hjL] at h1
                   exact(List.cons.inj h1).1
                  rw [he1] at hDi
                  obtain ⟨ap,ac,yp,yc,ep,ec,m1,m2,hd1,hsz1,ha1,ha2,ha3,hOX,_,_⟩:=OSp_iff.1 hxd
                  have HLI:=zh (Nat.succ_le_of_lt hli)
                  have HXR3:=zh hxr2
                  have HM1:Hid (mi≤m1∧m1≤mi'∧mi'≤m'∧m≤gb∧gb < m'∧gb+1≤mi):=zh (by have:=HD.out.2.2;omega)
                  have HDD:Hid ((D.drop (i+1))=Ls.drop (i+1)):=zh (by
                   have h1:=HD.out.2.1
                   rw [List.drop_eq_getElem_cons hjD,List.drop_eq_getElem_cons hjL] at h1
                   exact(List.cons.inj h1).2)
                  clear hdl he1 he2 hxd hxr2 hm1 hm2 ha1 ha2 ha3 hag1 hgb1
                  generalize yy[i]=x at hd1 hsz1 hOX
                  obtain ⟨k1,s1,n1,r1,y1,e1,q1⟩:=x
                  replace hd1:d1=⟨k1,s1,n1,ap,r1.length,ac,yp,y1.length,yc,ep,e1.length,ec,q1⟩:=hd1
                  subst hd1
                  replace hOX:OX wr mi m1 ap ac r1:=hOX
                  have hget:D[i]?=some _:=(List.getElem?_eq_getElem hjD).trans (congrArg some hDi)
                  have c1:wr.cell? ⟨gb,i * 7+1,none⟩=some (.string s1):=by
                   have h1:=(how.rd encSd).2.cell hget (j:=1) (v:=.string s1) rfl
                   rw [Nat.zero_add] at h1
                   exact h1
                  have f1:=(how.free encSd (i * 7+1)).2
                  have r6:wr.cell? ⟨R,6,none⟩=some (.slice (some ⟨gb,0,none⟩) yy.length bc):=HRr.out.cell 6
                  have hcapx:=hOX.xl.cap
                  have hcapS:=HCY.out
                  go_upto_region 48 with fail
                  have hst:Chg wr (wr.setCell ⟨gb,i * 7+1,none⟩ (.string ⟨#[115,112,111,105,108,101,100]⟩)) (fun k=>k=gb):=Chg.set wr ⟨gb,i * 7+1,none⟩ (.string ⟨#[115,112,111,105,108,101,100]⟩)
                  have how1:OwR (wr.setCell ⟨gb,i * 7+1,none⟩ (.string ⟨#[115,112,111,105,108,101,100]⟩)) m 49 7 sdc (.slice (some ⟨gb,0,none⟩) yy.length bc) (D.set i (⟨k1,⟨#[115,112,111,105,108,101,100]⟩,n1,ap,r1.length,ac,yp,y1.length,yc,ep,e1.length,ec,q1⟩:Sd)):=how.set1 encSd i 1 _ (.string ⟨#[115,112,111,105,108,101,100]⟩) hjD (by decide) (by rw [hDi];rfl)
                  generalize (wr.setCell ⟨gb,i * 7+1,none⟩ (.string ⟨#[115,112,111,105,108,101,100]⟩))=V2 at hst how1 ⊢
                  have HW1:=zh how1
                  have HST:=zh hst
                  have HR2:Hid (Blk R [.string s,.int .i64 pp,.int .i64 dd,.string ch_,.string pm,.int .i64 wi,.slice (some ⟨gb,0,none⟩) yy.length bc,.int .i64 0] 42 V2):=zh (HRr.out.chg hst (fun e=>by have h1:R=gb:=e;have:=HMM.out;have:=HM1.out;omega))
                  have HOX:=zh (hOX.chg hst (fun k h1 _ h2=>by have h3:k=gb:=h2;have:=HM1.out;omega))
                  have hc3:∀w',Chg V2 w' (fun k=>mi≤k∧k < m1)→w'.cell? ⟨gb,i * 7+3,none⟩=some (.slice ap r1.length ac):=fun w' hc=>by
                   have h1:=((HW1.out.chg hc (fun ad ha hk=>by obtain rfl:=Option.some.inj ha;have h3:mi≤gb∧gb < m1:=hk;have:=HM1.out;omega)).rd encSd).2.cell (List.getElem?_set_self hjD) (j:=3) (v:=.slice ap r1.length ac) rfl
                   rw [Nat.zero_add] at h1
                   exact h1
                  have HC3:=zh hc3
                  clear hst how1 how hget hDi hOX c1 f1 hc3
                  have c3:V2.cell? ⟨gb,i * 7+3,none⟩=some (.slice ap r1.length ac):=HC3.out V2 (Chg.refl _ _)
                  have r6:V2.cell? ⟨R,6,none⟩=some (.slice (some ⟨gb,0,none⟩) yy.length bc):=HR2.out.cell 6
                  obtain ⟨ga,Lx,hLx,hrowX,_⟩:=HOX.out
                  have HLX:=zh hLx
                  have HRX:=zh hrowX
                  clear hLx hrowX
                  go_wp2
                  clear c3 r6
                  go_loopg [18,124] r1.length (fun gg v2_ iv wq=>∃(k2:Nat) (E:List Xd),iv=.int .i64 (k2:Int)∧k2≤r1.length∧gg=r1.length - k2∧Hid (E.length=Lx.length)∧Hid (0 < r1.length→OwR wq mi 35 6 xdc (.slice ap r1.length ac) E)∧Hid (Chg V2 wq (fun k=>mi≤k∧k < m1)))
                  case atStart=>exact⟨0,Lx,rfl,Nat.zero_le _,rfl,zh rfl,zh (fun hn=>by have h1:=(HRX.out.2 (by have:=HLX.out;omega)).2.2.2;rw [HLX.out] at h1;exact h1),zh (Chg.refl _ _)⟩
                  case round =>
                   obtain ⟨k2,E,rfl,hk2,rfl,HEL,HOE,HC2⟩:=hrel
                   by_cases hlk:k2 < r1.length
                   ·have hn1:0 < r1.length:=by omega
                    obtain ⟨hag2,hgb2,hp2,_⟩:=HRX.out.2 (by have:=HLX.out;omega)
                    subst hp2
                    have hoe:=HOE.out hn1
                    have hkE:k2 < E.length:=by have:=HEL.out;have:=HLX.out;omega
                    have HLK:=zh (Nat.succ_le_of_lt hlk)
                    have hget:E[k2]?=some E[k2]:=List.getElem?_eq_getElem hkE
                    obtain ⟨d2,hd2⟩:∃d,E[k2]=d:=⟨_,rfl⟩
                    rw [hd2] at hget
                    obtain ⟨ka,sa,va,oa,pa,na,ca,qa⟩:=d2
                    have c1:wr.cell? ⟨ga,k2 * 6+1,none⟩=some (.string sa):=by
                     have h1:=(hoe.rd encXd).2.cell hget (j:=1) (v:=.string sa) rfl
                     rw [Nat.zero_add] at h1
                     exact h1
                    have f1:=(hoe.free encXd (k2 * 6+1)).2
                    have c3:wr.cell? ⟨gb,i * 7+3,none⟩=some (.slice (some ⟨ga,0,none⟩) r1.length ac):=HC3.out _ HC2.out
                    have r6:wr.cell? ⟨R,6,none⟩=some (.slice (some ⟨gb,0,none⟩) yy.length bc):=(HR2.out.chg HC2.out (fun e=>by have h1:mi≤R∧R < m1:=e;have:=HMM.out;have:=HM1.out;omega)).cell 6
                    have HFIN:Hid (OwR (wr.setCell ⟨ga,k2 * 6+1,none⟩ (.string ⟨#[115,112,111,105,108,101,100]⟩)) mi 35 6 xdc (.slice (some ⟨ga,0,none⟩) r1.length ac) (E.set k2 (⟨ka,⟨#[115,112,111,105,108,101,100]⟩,va,oa,pa,na,ca,qa⟩:Xd))∧Chg V2 (wr.setCell ⟨ga,k2 * 6+1,none⟩ (.string ⟨#[115,112,111,105,108,101,100]⟩)) (fun k=>mi≤k∧k < m1)):=zh ⟨hoe.set1 encXd k2 1 _ (.string ⟨#[115,112,111,105,108,101,100]⟩) hkE (by decide) (by rw [hd2];rfl),HC2.out.trans ((Chg.set wr ⟨ga,k2 * 6+1,none⟩ (.string ⟨#[115,112,111,105,108,101,100]⟩)).mono (fun k hk=>by have h1:k=ga:=hk;omega))⟩
                    have HEN:Hid ((E.set k2 (⟨ka,⟨#[115,112,111,105,108,101,100]⟩,va,oa,pa,na,ca,qa⟩:Xd)).length=Lx.length):=zh (by rw [List.length_set];exact HEL.out)
                    generalize E.set k2 (⟨ka,⟨#[115,112,111,105,108,101,100]⟩,va,oa,pa,na,ca,qa⟩:Xd)=E2 at HFIN HEN
                    clear hoe hget hd2 hag2 hgb2
                    go_wp2
                    go_roundg (r1.length - (k2+1))
                    case measure=>have:=HLK.out;omega
                    case rel=>exact⟨k2+1,E2,by go_num,HLK.out,rfl,HEN,zh (fun _=>HFIN.out.1),zh HFIN.out.2⟩
                   ·obtain rfl:k2=r1.length:=by omega
                    have HFIN:Hid (OwR wr m 49 7 sdc (.slice (some ⟨gb,0,none⟩) yy.length bc) (D.set i (⟨k1,⟨#[115,112,111,105,108,101,100]⟩,n1,ap,r1.length,ac,yp,y1.length,yc,ep,e1.length,ec,q1⟩:Sd))∧OSs wr (yy.drop (i+1)) mi' m' (Ls.drop (i+1))∧Chg Z0 wr (fun k=>m≤k∧k < m')):=zh (by
                     obtain ⟨h1,h2,h3,h4,h5,h6⟩:=HM1.out
                     refine⟨HW1.out.chg HC2.out (fun ad ha hk=>by obtain rfl:=Option.some.inj ha;have h7:mi≤gb∧gb < m1:=hk;omega),?_,?_⟩
                     ·exact OSs_chg HC2.out (OSs_chg HST.out HXR3.out (fun k h7 _ h8=>by have h9:k=gb:=h8;omega)) (fun k h7 _ h8=>by have h9:mi≤k∧k < m1:=h8;omega)
                     ·exact(HC1.out.trans (HST.out.mono (fun k hk=>by have h9:k=gb:=hk;omega))).trans (HC2.out.mono (fun k hk=>by have h9:mi≤k∧k < m1:=hk;omega)))
                    have HDN:Hid ((D.set i (⟨k1,⟨#[115,112,111,105,108,101,100]⟩,n1,ap,r1.length,ac,yp,y1.length,yc,ep,e1.length,ec,q1⟩:Sd)).length=Ls.length∧(D.set i (⟨k1,⟨#[115,112,111,105,108,101,100]⟩,n1,ap,r1.length,ac,yp,y1.length,yc,ep,e1.length,ec,q1⟩:Sd)).drop (i+1)=Ls.drop (i+1)∧gb+1≤mi'):=zh ⟨by rw [List.length_set];exact HD.out.1,by rw [List.drop_set_of_lt (Nat.lt_succ_self i)];exact HDD.out,by have:=HM1.out;omega⟩
                    generalize D.set i (⟨k1,⟨#[115,112,111,105,108,101,100]⟩,n1,ap,r1.length,ac,yp,y1.length,yc,ep,e1.length,ec,q1⟩:Sd)=D2 at HFIN HDN
                    go_wp2
                    go_roundg (yy.length - (i+1))
                    case measure=>have:=HLI.out;omega
                    case rel=>exact⟨i+1,mi',D2,by go_num,HLI.out,rfl,HDN,zh (fun _=>HFIN.out.1),zh HFIN.out.2.1,zh HFIN.out.2.2⟩
                 ·obtain rfl:i=yy.length:=by omega
                  have HON:=zh (HOR.out _ HC1.out)
                  have HCN:Hid (Chg Y wr (fun k=>V0.heap.size≤k∧g+1≤k∧k < b)):=zh (HCZ.out.trans (HC1.out.mono (fun k hk=>by have h1:m≤k∧k < m':=hk;have:=HMM.out;omega)))
                  go_wp2
                  go_roundg (ts.length - (j+1))
                  case measure=>have:=HLT.out;omega
                  case rel=>exact⟨j+1,m',by go_num,HLT.out,rfl,zh (by have:=HMM.out;omega),HON,HCN⟩
           ·obtain rfl:j=ts.length:=by omega
            have hch:=HC.out
            have hgw:Grew w wr:=grew_lift HGWY.out hch (fun k hk=>by have h1:V0.heap.size≤k∧g+1≤k∧k < b:=hk;have:=HTB.out;omega)
            have HREZ:=zh (HRE.out _ wr cz gz sz oz hz tz cy gy sy oy hy ty (HPZ.out.chg hch (fun i hi hk=>by have h1:V0.heap.size≤i∧g+1≤i∧i < b:=hk;have h2:W1s≤i∧i < W2s:=hi;have:=HTB.out;have:=HWS.out;omega)) (HPG.out.kept hgw))
            have hbt:=HBTY.out.chg hch (fun e=>by have h1:V0.heap.size≤T∧g+1≤T∧T < b:=e;have:=HTB.out;omega)
            have hbx:=HBX.out.chg hch (fun e=>by have h1:V0.heap.size≤X∧g+1≤X∧X < b:=e;have:=HXB.out;omega)
            have HGE:=zh hgw
            have t0:wr.cell? ⟨T,0,none⟩=some (.slice cp cs.length cc):=hbt.cell 0
            have t1:wr.cell? ⟨T,1,none⟩=some (.slice gp gs.length gc):=hbt.cell 1
            have t2:wr.cell? ⟨T,2,none⟩=some (.slice sp ss.length sc):=hbt.cell 2
            have t3:wr.cell? ⟨T,3,none⟩=some (.slice op os.length oc):=hbt.cell 3
            have t4:wr.cell? ⟨T,4,none⟩=some (.slice hp hs.length hc):=hbt.cell 4
            have t5:wr.cell? ⟨T,5,none⟩=some (.slice tp ts.length tc):=hbt.cell 5
            have x0:wr.cell? ⟨X,0,none⟩=some (.slice cz cs.length cy):=hbx.cell 0
            have x1:wr.cell? ⟨X,1,none⟩=some (.slice gz gs.length gy):=hbx.cell 1
            have x2:wr.cell? ⟨X,2,none⟩=some (.slice sz ss.length sy):=hbx.cell 2
            have x3:wr.cell? ⟨X,3,none⟩=some (.slice oz os.length oy):=hbx.cell 3
            have x4:wr.cell? ⟨X,4,none⟩=some (.slice hz hs.length hy):=hbx.cell 4
            have x5:wr.cell? ⟨X,5,none⟩=some (.slice tz ts.length ty):=hbx.cell 5
            clear hch hgw hbt hbx
            go_wp2_with (go_at_call 21;(with_reducible refine HREZ.out.mono ?_);rintro e_ W9 ⟨rfl,hg_⟩;have HG9:=zh (HGE.out.trans hg_);clear hg_)
            go_ret
            exact⟨rfl,HG9.out⟩
end Go.Proofs.YtcknpcbkofgdoaaGreatDoor
