/-
  THE REFERENCE OF LAYER 16: StripStmts.
  TOKENS OF CANONICAL TEXTS (layers 16, 17): what the lexer makes of the text of a well-formed tree. Nothing of the program stands here.
  A READER OF TOKENS (layers 16, 17): the grammar of the language as a function over tokens of whatever kind; it gives back the tree whose tokens it reads. Nothing of the program stands here.
  A READER OF TOKENS: programs (layers 16, 17). Nothing of the program stands here.
  THE REFERENCE OF LAYER 16: Strip, what it says.
  THE REFERENCE OF LAYER 16: Strip.
  LAYER 16 (ast), THE PROGRAM: its tables, the library's functions that it calls; isKeyword, isIdentifier, formedName, isSigned, isNumber.
-/
import Derived.Test.YtcknpcbkofgdoaaGreatDoorZdShort
import Derived.Test.YtcknpcbkofgdoaaGreatDoorZd02
import Derived.Test.YtcknpcbkofgdoaaGreatDoorZd00
import Derived.Test.YtcknpcbkofgdoaaGreatDoorZd01
import Derived.Deep.LoopGhost
import Derived.Deep.Cut
import Derived.Test.YtcknpcbkofgdoaaGreatDoorShelf
import Derived.Shelf.Strings.SlTrimAscii
import Derived.Deep.CutBlock
import Derived.Deep.MidRow
import Derived.Lib.IndexLaws
namespace Go.Proofs.YtcknpcbkofgdoaaGreatDoor
open Go Go.RowKit Go.IntWalk
set_option linter.unusedSimpArgs false
set_option linter.unusedVariables false
set_option maxRecDepth 8000
section
variable {dst:Option Tmp}{ty:TypeId}{pos:String}{after:Array Edge}{g:Option (Nat × Bool)}{a:Act}{w:World}{T:Value→World→Prop}
theorem rn_st_33 {x y:Operand}{q:Addr}{p:Option Addr}{m c:Nat}{v':Value}(hx:a.eval x=.pointer (some q)) (hy:a.eval y=(.slice p m c)) (hc:w.cell? q=some v') (hf:w.frozen? q=false) (h:T undef (w.setCell q (.slice p m c))):Runs Tryz.prog ⟨dst,.store 33 x y,ty,pos,after,g⟩ a w T:=by
 refine Runs.skip (w':=w.setCell q (.slice p m c)) ?_ h
 simp only [execOp,hx,hy]
 go_simp
theorem rn_st_40 {x y:Operand}{q:Addr}{p:Option Addr}{m c:Nat}{v':Value}(hx:a.eval x=.pointer (some q)) (hy:a.eval y=(.slice p m c)) (hc:w.cell? q=some v') (hf:w.frozen? q=false) (h:T undef (w.setCell q (.slice p m c))):Runs Tryz.prog ⟨dst,.store 40 x y,ty,pos,after,g⟩ a w T:=by
 refine Runs.skip (w':=w.setCell q (.slice p m c)) ?_ h
 simp only [execOp,hx,hy]
 go_simp
end
theorem strips_own {wr w2:World}{S:Nat}{p1:Option Addr}{n1 c1:Nat}{l:List Xp}{o:Obj}{o2:Obj}(h:OwN XsAt 6 xdc S (Aside S wr.heap.size p1) wr 35 p1 n1 c1 l) (g:Grew (wr.alloc o) w2):OwN XsAt 6 xdc S (Aside S w2.heap.size p1) (w2.alloc o2) 35 p1 n1 c1 l:=by
 have h1:=(((Grew.refl wr).alloc o).trans g)
 exact(h.kept hangsX (h1.alloc o2)).mono hangsX fun b hb=>⟨hb.1,Nat.lt_of_lt_of_le hb.2.1 h1.sz,hb.2.2⟩
theorem strips_at {wr w2:World}{S:Nat}{p1 p2:Option Addr}{n1 c1 c2:Nat}{l ra:List Xp}{o:Obj}{k v oo q:Int}{s:ByteArray}(h:OwN XsAt 6 xdc S (Aside S wr.heap.size p1) wr 35 p1 n1 c1 l) (hS:S≤wr.heap.size) (hx:XL (Fresh (wr.alloc o).heap.size w2.heap.size) w2 p2 c2 (stXs ra)) (hz:s.size≤1048576∧v≤32767):XsAt (Aside S w2.heap.size p1) w2 [stX ⟨k,s,v,oo,ra,q⟩] [⟨k,s,v,oo,p2,ra.length,c2,0⟩]:=by
 have h1:=xat1 (k:=k) (v:=v) (o:=oo) (q:=0) (s:=s) (ar:=stXs ra) hz (hx.mono (B':=Aside S w2.heap.size p1) fun b hb=>⟨by have:=hb.1;rw [alloc_sz] at this;omega,hb.2,h.offTop hangsX (by have:=hb.1;rw [alloc_sz] at this;omega)⟩)
 rw [stXs_len] at h1
 rw [stX]
 exact h1
theorem strips_row {wr w4:World}{W:World}{S T:Nat}{p1:Option Addr}{n1 c1:Nat}{l:List Sm}(h:OwN SsAt 7 sdc S (Aside S wr.heap.size p1) wr 49 p1 n1 c1 l) (hT:wr.heap.size=T) (g:Grew wr W) (hc:Chg W w4 (fun k=>k=T)):OwN SsAt 7 sdc S (Aside S w4.heap.size p1) w4 49 p1 n1 c1 l:=by
 have h1:=(h.kept hangsS g).chg hangsS hc (fun a ha e=>by have:=(h.place hangsS a ha).2;omega) (fun b hb e=>by have:=hb.2.1;omega)
 have h2:=g.sz
 have h3:=hc.size
 exact h1.mono hangsS fun b hb=>⟨hb.1,by have:=hb.2.1;omega,hb.2.2⟩
theorem strips_args {wr W w4:World}{T:Nat}{p2:Option Addr}{n2 c2:Nat}{l:List Xp}(h:OwN XsAt 6 xdc (T+1) (Aside (T+1) wr.heap.size p2) wr 35 p2 n2 c2 l) (g:Grew wr W) (hc:Chg W w4 (fun k=>k=T)):XL (fun b=>T+1≤b∧b < w4.heap.size) w4 p2 c2 l:=by
 have h2:=(h.kept hangsX g).chg hangsX hc (fun a ha e=>by have:=(h.place hangsX a ha).1;omega) (fun b hb e=>by have:=hb.1;omega)
 have hs1:=g.sz
 have hs2:=hc.size
 refine⟨fun _ a ha=>?_,?_⟩
 ·have:=h.place hangsX a ha
  exact⟨by omega,by omega⟩
 ·obtain ⟨_,L,h3,h4⟩:=h2.mono hangsX (B':=fun b=>T+1≤b∧b < w4.heap.size) fun b hb=>⟨hb.1,by have:=hb.2.1;omega⟩
  exact⟨L,(h3.rd encXd).2,h4⟩
theorem strips_done {w wr:World}{S:Nat}{p1:Option Addr}{n1 c1:Nat}{l:List Sm}(h:OwN SsAt 7 sdc S (Aside S wr.heap.size p1) wr 49 p1 n1 c1 l) (hS:w.heap.size=S):SL (Fresh w.heap.size wr.heap.size) wr p1 c1 l:=by
 refine⟨fun _ a ha=>?_,?_⟩
 ·have:=h.place hangsS a ha
  exact⟨by omega,by omega⟩
 ·obtain ⟨_,L,h3,h4⟩:=h.mono hangsS (B':=Fresh w.heap.size wr.heap.size) fun b hb=>⟨by have:=hb.1;omega,hb.2.1⟩
  exact⟨L,(h3.rd encSd).2,h4⟩
def SsG (T S3 k:Nat) (ys:List Sm) (w:World):Prop:=∃p_ c_,w.cell? ⟨T,k,none⟩=some (.slice p_ ys.length c_)∧SL (Fresh S3 w.heap.size) w p_ c_ (stSs ys)
def SsB (T:Nat) (ka:Int) (sa:ByteArray) (na:Int) (w:World):Prop:=∃v3 v4 v5:Value,Blk T [.int .i64 ka,.string sa,.int .i64 na,v3,v4,v5,.int .i64 0] 49 w
structure SsR (T S3:Nat) (ka:Int) (sa:ByteArray) (na:Int) (x3:Value) (ya ea:List Sm) (w w':World):Prop where
 ch:Chg w w' (fun k=>k=T)
 b:SsB T ka sa na w→SsB T ka sa na w'
 c:w.cell? ⟨T,3,none⟩=some x3→w'.cell? ⟨T,3,none⟩=some x3
 g4:SsG T S3 4 ya w→SsG T S3 4 ya w'
 g5:SsG T S3 5 ea w→SsG T S3 5 ea w'
theorem SsG.grew {T S3 k:Nat}{ys:List Sm}{w w':World}(h:SsG T S3 k ys w) (hg:Grew w w'):SsG T S3 k ys w':=by
 obtain ⟨p_,c_,h1,h2⟩:=h
 exact⟨p_,c_,Atv.kept (R:=Grew) h1 hg,(h2.kept hg).mono fun b hb=>⟨hb.1,Nat.lt_of_lt_of_le hb.2 hg.sz⟩⟩
section
variable {T S3:Nat}{ka:Int}{sa:ByteArray}{na:Int}{x3:Value}{ya ea:List Sm}{w w' w'':World}
theorem SsR.of_grew (hg:Grew w w'):SsR T S3 ka sa na x3 ya ea w w' :=
 ⟨Chg.of_grew hg _,fun⟨v3,v4,v5,h⟩=>⟨v3,v4,v5,h.grew hg⟩,fun h=>Atv.kept (R:=Grew) h hg,fun h=>h.grew hg,fun h=>h.grew hg⟩
theorem SsR.trans (h:SsR T S3 ka sa na x3 ya ea w w') (h':SsR T S3 ka sa na x3 ya ea w' w''):SsR T S3 ka sa na x3 ya ea w w'' :=
 ⟨h.ch.trans h'.ch,fun x=>h'.b (h.b x),fun x=>h'.c (h.c x),fun x=>h'.g4 (h.g4 x),fun x=>h'.g5 (h.g5 x)⟩
theorem SsG.chg {k:Nat}{ys:List Sm}(h:SsG T S3 k ys w) (hT:T < S3) (hc:Chg w w' (fun k=>k=T)) (hk:w'.cell? ⟨T,k,none⟩=w.cell? ⟨T,k,none⟩):SsG T S3 k ys w':=by
 obtain ⟨p_,c_,h1,h2⟩:=h
 exact⟨p_,c_,hk.trans h1,(h2.chg hc (fun b hb e=>by have:=hb.1;omega)).mono fun b hb=>⟨hb.1,Nat.lt_of_lt_of_le hb.2 hc.size⟩⟩
theorem SsL.mem {v:Value}{k:Nat}{ys:List Sm}(h:∃p_ c_,v=.slice p_ ys.length c_∧SL (Fresh S3 w.heap.size) w p_ c_ (stSs ys)) (hT:T < S3) (hc:Chg w w' (fun k=>k=T)) (hk:w'.cell? ⟨T,k,none⟩=some v):SsG T S3 k ys w':=by
 obtain ⟨p_,c_,rfl,h2⟩:=h
 exact⟨p_,c_,hk,(h2.chg hc (fun b hb e=>by have:=hb.1;omega)).mono fun b hb=>⟨hb.1,Nat.lt_of_lt_of_le hb.2 hc.size⟩⟩
theorem SsB.st3 (hb:SsB T ka sa na w) (hT:T < S3):SsR T S3 ka sa na x3 ya ea w (w.setCell ⟨T,3,none⟩ x3)∧(w.setCell ⟨T,3,none⟩ x3).cell? ⟨T,3,none⟩=some x3:=by
 obtain ⟨v3,v4,v5,hb⟩:=hb
 have h1:=hb.set 3 x3
 have hc:=Chg.set w ⟨T,3,none⟩ x3
 have k4:(w.setCell ⟨T,3,none⟩ x3).cell? ⟨T,4,none⟩=w.cell? ⟨T,4,none⟩:=by rw [h1.cell 4,hb.cell 4];rfl
 have k5:(w.setCell ⟨T,3,none⟩ x3).cell? ⟨T,5,none⟩=w.cell? ⟨T,5,none⟩:=by rw [h1.cell 5,hb.cell 5];rfl
 have k3:(w.setCell ⟨T,3,none⟩ x3).cell? ⟨T,3,none⟩=some x3:=by rw [h1.cell 3];rfl
 exact⟨⟨hc,fun _=>⟨x3,v4,v5,h1⟩,fun _=>k3,fun h=>h.chg hT hc k4,fun h=>h.chg hT hc k5⟩,k3⟩
theorem SsB.st4 {v:Value}(hb:SsB T ka sa na w) (hT:T < S3) (hv:∃p_ c_,v=.slice p_ ya.length c_∧SL (Fresh S3 w.heap.size) w p_ c_ (stSs ya)):SsR T S3 ka sa na x3 ya ea w (w.setCell ⟨T,4,none⟩ v)∧SsG T S3 4 ya (w.setCell ⟨T,4,none⟩ v):=by
 obtain ⟨v3,v4,v5,hb⟩:=hb
 have h1:=hb.set 4 v
 have hc:=Chg.set w ⟨T,4,none⟩ v
 have k3:(w.setCell ⟨T,4,none⟩ v).cell? ⟨T,3,none⟩=w.cell? ⟨T,3,none⟩:=by rw [h1.cell 3,hb.cell 3];rfl
 have k5:(w.setCell ⟨T,4,none⟩ v).cell? ⟨T,5,none⟩=w.cell? ⟨T,5,none⟩:=by rw [h1.cell 5,hb.cell 5];rfl
 have k4:(w.setCell ⟨T,4,none⟩ v).cell? ⟨T,4,none⟩=some v:=by rw [h1.cell 4];rfl
 have hg:=SsL.mem (T:=T) hv hT hc k4
 exact⟨⟨hc,fun _=>⟨v3,v,v5,h1⟩,fun h=>k3.trans h,fun _=>hg,fun h=>h.chg hT hc k5⟩,hg⟩
theorem SsB.st5 {v:Value}(hb:SsB T ka sa na w) (hT:T < S3) (hv:∃p_ c_,v=.slice p_ ea.length c_∧SL (Fresh S3 w.heap.size) w p_ c_ (stSs ea)):SsR T S3 ka sa na x3 ya ea w (w.setCell ⟨T,5,none⟩ v)∧SsG T S3 5 ea (w.setCell ⟨T,5,none⟩ v):=by
 obtain ⟨v3,v4,v5,hb⟩:=hb
 have h1:=hb.set 5 v
 have hc:=Chg.set w ⟨T,5,none⟩ v
 have k3:(w.setCell ⟨T,5,none⟩ v).cell? ⟨T,3,none⟩=w.cell? ⟨T,3,none⟩:=by rw [h1.cell 3,hb.cell 3];rfl
 have k4:(w.setCell ⟨T,5,none⟩ v).cell? ⟨T,4,none⟩=w.cell? ⟨T,4,none⟩:=by rw [h1.cell 4,hb.cell 4];rfl
 have k5:(w.setCell ⟨T,5,none⟩ v).cell? ⟨T,5,none⟩=some v:=by rw [h1.cell 5];rfl
 have hg:=SsL.mem (T:=T) hv hT hc k5
 exact⟨⟨hc,fun _=>⟨v3,v4,v,h1⟩,fun h=>k3.trans h,fun h=>h.chg hT hc k4,fun _=>hg⟩,hg⟩
theorem SsR.done {x4:List Value}(h:SsR T S3 ka sa na x3 ya ea w w') (hb:SsB T ka sa na w) (hc:w'.cell? ⟨T,3,none⟩=some x3) (h4:SsG T S3 4 ya w') (h5:SsG T S3 5 ea w'):∃p3 c3 p5 c5,Blk T [.int .i64 ka,.string sa,.int .i64 na,x3,.slice p3 ya.length c3,.slice p5 ea.length c5,.int .i64 0] 49 w'∧SL (Fresh S3 w'.heap.size) w' p3 c3 (stSs ya)∧SL (Fresh S3 w'.heap.size) w' p5 c5 (stSs ea):=by
 obtain ⟨v3,v4,v5,hb'⟩:=h.b hb
 obtain ⟨p3,c3,e4,s4⟩:=h4
 obtain ⟨p5,c5,e5,s5⟩:=h5
 have f3:some v3=some x3:=(hb'.cell 3).symm.trans hc
 have f4:some v4=some (.slice p3 ya.length c3):=(hb'.cell 4).symm.trans e4
 have f5:some v5=some (.slice p5 ea.length c5):=(hb'.cell 5).symm.trans e5
 obtain rfl:=Option.some.inj f3
 obtain rfl:=Option.some.inj f4
 obtain rfl:=Option.some.inj f5
 exact⟨p3,c3,p5,c5,hb',s4,s5⟩
end
theorem strips_node {w:World}{S T S3:Nat}{p1 p2 p3 p5:Option Addr}{n1 c1 c2 c3 c5:Nat}{l0:List Sm}{k n q:Int}{s:ByteArray}{ra:List Xp}{ya ea:List Sm}(hz:s.size≤1048576) (hr:∀a,p1=some a→a.block < T) (hS:S≤T) (hT:T < S3) (h1:XL (fun b=>T+1≤b∧b < w.heap.size) w p2 c2 (stXs ra)) (h2:SL (Fresh S3 w.heap.size) w p3 c3 (stSs ya)) (h3:SL (Fresh S3 w.heap.size) w p5 c5 (stSs ea)):SsAt (Aside S w.heap.size p1) w [stS ⟨k,s,n,ra,ya,ea,q⟩] [⟨k,s,n,p2,ra.length,c2,p3,ya.length,c3,p5,ea.length,c5,0⟩]:=by
 have ho:∀b,T < b→Off p1 b:=fun b hb a ha=>by have:=hr a ha;omega
 have h4:=sat1 (k:=k) (n:=n) (q:=0) (s:=s) hz (h1.mono (B':=Aside S w.heap.size p1) fun b hb=>⟨by have:=hb.1;omega,hb.2,ho b (by have:=hb.1;omega)⟩) (h2.mono (B':=Aside S w.heap.size p1) fun b hb=>⟨by have:=hb.1;omega,hb.2,ho b (by have:=hb.1;omega)⟩) (h3.mono (B':=Aside S w.heap.size p1) fun b hb=>⟨by have:=hb.1;omega,hb.2,ho b (by have:=hb.1;omega)⟩)
 rw [stXs_len,stSs_len,stSs_len] at h4
 rw [stS_eq]
 exact h4
theorem enters_ss:Enters Tryz.prog 92:=fun args w=>by go_simp
set_option maxHeartbeats 16000000 in
theorem strips_any:∀(n:Nat) (l:List Sm),nSs l < n→∀(B:Nat→Prop) (w:World) (p:Option Addr) (c:Nat),SL B w p c l→nSs l≤1048576→mSs l≤1048576 →
 Calls Tryz.prog 92 #[.slice p l.length c] w fun e w'=>∃p' c',e=.returned (.slice p' l.length c')∧SL (Fresh w.heap.size w'.heap.size) w' p' c' (stSs l)∧Grew w w':=by
 intro n
 induction n with
 | zero=>intro _ h;exact absurd h (Nat.not_lt_zero _)
 | succ n ih =>
 intro l hln B w p c hx hnS hmS
 have HX:=zh hx
 have hcap:l.length≤c:=hx.cap.1
 have hmax:=hx.cap.2.1
 have hnl:=nSs_len l
 clear hx
 go_enter Tryz.func92,Tryz.ntmps92
 go_wp2
 obtain ⟨S,hS⟩:∃S,w.heap.size=S:=⟨_,rfl⟩
 have HS0:=zh hS
 clear hS
 go_loopg [3,5,6,8,11] l.length (fun gg lv v5 v6 v8 iv wr=>∃(j:Nat) (p1:Option Addr) (n1 c1:Nat),lv=.slice p1 n1 c1∧iv=.int .i64 (j:Int)∧j≤l.length∧gg=l.length - j∧Hid (OwN SsAt 7 sdc S (Aside S wr.heap.size p1) wr 49 p1 n1 c1 (stSs (l.take j)))∧Hid (Grew w wr))
 case atStart=>exact⟨0,none,0,0,rfl,rfl,Nat.zero_le _,rfl,zh (by rw [List.take_zero,stSs];exact OwN.nil hangsS),zh (Grew.refl _)⟩
 case round =>
  obtain ⟨j,p1,n1,c1,rfl,rfl,hj,rfl,HR,HG⟩:=hrel
  have HGO:=HG
  by_cases hlt:j < l.length
  ·have HN1:Hid (n1≤1048576):=zh (by have h1:=HR.out.len;rw [stSs_len,List.length_take] at h1;omega)
   obtain ⟨ba,oa,paa,caa,pba,cba,pea,cea,rfl,hba,haa,hboa,hela,hca⟩:=HX.out.get j hlt
   have hma:=List.getElem_mem hlt
   have hna:=nSs_mem hma
   have hta:=List.take_succ_eq_append_getElem hlt
   have HLa:=zh (Nat.succ_le_of_lt hlt)
   have hm1:=mSs_mem hma
   generalize l[j]=xa at *
   obtain ⟨ka,sa,na,ra,ya,ea,qa⟩:=xa
   replace hba:sa.size≤1048576:=hba.2
   have HTa:=zh hta
   have HAa:Hid (XL B w paa caa ra):=zh haa
   have HYa:Hid (SL B w pba cba ya):=zh hboa
   have HEa:Hid (SL B w pea cea ea):=zh hela
   have hcapa:ra.length≤caa∧ya.length≤cba∧ea.length≤cea:=⟨haa.cap.1,hboa.cap.1,hela.cap.1⟩
   have hmaxa:=And.intro haa.cap.2.1 (And.intro hboa.cap.2.1 hela.cap.2.1)
   replace hca:∀i_ u_,(sdc ⟨ka,sa,na,paa,ra.length,caa,pba,ya.length,cba,pea,ea.length,cea,qa⟩)[i_]?=some u_→wr.cell? ⟨ba,oa+j * 7+i_,none⟩=some u_:=fun i_ u_ h_=>Atv.kept (hca i_ u_ h_) HG.out
   have ca0:wr.cell? ⟨ba,oa+j * 7,none⟩=some (.int .i64 ka):=by simpa using hca 0 _ rfl
   have ca1:wr.cell? ⟨ba,oa+j * 7+1,none⟩=some (.string sa):=hca 1 _ rfl
   have ca2:wr.cell? ⟨ba,oa+j * 7+2,none⟩=some (.int .i64 na):=hca 2 _ rfl
   have ca3:wr.cell? ⟨ba,oa+j * 7+3,none⟩=some (.slice paa ra.length caa):=hca 3 _ rfl
   have ca4:wr.cell? ⟨ba,oa+j * 7+4,none⟩=some (.slice pba ya.length cba):=hca 4 _ rfl
   have ca5:wr.cell? ⟨ba,oa+j * 7+5,none⟩=some (.slice pea ea.length cea):=hca 5 _ rfl
   have ca6:wr.cell? ⟨ba,oa+j * 7+6,none⟩=some (.int .i64 qa):=hca 6 _ rfl
   clear hca haa hboa hela hta
   have hns:nS ⟨ka,sa,na,ra,ya,ea,qa⟩=nSs ya+nSs ea+1:=rfl
   have hms:mS ⟨ka,sa,na,ra,ya,ea,qa⟩=nXs ra+mSs ya+mSs ea:=rfl
   rw [hns] at hna
   rw [hms] at hm1
   have hra:=nXs_len ra
   have HNS:=zh (And.intro hna (And.intro hm1 (And.intro hra (And.intro hnS (And.intro hmS hln)))))
   have HIY:=zh (fun W (hW:Grew w W)=>(show Calls Tryz.prog 92 #[.slice pba ya.length cba] W fun e w'=>∃p' c',e=.returned (.slice p' ya.length c')∧SL (Fresh W.heap.size w'.heap.size) w' p' c' (stSs ya)∧Grew W w' from ih ya (by omega) B W pba cba (HYa.out.kept hW) (by omega) (by omega)))
   have HIE:=zh (fun W (hW:Grew w W)=>(show Calls Tryz.prog 92 #[.slice pea ea.length cea] W fun e w'=>∃p' c',e=.returned (.slice p' ea.length c')∧SL (Fresh W.heap.size w'.heap.size) w' p' c' (stSs ea)∧Grew W w' from ih ea (by omega) B W pea cea (HEa.out.kept hW) (by omega) (by omega)))
   clear hns hms hna hm1 hra
   go_wp2
   have hb1:Blk wr.heap.size [.int .i64 ka,.string sa,.int .i64 na,.slice paa ra.length caa,.slice pba ya.length cba,.slice pea ea.length cea,.int .i64 0] 49 (wr.alloc (Obj.cells #[.int .i64 ka,.string sa,.int .i64 na,.slice paa ra.length caa,.slice pba ya.length cba,.slice pea ea.length cea,.int .i64 0] 49)):=Blk.new wr _ _
   have hg1:Grew wr (wr.alloc (Obj.cells #[.int .i64 ka,.string sa,.int .i64 na,.slice paa ra.length caa,.slice pba ya.length cba,.slice pea ea.length cea,.int .i64 0] 49)):=(Grew.refl wr).alloc _
   have hs1:(wr.alloc (Obj.cells #[.int .i64 ka,.string sa,.int .i64 na,.slice paa ra.length caa,.slice pba ya.length cba,.slice pea ea.length cea,.int .i64 0] 49)).heap.size=wr.heap.size+1:=by rw [alloc_sz]
   obtain ⟨T,hT⟩:∃T,wr.heap.size=T:=⟨_,rfl⟩
   have HT0:=zh hT
   rw [hT] at hb1 hs1 ⊢
   clear hT
   generalize (wr.alloc (Obj.cells #[.int .i64 ka,.string sa,.int .i64 na,.slice paa ra.length caa,.slice pba ya.length cba,.slice pea ea.length cea,.int .i64 0] 49))=V at hb1 hg1 hs1 ⊢
   have HB1:=zh hb1
   have HGV:=zh hg1
   have HWV:=zh hs1
   have HGw:=zh (HG.out.trans hg1)
   clear hb1 hg1 hs1 ca0 ca1 ca2 ca3 ca4 ca5 ca6
   go_loopg [6,8,19] ra.length (fun gg bv v8 iv wr=>∃(i:Nat) (p2:Option Addr) (n2 c2:Nat),bv=.slice p2 n2 c2∧iv=.int .i64 (i:Int)∧i≤ra.length∧gg=ra.length - i∧Hid (OwN XsAt 6 xdc (T+1) (Aside (T+1) wr.heap.size p2) wr 35 p2 n2 c2 (stXs (ra.take i)))∧Hid (Grew V wr))
   case atStart=>exact⟨0,none,0,0,rfl,rfl,Nat.zero_le _,rfl,zh (by rw [List.take_zero,stXs];exact OwN.nil hangsX),zh (Grew.refl _)⟩
   case round =>
    obtain ⟨i,p2,n2,c2,rfl,rfl,hi,rfl,HR2,HGq⟩:=hrel
    have HLa2:=HLa
    have HG:=zh (HGw.out.trans HGq.out)
    by_cases hlt:i < ra.length
    ·have HN2:Hid (n2≤1048576):=zh (by have h1:=HR2.out.len;have:=HNS.out;rw [stXs_len,List.length_take] at h1;omega)
     obtain ⟨bu,ou,pu,cu,rfl,hbu,hau,hcu⟩:=HAa.out.get i hlt
     have hmu:=List.getElem_mem hlt
     have hnu:=nXs_mem hmu
     have htu:=List.take_succ_eq_append_getElem hlt
     have HLu:=zh (Nat.succ_le_of_lt hlt)
     generalize ra[i]=xu at *
     obtain ⟨ku,su,vu,o_u,ru,qu⟩:=xu
     replace hbu:su.size≤1048576∧vu≤32767:=hbu.2
     have HTu:=zh htu
     have HAu:Hid (XL B w pu cu ru):=zh hau
     have hcapu:ru.length≤cu:=hau.cap.1
     have hmaxu:=hau.cap.2.1
     replace hcu:∀i_ u_,(xdc ⟨ku,su,vu,o_u,pu,ru.length,cu,qu⟩)[i_]?=some u_→wr.cell? ⟨bu,ou+i * 6+i_,none⟩=some u_:=fun i_ u_ h_=>Atv.kept (hcu i_ u_ h_) HG.out
     have cu0:wr.cell? ⟨bu,ou+i * 6,none⟩=some (.int .i64 ku):=by simpa using hcu 0 _ rfl
     have cu1:wr.cell? ⟨bu,ou+i * 6+1,none⟩=some (.string su):=hcu 1 _ rfl
     have cu2:wr.cell? ⟨bu,ou+i * 6+2,none⟩=some (.int .i16 vu):=hcu 2 _ rfl
     have cu3:wr.cell? ⟨bu,ou+i * 6+3,none⟩=some (.int .i64 o_u):=hcu 3 _ rfl
     have cu4:wr.cell? ⟨bu,ou+i * 6+4,none⟩=some (.slice pu ru.length cu):=hcu 4 _ rfl
     have cu5:wr.cell? ⟨bu,ou+i * 6+5,none⟩=some (.int .i64 qu):=hcu 5 _ rfl
     clear hcu hau htu
     have HIX:=zh (fun W (hW:Grew w W)=>(show Calls Tryz.prog 132 #[xv ku su vu o_u pu ru.length cu qu] W fun e w'=>∃p' c',e=.returned (xv ku su vu o_u p' ru.length c' 0)∧XL (Fresh W.heap.size w'.heap.size) w' p' c' (stXs ru)∧Grew W w' from strip_any ⟨ku,su,vu,o_u,ru,qu⟩ B W pu cu hbu (HAu.out.kept hW) (by have:=HNS.out;omega)))
     clear hmu hnu
     go_wp2_with (first
      | (go_at_call 132;(with_reducible refine(HIX.out _ (HG.out.alloc _)).mono ?_);rintro e_ w2 ⟨p3,c3,rfl,hx2,g2⟩;have HX2:=zh hx2;have HQ2:=zh g2;clear hx2 g2)
      | (at_builtin;refine wpList_append_own hangsX rfl _ _ 33 rfl (T+1) 35 zX 72 Tryz.underlying33 infoX rfl p2 n2 c2 (stXs (ra.take i)) rfl (B:=Aside (T+1) w2.heap.size p2) (strips_own HR2.out HQ2.out) _ 1 1 [stX ⟨ku,su,vu,o_u,ru,qu⟩] rfl (InN.made hangsX _ _ _ _ _ _ _ (strips_at HR2.out (by have h2:=HGq.out.sz;have h3:=HWV.out;omega) HX2.out hbu) rfl rfl) (fun b hb=>hb.2.2) (by have:=HN2.out;omega) (by have:=HN2.out;omega) (by have h1:=HQ2.out.sz;have h2:=HGq.out.sz;have h3:=HWV.out;rw [alloc_sz] at h1 ⊢;omega) ?_;intro p4 c4 w3 ho3 hp3;have HO3:=zh ho3;have HP3:=zh hp3;clear ho3 hp3))
     have HG3:Hid (Grew V w3):=zh (Below.trans (((HGq.out.alloc _).trans HQ2.out).alloc _) (HWV.out ▸ HP3.out.below))
     go_roundg (ra.length - (i+1))
     case measure=>have:=HLu.out;omega
     case rel=>exact⟨i+1,p4,n2+1,c4,rfl,by go_num,HLu.out,rfl,zh (by
      rw [stXs_snoc HTu.out]
      refine HO3.out.mono hangsX fun b hb=>?_
      have h1:b < (w2.alloc (Obj.cells #[.int .i64 ku,.string su,.int .i16 vu,.int .i64 o_u,.slice p3 ru.length c3,.int .i64 0] 35)).heap.size:=by rw [alloc_sz];have:=hb.2.1;omega
      exact⟨hb.1,Nat.lt_of_lt_of_le h1 HP3.out.below.size,HP3.out.off h1 hb.2.2⟩),HG3⟩
    ·obtain rfl:i=ra.length:=by omega
     rw [List.take_length] at HR2
     have hn2:n2=ra.length:=by have h1:=HR2.out.len;rwa [stXs_len] at h1
     subst hn2
     have HG3:=zh HG.out
     go_upto_region 12 with fail
     have HBq:=zh (HB1.out.grew (HGq.out.trans (Grew.refl wr).drw))
     have d4:Atv ⟨T,4,none⟩ (.slice pba ya.length cba) wr.drew:=HBq.out.atv 4 rfl
     have d5:Atv ⟨T,5,none⟩ (.slice pea ea.length cea) wr.drew:=HBq.out.atv 5 rfl
     have HG4:∀W,Grew wr.drew W→Grew w W:=fun W h=>HG3.out.trans ((Grew.refl wr).drw.trans h)
     have HSB:Hid (SsB T ka sa na wr.drew):=zh ⟨_,_,_,HBq.out⟩
     have HTS:Hid (T < wr.drew.heap.size):=zh HBq.out.lt
     refine wp_postsV (fun i=>Nat.beq i 8||(Nat.beq i 10||Nat.beq i 12)) (fun i=>Nat.blt i 7) (SsR T wr.drew.heap.size ka sa na (.slice p2 ra.length c2) ya ea) Grew Grew.refl Grew.trans SsR.of_grew SsR.trans [some 29,some 30,some 31,some 32,some 33,some 34,some 35,some 36,none,some 37,none,some 38,none] (Zfe (Zfd (Zfc (Zfa (Ztd (Ztb (Zfc (Zfb [])))))))) (postAt [fun v _=>v=.slice p2 ra.length c2,fun v _=>v=.pointer (some ⟨T,4,none⟩),fun v _=>v=.slice pba ya.length cba,fun v w=>∃p_ c_,v=.slice p_ ya.length c_∧SL (Fresh wr.drew.heap.size w.heap.size) w p_ c_ (stSs ya),fun v _=>v=.pointer (some ⟨T,5,none⟩),fun v _=>v=.slice pea ea.length cea,fun v w=>∃p_ c_,v=.slice p_ ea.length c_∧SL (Fresh wr.drew.heap.size w.heap.size) w p_ c_ (stSs ea),fun v _=>v=.pointer (some ⟨T,3,none⟩),fun _ w=>w.cell? ⟨T,3,none⟩=some (.slice p2 ra.length c2),fun v _=>v=.pointer (some ⟨T,4,none⟩),fun _ w=>SsG T wr.drew.heap.size 4 ya w,fun v _=>v=.pointer (some ⟨T,5,none⟩),fun _ w=>SsG T wr.drew.heap.size 5 ea w]) (by kernel_rfl) (by kernel_rfl) (by kernel_rfl) rfl ?_ ⟨?_,?_,?_,?_,?_,?_,?_,?_,?_,?_,?_,?_,?_,trivial⟩ ?_
     ·exact MonosR.at (R:=(SsR T wr.drew.heap.size ka sa na (.slice p2 ra.length c2) ya ea)) ⟨Zi,Zi,Zi,fun _ _ _ hg ⟨p_,c_,h1,h2⟩=>⟨p_,c_,h1,(h2.chg hg.ch (fun b hb e=>by have h1:=hb.1;have h2:=HTS.out;omega)).mono fun b hb=>⟨hb.1,Nat.lt_of_lt_of_le hb.2 hg.ch.size⟩⟩,Zi,Zi,fun _ _ _ hg ⟨p_,c_,h1,h2⟩=>⟨p_,c_,h1,(h2.chg hg.ch (fun b hb e=>by have h1:=hb.1;have h2:=HTS.out;omega)).mono fun b hb=>⟨hb.1,Nat.lt_of_lt_of_le hb.2 hg.ch.size⟩⟩,Zi,fun _ _ _ hg h=>hg.c h,Zi,fun _ _ _ hg h=>hg.g4 h,Zi,fun _ _ _ hg h=>hg.g5 h,trivial⟩
     ·intro u w hR he hd;exact runs_mv (ev rfl) Zr
     ·intro u w hR he hd;exact rn_fld_49_4 (ev rfl) Zr
     ·intro u w hR he hd;exact rn_ld_40 (ev (hd.1 rfl)) (d4.kept (he rfl)) Zr
     ·intro u w hR he hd;exact runs_c1 enters_ss (ev (hd.1 rfl)) ((HIY.out _ (HG4 _ (he rfl))).mono fun e w9 ⟨p9,c9,h1,h2,h3⟩=>⟨_,h1,h3,p9,c9,rfl,h2.mono fun b hb=>⟨Nat.le_trans (he rfl).sz hb.1,hb.2⟩⟩)
     ·intro u w hR he hd;exact rn_fld_49_5 (ev rfl) Zr
     ·intro u w hR he hd;exact rn_ld_40 (ev (hd.1 rfl)) (d5.kept (he rfl)) Zr
     ·intro u w hR he hd;exact runs_c1 enters_ss (ev (hd.1 rfl)) ((HIE.out _ (HG4 _ (he rfl))).mono fun e w9 ⟨p9,c9,h1,h2,h3⟩=>⟨_,h1,h3,p9,c9,rfl,h2.mono fun b hb=>⟨Nat.le_trans (he rfl).sz hb.1,hb.2⟩⟩)
     ·intro u w hR he hd;exact rn_fld_49_3 (ev rfl) Zr
     ·intro u w hR he hd
      have hb0:SsB T ka sa na w:=hR.b HSB.out
      obtain ⟨v3,v4,v5,hbb⟩:=hb0
      exact rn_st_33 (ev (hd.1 rfl)) (ev (hd.2.1 rfl)) (hbb.cell 3) (hbb.free 3) (SsB.st3 ⟨v3,v4,v5,hbb⟩ HTS.out)
     ·intro u w hR he hd;exact rn_fld_49_4 (ev rfl) Zr
     ·intro u w hR he hd
      have hb0:SsB T ka sa na w:=hR.b HSB.out
      obtain ⟨v3,v4,v5,hbb⟩:=hb0
      have h3:=hd.2.1 rfl
      obtain ⟨p_,c_,hv,hs⟩:=id h3
      exact rn_st_40 (ev (hd.1 rfl)) (ev hv) (hbb.cell 4) (hbb.free 4) (SsB.st4 ⟨v3,v4,v5,hbb⟩ HTS.out ⟨p_,c_,rfl,hs⟩)
     ·intro u w hR he hd;exact rn_fld_49_5 (ev rfl) Zr
     ·intro u w hR he hd
      have hb0:SsB T ka sa na w:=hR.b HSB.out
      obtain ⟨v3,v4,v5,hbb⟩:=hb0
      have h3:=hd.2.1 rfl
      obtain ⟨p_,c_,hv,hs⟩:=id h3
      exact rn_st_40 (ev (hd.1 rfl)) (ev hv) (hbb.cell 5) (hbb.free 5) (SsB.st5 ⟨v3,v4,v5,hbb⟩ HTS.out ⟨p_,c_,rfl,hs⟩)
     ·intro u w4 hR hh
      have h8:w4.cell? ⟨T,3,none⟩=some (.slice p2 ra.length c2):=hh 8 (by decide)
      have h10:SsG T wr.drew.heap.size 4 ya w4:=hh 10 (by decide)
      have h12:SsG T wr.drew.heap.size 5 ea w4:=hh 12 (by decide)
      obtain ⟨p3,c3,p5,c5,hb4,hl4,hl5⟩:=hR.done (x4:=[]) HSB.out h8 h10 h12
      have hch:=hR.ch
      have HRW:=zh (strips_row HR.out HT0.out (HGV.out.trans (HGq.out.trans (Grew.refl wr).drw)) hch)
      have HAT:=zh (strips_node (S:=S) (T:=T) (p1:=p1) (n1:=n1) (c1:=c1) (l0:=[]) (k:=ka) (n:=na) (q:=qa) hba (fun a ha=>HT0.out ▸ (HR.out.place hangsS a ha).2) (by have h1:=HG.out.sz;have h2:=HS0.out;have h3:=HT0.out;have h4:=HGO.out.sz;omega) HTS.out (strips_args HR2.out (Grew.refl wr).drw hch) hl4 hl5)
      have HG5:Hid (Grew w w4):=zh (grew_lift (HG.out.trans (Grew.refl wr).drw) hch (fun k hk=>by have h2:=HS0.out;have h3:=HT0.out;have h4:=HGO.out.sz;omega))
      have t0:=hb4.cell 0
      have t1:=hb4.cell 1
      have t2:=hb4.cell 2
      have t3:=hb4.cell 3
      have t4:=hb4.cell 4
      have t5:=hb4.cell 5
      have t6:=hb4.cell 6
      simp only [zz7,zz8] at t0 t1 t2 t3 t4 t5 t6
      have hk2:=(HR2.out.inN hangsX).cap hangsX
      have hk4:=hl4.cap
      have hk5:=hl5.cap
      rw [stSs_len] at hk4 hk5
      clear hh hR h8 h10 h12 hb4 hl4 hl5 hch
      simp only [mixA,mixL,zz9,zz0]
      go_wp2_with (at_builtin;refine wpList_append_own hangsS rfl _ _ 40 rfl S 49 zS 112 Tryz.underlying40 infoS rfl p1 n1 c1 (stSs (l.take j)) rfl (B:=Aside S w4.heap.size p1) (HRW.out.kept hangsS ((Grew.refl w4).alloc _)) _ 1 1 [stS ⟨ka,sa,na,ra,ya,ea,qa⟩] rfl (InN.made hangsS _ _ _ _ _ _ _ HAT.out rfl rfl) (fun b hb=>hb.2.2) (by have:=HN1.out;omega) (by have:=HN1.out;omega) (by have h2:=HS0.out;have h3:=HG5.out.sz;rw [alloc_sz];omega) ?_;intro p6 c6 w6 ho3 hp3;have HO3:=zh ho3;have HP3:=zh hp3;clear ho3 hp3)
      have HG6:Hid (Grew w w6):=zh (Below.trans (HG5.out.alloc _) (HS0.out.symm ▸ HP3.out.below))
      go_roundg (l.length - (j+1))
      case measure=>have:=HLa2.out;omega
      case rel=>exact⟨j+1,p6,n1+1,c6,rfl,by go_num,HLa2.out,rfl,zh (by
       rw [stSs_snoc HTa.out]
       refine HO3.out.mono hangsS fun b hb=>?_
       have h1:b < (w4.alloc (Obj.cells #[.int .i64 ka,.string sa,.int .i64 na,.slice p2 ra.length c2,.slice p3 ya.length c3,.slice p5 ea.length c5,.int .i64 0] 49)).heap.size:=by rw [alloc_sz];have:=hb.2.1;omega
       exact⟨hb.1,Nat.lt_of_lt_of_le h1 HP3.out.below.size,HP3.out.off h1 hb.2.2⟩),HG6⟩
  ·obtain rfl:j=l.length:=by omega
   rw [List.take_length] at HR
   have hn1:n1=l.length:=by have h1:=HR.out.len;rwa [stSs_len] at h1
   subst hn1
   have HDN:=zh (strips_done HR.out HS0.out)
   have hcp:=HDN.out.cap
   rw [stSs_len] at hcp
   go_wp2
   go_ret
   exact⟨p1,c1,rfl,HDN.out,HG.out⟩
open Go.Lib (decDigits)
def HN (p:UInt8→Bool):List UInt8→Bool
 | []=>true
 | c :: _=>!p c
def one (c:UInt8):Bool:=[40,41,91,93,59,123,125,45].contains c
theorem o15 {o:Int}(h:3≤o∧o≤15):o=3∨o=4∨o=5∨o=6∨o=7∨o=8∨o=9∨o=10∨o=11∨o=12∨o=13∨o=14∨o=15:=by omega
def opdK (least k o:Int) (t:List (List UInt8)):List (List UInt8):=if lvX k o < least then [40] :: (t++[[41]]) else t
def asmK (k:Int) (s:ByteArray) (v o:Int) (hs:List (Int × Int)) (ts:List (List (List UInt8))):List (List UInt8) :=
 if k=1 then [numZ v] else if k=3 then s.data.toList :: [91] :: (ts.getD 0 []++[[93]]) else if k=4 then [[114,101,97,100],[40],s.data.toList,[41]]
 else if k=5 then sgT o :: opdK 6 (hs.getD 0 (0,0)).1 (hs.getD 0 (0,0)).2 (ts.getD 0 [])
 else if k=6 then opdK (lfT o) (hs.getD 0 (0,0)).1 (hs.getD 0 (0,0)).2 (ts.getD 0 [])++sgT o :: opdK (lvT o+1) (hs.getD 1 (0,0)).1 (hs.getD 1 (0,0)).2 (ts.getD 1 [])
 else [s.data.toList]
mutual
def tkX:Xp→List (List UInt8)
 | ⟨k,s,v,o,ar,_⟩=>asmK k s v o (ar.map fun a=>(a.k,a.o)) (tkXs ar)
def tkXs:List Xp→List (List (List UInt8))
 | []=>[]
 | x :: xs=>tkX x :: tkXs xs
end
def agK (ar:List Xp) (i:Nat):List (List UInt8):=(tkXs ar).getD i []
theorem ag0 (a:Xp) (l:List Xp):agT (a :: l) 0=txX a∧agK (a :: l) 0=tkX a:=by
 rw [agT,agK,txXs,tkXs];exact⟨rfl,rfl⟩
theorem ag1 (a b:Xp) (l:List Xp):agT (a :: b :: l) 1=txX b∧agK (a :: b :: l) 1=tkX b:=by
 rw [agT,agK,txXs,tkXs,txXs,tkXs];exact⟨rfl,rfl⟩
theorem ok1 {a:Xp}{l:List Xp}(h:okXs (a :: l)=true):okX a=true:=by rw [okXs,Bool.and_eq_true] at h;exact h.1
theorem ok2 {a b:Xp}{l:List Xp}(h:okXs (a :: b :: l)=true):okX b=true:=by rw [okXs,okXs,Bool.and_eq_true,Bool.and_eq_true] at h;exact h.2.1
open Go.Lib (decDigits)
def okN (t:List UInt8):Bool:=decide (dval 0 t≤32767)&&!(decide (1 < t.length)&&t.head?==some 48)
def kdT (t:List UInt8):Int:=match t with
 | []=>5
 | c :: r=>if ltr c=true then (if kwT.contains (c :: r)=true then 3 else if (c :: r).length≤32 then 1 else 5) else if dig c=true then (if okN (c :: r)=true then 2 else 5) else if mkl (c :: r)=0 then 5 else 4
structure Kz (T:Type) where
 tx:T→List UInt8
 kn:T→Int
 vl:T→Int
 ps:T→Int
structure Kz.Good {T:Type}(Z:Kz T):Prop where
 kn:∀t,Z.kn t=kdT (Z.tx t)
 vl:∀t,Z.kn t=2→Z.vl t=(dval 0 (Z.tx t):Nat)
abbrev Ro (T α:Type):=Except (List T) (α × List T)
def bd {T α β:Type}(x:Ro T α) (f:α→List T→Ro T β):Ro T β:=match x with
 | .ok (a,r)=>f a r
 | .error e=>.error e
def opF (u:List UInt8):Option Int:=([3,4,5,6,7,8,9,10,11,12,13,14,15]:List Int).find? (fun o=>sgT o==u)
def Ev {α:Type}(f:Nat→α) (v:α):Prop:=∃n,∀m,n≤m→f m=v
section
variable {α β T:Type}
theorem Ev.pure (v:α):Ev (fun _=>v) v:=⟨0,fun _ _=>rfl⟩
theorem Ev.one {f:Nat→α}{v v':α}(h:Ev f v) (h':Ev f v'):v=v':=by
 obtain ⟨n,h⟩:=h
 obtain ⟨n',h'⟩:=h'
 rw [← h (n+n') (by omega),h' (n+n') (by omega)]
theorem Ev.succ {f g:Nat→α}{v:α}(e:∀m,f (m+1)=g m) (h:Ev g v):Ev f v:=by
 obtain ⟨n,h⟩:=h
 refine⟨n+1,fun m hm=>?_⟩
 obtain ⟨k,rfl⟩:∃k,m=k+1:=⟨m - 1,by omega⟩
 rw [e,h k (by omega)]
theorem Ev.pred {f g:Nat→α}{v:α}(e:∀m,f (m+1)=g m) (h:Ev f v):Ev g v:=by
 obtain ⟨n,h⟩:=h
 exact⟨n,fun m hm=>by rw [← e,h (m+1) (by omega)]⟩
theorem Ev.bd {g:Nat→Ro T α}{k:Nat→α→List T→Ro T β}{a:α}{r:List T}{v:Ro T β}(h:Ev g (.ok (a,r))) (h':Ev (fun m=>k m a r) v):Ev (fun m=>Go.Proofs.YtcknpcbkofgdoaaGreatDoor.bd (g m) (k m)) v:=by
 obtain ⟨n,h⟩:=h
 obtain ⟨n',h'⟩:=h'
 refine⟨n+n',fun m hm=>?_⟩
 show Go.Proofs.YtcknpcbkofgdoaaGreatDoor.bd (g m) (k m)=v
 rw [h m (by omega)]
 exact h' m (by omega)
theorem Ev.congr {f g:Nat→α}{v:α}(e:∀m,f m=g m) (h:Ev g v):Ev f v:=by
 obtain ⟨n,h⟩:=h
 exact⟨n,fun m hm=>by rw [e,h m hm]⟩
end
section
variable {T:Type}(Z:Kz T)
def isT (u:List UInt8):List T→Bool
 | t :: _=>Z.tx t==u
 | []=>false
def tkT (u:List UInt8):List T→Ro T T
 | t :: r=>if Z.tx t=u then .ok (t,r) else .error (t :: r)
 | []=>.error []
def idT:List T→Ro T T
 | t :: r=>if Z.kn t=1 then .ok (t,r) else .error (t :: r)
 | []=>.error []
abbrev nmT (t:T):ByteArray:=⟨(Z.tx t).toArray⟩
inductive Md where
 | prim
 | unar
 | expr (l:Int)
 | loop (l:Int) (x:Xp)
def rd:Nat→Md→List T→Ro T Xp
 | 0,_,ts=>.error ts
 | _+1,.prim,[]=>.error []
 | n+1,.prim,t :: r =>
   if Z.kn t=2 then .ok (⟨1,⟨#[]⟩,Z.vl t,0,[],Z.ps t⟩,r)
   else if Z.kn t=1 then
    (if isT Z [91] r=true then bd (tkT Z [91] r) fun _ r=>bd (rd n (.expr 1) r) fun x r=>bd (tkT Z [93] r) fun _ r=>.ok (⟨3,nmT Z t,0,0,[x],Z.ps t⟩,r)
    else .ok (⟨2,nmT Z t,0,0,[],Z.ps t⟩,r))
   else if Z.tx t=[114,101,97,100] then bd (tkT Z [40] r) fun _ r=>bd (idT Z r) fun s r=>bd (tkT Z [41] r) fun _ r=>.ok (⟨4,nmT Z s,0,0,[],Z.ps t⟩,r)
   else bd (tkT Z [40] (t :: r)) fun _ r=>bd (rd n (.expr 1) r) fun x r=>bd (tkT Z [41] r) fun _ r=>.ok (x,r)
 | _+1,.unar,[]=>.error []
 | n+1,.unar,t :: r =>
   if Z.tx t=[45] then bd (rd n .unar r) fun x r=>.ok (⟨5,⟨#[]⟩,0,1,[x],Z.ps t⟩,r)
   else if Z.tx t=[33] then bd (rd n .unar r) fun x r=>.ok (⟨5,⟨#[]⟩,0,2,[x],Z.ps t⟩,r)
   else rd n .prim (t :: r)
 | n+1,.expr l,ts=>if 5 < l then rd n .unar ts else bd (rd n (.expr (l+1)) ts) fun x r=>rd n (.loop l x) r
 | _+1,.loop _ x,[]=>.ok (x,[])
 | n+1,.loop l x,t :: r=>match opF (Z.tx t) with
   | none=>.ok (x,t :: r)
   | some o=>if lvT o=l then bd (rd n (.expr (l+1)) r) fun y r=>(if l=3 then .ok (⟨6,⟨#[]⟩,0,o,[x,y],Z.ps t⟩,r) else rd n (.loop l ⟨6,⟨#[]⟩,0,o,[x,y],Z.ps t⟩) r) else .ok (x,t :: r)
def Fo (l:Int) (r:List T):Prop:=∀t r',r=t :: r'→Z.tx t≠[91]∧∀o,opF (Z.tx t)=some o→lvT o < l∨(lvT o=l∧l≠3)
def Es (ts:List T) (x:Xp) (l:Int):Prop:=∀r v,Fo Z l r→Ev (fun n=>rd Z n (.loop l x) r) v→Ev (fun n=>rd Z n (.expr l) (ts++r)) v
variable {Z}
theorem opF_lv {u:List UInt8}{o:Int}(h:opF u=some o):3≤o∧o≤15∧1≤lvT o∧lvT o≤5:=by
 have h1:=List.mem_of_find?_eq_some h
 have h2:∀o ∈ ([3,4,5,6,7,8,9,10,11,12,13,14,15]:List Int),3≤o∧o≤15∧1≤lvT o∧lvT o≤5:=by decide
 exact h2 o h1
theorem opF_sg {o:Int}(h:3≤o∧o≤15):opF (sgT o)=some o∧sgT o≠[91]:=by
 rcases o15 h with rfl | rfl | rfl | rfl | rfl | rfl | rfl | rfl | rfl | rfl | rfl | rfl | rfl <;> decide
theorem Fo.up {l m:Int}{r:List T}(h:Fo Z l r) (hm:l < m):Fo Z m r:=fun t r' e=>⟨(h t r' e).1,fun o ho=>by have:=(h t r' e).2 o ho;omega⟩
theorem Fo.of {l:Int}{t:T}{r:List T}(h:Z.tx t≠[91]) (ho:opF (Z.tx t)=none):Fo Z l (t :: r):=fun t' r' e=>by
 obtain ⟨rfl,rfl⟩:=List.cons.inj e
 exact⟨h,fun o h'=>by rw [ho] at h';cases h'⟩
theorem loop_ok {l:Int}{x:Xp}{r:List T}(h:∀t r',r=t :: r'→∀o,opF (Z.tx t)=some o→lvT o≠l):Ev (fun n=>rd Z n (.loop l x) r) (.ok (x,r)):=by
 refine Ev.succ (g:=fun _=>.ok (x,r)) (fun m=>?_) (Ev.pure _)
 match r,h with
 | [],_=>rw [rd]
 | t :: r,h =>
   rw [rd]
   cases ho:opF (Z.tx t) with
   | none=>rfl
   | some o =>
     show (if lvT o=l then _ else _)=_
     rw [if_neg (h t r rfl o ho)]
theorem Fo.stop {l m:Int}{x:Xp}{r:List T}(h:Fo Z l r) (hm:l < m):Ev (fun n=>rd Z n (.loop m x) r) (.ok (x,r)):=loop_ok fun t r' e o ho=>by have:=(h t r' e).2 o ho;omega
theorem loop6 {x:Xp}{r:List T}:Ev (fun n=>rd Z n (.loop 6 x) r) (.ok (x,r)):=loop_ok fun t r' e o ho=>by have:=opF_lv ho;omega
theorem Es.down {ts:List T}{x:Xp}{L:Int}(h:Es Z ts x L) (hL:L≤6):∀(d:Nat) (l:Int),l+d=L→Es Z ts x l:=by
 intro d
 induction d with
 | zero =>
   intro l hl
   obtain rfl:l=L:=by omega
   exact h
 | succ d ih =>
   intro l hl r v hf hv
   have h1:=ih (l+1) (by omega) r (.ok (x,r)) (hf.up (by omega)) (hf.stop (by omega))
   refine Ev.succ (g:=fun m=>bd (rd Z m (.expr (l+1)) (ts++r)) fun x r=>rd Z m (.loop l x) r) (fun m=>by rw [rd,if_neg (by omega)]) (Ev.bd h1 hv)
theorem Es.at {ts:List T}{x:Xp}{L l:Int}(h:Es Z ts x L) (hL:L≤6) (hl:l≤L):Es Z ts x l:=h.down hL (L - l).toNat l (by omega)
theorem Es.unar {ts:List T}{x:Xp}(h:Es Z ts x 6){r:List T}(hf:Fo Z 6 r):Ev (fun n=>rd Z n .unar (ts++r)) (.ok (x,r)) :=
 Ev.pred (f:=fun n=>rd Z n (.expr 6) (ts++r)) (fun m=>by rw [rd,if_pos (by omega)]) (h r _ hf loop6)
theorem Es.whole {ts:List T}{x:Xp}(h:Es Z ts x 1){t:T}{r:List T}(h1:Z.tx t≠[91]) (ho:opF (Z.tx t)=none):Ev (fun n=>rd Z n (.expr 1) (ts++t :: r)) (.ok (x,t :: r)) :=
 h (t :: r) _ (Fo.of h1 ho) (loop_ok fun t' r' e o ho'=>by
  obtain ⟨rfl,rfl⟩:=List.cons.inj e
  rw [ho] at ho';cases ho')
variable (hZ:Z.Good)
include hZ
omit hZ in
end
open Go.Lib (decDigits)
inductive Dc where
 | c (x:Cn)
 | g (x:Gl)
 | s (x:ByteArray)
 | o (x:ByteArray)
 | h (x:Cn)
 | t (x:Ta)
def dcls (P:Pg):List Dc:=P.cs.map .c++(P.gs.map .g++(P.ss.map .s++(P.os.map .o++(P.hs.map .h++P.ts.map .t))))
def dcT:Dc→List UInt8
 | .c x=>lnC [] x.s x.v
 | .g x=>lnG [] x.s x.l x.i
 | .s x=>lnS [] x
 | .o x=>lnO [] x
 | .h x=>lnH [] x.s x.v
 | .t x=>tskT x
theorem fold_flat {α:Type}{f:List UInt8→α→List UInt8}{g:α→List UInt8}(h:∀O x,f O x=O++g x):∀(l:List α) (O:List UInt8),l.foldl f O=O++l.flatMap g
 | [],O=>by simp
 | x :: l,O=>by rw [List.foldl_cons,fold_flat h l,h,List.flatMap_cons,List.append_assoc]
theorem lnG_app (O:List UInt8) (s:ByteArray) (l i:Int):lnG O s l i=O++lnG [] s l i:=by
 unfold lnG lnG2 lnG1
 split
 ·simp
 ·split <;> simp
theorem fmT_flat (P:Pg):fmT P=(dcls P).flatMap dcT:=by
 rw [fmT,fCs,fGs,fSs,fOs,fHs,fTs,fold_flat (f:=fun O t=>O++tskT t) (g:=fun t=>dcT (.t t)) (fun O x=>rfl),fold_flat (f:=fun O c=>lnH O c.s c.v) (g:=fun c=>dcT (.h c)) (fun O x=>by simp [dcT,lnH]),fold_flat (f:=lnO) (g:=fun c=>dcT (.o c)) (fun O x=>by simp [dcT,lnO]),fold_flat (f:=lnS) (g:=fun c=>dcT (.s c)) (fun O x=>by simp [dcT,lnS]),fold_flat (f:=fun O c=>lnG O c.s c.l c.i) (g:=fun c=>dcT (.g c)) (fun O x=>by simp only [dcT];exact lnG_app _ _ _ _),fold_flat (f:=fun O c=>lnC O c.s c.v) (g:=fun c=>dcT (.c c)) (fun O x=>by simp [dcT,lnC])]
 simp [dcls,List.flatMap_append,List.flatMap_map,List.append_assoc]
section
variable {T:Type}(Z:Kz T)
end
def stCn (x:Cn):Cn:=⟨x.s,x.v,0⟩
def stGl (x:Gl):Gl:=⟨x.s,x.l,x.i,0⟩
def stTa (x:Ta):Ta:=⟨x.s,x.p,x.d,x.c,x.m,x.w,stSs x.b,0⟩
def stD:Dc→Dc
 | .c x=>.c (stCn x)
 | .g x=>.g (stGl x)
 | .s x=>.s x
 | .o x=>.o x
 | .h x=>.h (stCn x)
 | .t x=>.t (stTa x)
section
variable {T:Type}{Z:Kz T}(hZ:Z.Good)
include hZ
end
theorem infoCnS:(Tryz.prog.info? 60).map (fun i=>(i.zero,i.size,i.bytes))=some (some (.agg #[.string ⟨#[]⟩,.int .i16 0,.int .i64 0]),3,32):=by kernel_rfl
theorem infoGlS:(Tryz.prog.info? 62).map (fun i=>(i.zero,i.size,i.bytes))=some (some (.agg #[.string ⟨#[]⟩,.int .i64 0,.int .i16 0,.int .i64 0]),4,40):=by kernel_rfl
theorem infoChS:(Tryz.prog.info? 64).map (fun i=>(i.zero,i.size,i.bytes))=some (some (.agg #[.string ⟨#[]⟩,.int .i64 0,.int .i64 0]),3,32):=by kernel_rfl
theorem infoTaS:(Tryz.prog.info? 42).map (fun i=>(i.zero,i.size,i.bytes))=some (some (.agg #[.string ⟨#[]⟩,.int .i64 0,.int .i64 0,.string ⟨#[]⟩,.string ⟨#[]⟩,.int .i64 0,.slice none 0 0,.int .i64 0]),8,104):=by kernel_rfl
def stP (P:Pg):Pg:=⟨P.cs.map stCn,P.gs.map stGl,P.ss,P.os,P.hs.map stCn,P.ts.map stTa⟩
theorem map_snoc {α β:Type}{f:α→β}{l:List α}{j:Nat}{x:α}(h:l.take (j+1)=l.take j++[x]):(l.take (j+1)).map f=(l.take j).map f++[f x]:=by
 rw [h,List.map_append];rfl
theorem Chg.belowT {S:Nat→Prop}{a b c:World}{N:Nat}(h:Chg a b S) (hN:a.heap.size=N) (h2:Below N b c):Chg a c S :=
 ⟨h2.os.trans h.os,h2.tape.trans h.tape,h2.output.trans h.output,Nat.le_trans h.size h2.size,fun k hk hs=>(h2.block k (hN ▸ hk)).trans (h.block k hk hs)⟩
theorem Grew.stc {a w:World}(h:Grew a w){S:Nat}(hS:a.heap.size≤S) (k:Nat) (v:Value):Grew a (w.setCell ⟨S,k,none⟩ v):=Below.setCell h (p:=⟨S,k,none⟩) hS _
def NewF {α:Type}(k:Nat) (enc:α→List Value) (S U:Nat) (p:Option Addr) (c:Nat) (l:List α) (w:World):Prop:=Rw k enc w p c l∧(0 < l.length→∀a,p=some a→S≤a.block∧a.block < w.heap.size∧a.block≠U)
theorem NewF.chgC {α:Type}{k:Nat}{enc:α→List Value}{S U:Nat}{p:Option Addr}{c:Nat}{l:List α}{w w':World}{C:Nat→Prop}(h:NewF k enc S U p c l w) (hc:Chg w w' C) (hC:∀b,S≤b→b≠U→¬ C b):NewF k enc S U p c l w':=by
 obtain ⟨h1,h2⟩:=h
 refine⟨?_,fun hn a ha=>?_⟩
 ·by_cases hn:0 < l.length
  ·exact h1.chg hc (fun a ha=>hC _ (h2 hn a ha).1 (h2 hn a ha).2.2)
  ·obtain rfl:=List.eq_nil_of_length_eq_zero (by omega:l.length=0)
   exact⟨RdL.nil _ _ _ _ _ h1.max,h1.bare⟩
 ·have h3:=h2 hn a ha
  exact⟨h3.1,Nat.lt_of_lt_of_le h3.2.1 hc.size,h3.2.2⟩
theorem NewF.chg {α:Type}{k:Nat}{enc:α→List Value}{S U:Nat}{p:Option Addr}{c:Nat}{l:List α}{w w':World}(h:NewF k enc S U p c l w) (hc:Chg w w' (fun b=>b=U)):NewF k enc S U p c l w':=h.chgC hc (fun b _ h e=>h e)
theorem NewF.grew {α:Type}{k:Nat}{enc:α→List Value}{S U:Nat}{p:Option Addr}{c:Nat}{l:List α}{w w':World}(h:NewF k enc S U p c l w) (hc:Grew w w'):NewF k enc S U p c l w':=h.chg (Chg.of_grew hc _)
theorem NewF.pg {α:Type}{k:Nat}{enc:α→List Value}{S U:Nat}{p:Option Addr}{c:Nat}{l:List α}{w:World}(h:NewF k enc S U p c l w){n:Nat}(hn:n=l.length){S':Nat}(hS:S'≤S):InB (Fresh S' w.heap.size) p n∧InN FlatAt k enc (Fresh S' w.heap.size) w p n c l:=by
 subst hn
 exact⟨fun hn a ha=>⟨Nat.le_trans hS (h.2 hn a ha).1,(h.2 hn a ha).2.1⟩,rfl,l,h.1,rfl⟩
theorem NewF.of_own {α:Type}{k:Nat}{enc:α→List Value}(E:Enc k enc){S U N:Nat}{e:TypeId}{B:Nat→Prop}{p:Option Addr}{n c:Nat}{l:List α}{w:World}(h:OwN FlatAt k enc N B w e p n c l) (hU:U < N) (hS:S≤U):NewF k enc S U p c l w:=by
 have hp:=h.place (hangsF E)
 obtain ⟨h1,L,h2,h3⟩:=h
 rw [FlatAt] at h3
 subst h3
 exact⟨(h2.rd E).2,fun _ a ha=>⟨by have:=(hp a ha).1;omega,(hp a ha).2,by have:=(hp a ha).1;omega⟩⟩
theorem row_ne {w:World}{p:Option Addr}{c U:Nat}{l:List ByteArray}(h:Rw 1 strc w p c l) (hb:Blk U [.slice none 0 0,.slice none 0 0,.slice none 0 0,.slice none 0 0,.slice none 0 0,.slice none 0 0] 28 w) (hn:0 < l.length):∀a,p=some a→a.block≠U:=by
 intro a ha he
 obtain ⟨b,o,rfl,hc⟩:=h.rd.cells hn
 obtain rfl:=Option.some.inj ha
 have h1:=hc 0 _ (List.getElem?_eq_getElem hn) 0 _ rfl
 rw [show b=U from he,hb.cell] at h1
 rcases ho:o+0 * 1+0 with _ | _ | _ | _ | _ | _ | k <;> rw [ho] at h1 <;> simp at h1
def StrN (S:Nat) (l:List ByteArray) (v:Value) (w:World):Prop:=∃p_ c_,v=.slice p_ l.length c_∧Rw 1 strc w p_ c_ l∧(0 < l.length→∀a,p_=some a→S≤a.block∧a.block < w.heap.size)
theorem StrN.grew {S:Nat}{l:List ByteArray}{v:Value}{w w':World}(h:StrN S l v w) (hg:Grew w w'):StrN S l v w':=by
 obtain ⟨p_,c_,h1,h2,h3⟩:=h
 exact⟨p_,c_,h1,h2.kept hg,fun hn a ha=>⟨(h3 hn a ha).1,Nat.lt_of_lt_of_le (h3 hn a ha).2 hg.sz⟩⟩
theorem tat1 {B:Nat→Prop}{w:World}{s h m:ByteArray}{i d n q:Int}{b:List Sm}{p:Option Addr}{c:Nat}(hz:s.size≤1048576∧h.size≤1048576∧m.size≤1048576) (hb:SL B w p c b):TsAt B w [⟨s,i,d,h,m,n,b,q⟩] [⟨s,i,d,h,m,n,p,b.length,c,q⟩]:=by
 rw [TsAt]
 exact⟨_,[],rfl,⟨p,c,rfl,hz,hb⟩,by rw [TsAt]⟩
theorem tl_own {wr:World}{S N:Nat}{p1:Option Addr}{n1 c1:Nat}{l:List Ta}(h:OwN TsAt 8 tdc N (Aside N wr.heap.size p1) wr 42 p1 n1 c1 l) (hS:S≤N):TL (Fresh S wr.heap.size) wr p1 c1 l:=by
 refine⟨fun _ a ha=>?_,?_⟩
 ·have:=h.place hangsT a ha
  exact⟨by omega,by omega⟩
 ·obtain ⟨_,L,h3,h4⟩:=h.mono hangsT (B':=Fresh S wr.heap.size) fun b hb=>⟨by have:=hb.1;omega,hb.2.1⟩
  exact⟨L,(h3.rd encTd).2,h4⟩
theorem PgIn.of_new {w:World}{S U:Nat}{P:Pg}{B:Nat→Prop}{w0:World}{cp0 gp0 sp0 op0 hp0 tp0:Option Addr}{cc0 gc0 sc0 oc0 hc0 tc0:Nat}(h0:PgIn B w0 P cp0 gp0 sp0 op0 hp0 tp0 cc0 gc0 sc0 oc0 hc0 tc0){cp gp sp op hp tp:Option Addr}{cc gc sc oc hc tc:Nat}
 (h1:NewF 3 cnc S U cp cc (P.cs.map stCn) w) (h2:NewF 4 glc S U gp gc (P.gs.map stGl) w) (h3:NewF 1 strc S U sp sc P.ss w) (h4:NewF 1 strc S U op oc P.os w) (h5:NewF 3 chc S U hp hc (P.hs.map stCn) w) (h6:TL (Fresh S w.heap.size) w tp tc (P.ts.map stTa)){S':Nat}(hS:S'≤S) :
 PgIn (Fresh S' w.heap.size) w (stP P) cp gp sp op hp tp cc gc sc oc hc tc:=by
 refine⟨h1.pg rfl hS,h2.pg rfl hS,h3.pg rfl hS,h4.pg rfl hS,h5.pg rfl hS,h6.keep (fun b hb=>⟨Nat.le_trans hS hb.1,hb.2⟩) (fun _ _ _=>rfl),fun c hc=>?_,fun c hc=>?_,h0.sz.2.2.1,h0.sz.2.2.2.1,fun c hc=>?_⟩
 ·obtain ⟨x,hx,rfl⟩:=List.mem_map.1 hc
  exact h0.sz.1 x hx
 ·obtain ⟨x,hx,rfl⟩:=List.mem_map.1 hc
  exact h0.sz.2.1 x hx
 ·obtain ⟨x,hx,rfl⟩:=List.mem_map.1 hc
  exact h0.sz.2.2.2.2 x hx
section
variable {dst:Option Tmp}{ty:TypeId}{pos:String}{after:Array Edge}{g:Option (Nat × Bool)}{a:Act}{w:World}{T:Value→World→Prop}
theorem rs_bld_28_23 {x2 x3:Nat}{v2_0p:Option Addr}{v2_0n v2_0c:Nat}{v3_0p:Option Addr}{v3_0n v3_0c:Nat}(hx2:a.eval (.tmp x2)=.slice v2_0p v2_0n v2_0c) (hx3:a.eval (.tmp x3)=.slice v3_0p v3_0n v3_0c) (h:T (.agg #[.slice none 0 0,.slice none 0 0,.slice v2_0p v2_0n v2_0c,.slice v3_0p v3_0n v3_0c,.slice none 0 0,.slice none 0 0]) w):Runs Tryz.prog ⟨dst,.build 28 #[(2,.tmp x2),(3,.tmp x3)],ty,pos,after,g⟩ a w T:=by
 rw [slot_eval,← slot_get] at hx2 hx3
 refine Runs.value (v:=.agg #[.slice none 0 0,.slice none 0 0,.slice v2_0p v2_0n v2_0c,.slice v3_0p v3_0n v3_0c,.slice none 0 0,.slice none 0 0]) (w':=w) ?_ h
 simp only [execOp]
 go_simp
theorem rs_fld_28_2 {x:Operand}{S o:Nat}(hx:a.eval x=.pointer (some ⟨S,o,none⟩)) (h:T (.pointer (some ⟨S,o+2,none⟩)) w):Runs Tryz.prog ⟨dst,.fieldAddr 28 x 2,ty,pos,after,g⟩ a w T:=by
 refine Runs.value (v:=.pointer (some ⟨S,o+2,none⟩)) (w':=w) ?_ h
 simp only [execOp,hx]
 go_simp
theorem rs_fld_28_3 {x:Operand}{S o:Nat}(hx:a.eval x=.pointer (some ⟨S,o,none⟩)) (h:T (.pointer (some ⟨S,o+3,none⟩)) w):Runs Tryz.prog ⟨dst,.fieldAddr 28 x 3,ty,pos,after,g⟩ a w T:=by
 refine Runs.value (v:=.pointer (some ⟨S,o+3,none⟩)) (w':=w) ?_ h
 simp only [execOp,hx]
 go_simp
theorem rs_ld_24 {x:Operand}{q:Addr}{v:Value}(hx:a.eval x=.pointer (some q)) (hc:w.cell? q=some v) (h:T v w):Runs Tryz.prog ⟨dst,.load 24 x,ty,pos,after,g⟩ a w T:=by
 refine Runs.value (v:=v) (w':=w) ?_ h
 simp only [execOp,hx]
 go_simp
theorem rs_alloc_28 (h:T (.pointer (some ⟨w.heap.size,0,none⟩)) (w.alloc (.cells #[.slice none 0 0,.slice none 0 0,.slice none 0 0,.slice none 0 0,.slice none 0 0,.slice none 0 0] 28))):Runs Tryz.prog ⟨dst,.alloc 28,ty,pos,after,g⟩ a w T:=by
 refine Runs.value (v:=.pointer (some ⟨w.heap.size,0,none⟩)) (w':=w.alloc (.cells #[.slice none 0 0,.slice none 0 0,.slice none 0 0,.slice none 0 0,.slice none 0 0,.slice none 0 0] 28)) ?_ h
 simp only [execOp]
 go_simp
theorem rs_st_28 {x y:Operand}{S o:Nat}{v0p:Option Addr}{v0n v0c:Nat}{v1p:Option Addr}{v1n v1c:Nat}{v2p:Option Addr}{v2n v2c:Nat}{v3p:Option Addr}{v3n v3c:Nat}{v4p:Option Addr}{v4n v4c:Nat}{v5p:Option Addr}{v5n v5c:Nat}{u0 u1 u2 u3 u4 u5:Value}(hx:a.eval x=.pointer (some ⟨S,o,none⟩)) (hy:a.eval y=.agg #[.slice v0p v0n v0c,.slice v1p v1n v1c,.slice v2p v2n v2c,.slice v3p v3n v3c,.slice v4p v4n v4c,.slice v5p v5n v5c]) (h0:w.cell? ⟨S,o,none⟩=some u0) (h1:w.cell? ⟨S,o+1,none⟩=some u1) (h2:w.cell? ⟨S,o+2,none⟩=some u2) (h3:w.cell? ⟨S,o+3,none⟩=some u3) (h4:w.cell? ⟨S,o+4,none⟩=some u4) (h5:w.cell? ⟨S,o+5,none⟩=some u5) (hf:∀i,w.frozen? ⟨S,i,none⟩=false) (h:T undef ((((((w.setCell ⟨S,o,none⟩ (.slice v0p v0n v0c)).setCell ⟨S,o+1,none⟩ (.slice v1p v1n v1c)).setCell ⟨S,o+2,none⟩ (.slice v2p v2n v2c)).setCell ⟨S,o+3,none⟩ (.slice v3p v3n v3c)).setCell ⟨S,o+4,none⟩ (.slice v4p v4n v4c)).setCell ⟨S,o+5,none⟩ (.slice v5p v5n v5c))):Runs Tryz.prog ⟨dst,.store 28 x y,ty,pos,after,g⟩ a w T:=by
 have hf0:=hf o
 have hf1:=hf (o+1)
 have hf2:=hf (o+2)
 have hf3:=hf (o+3)
 have hf4:=hf (o+4)
 have hf5:=hf (o+5)
 refine Runs.skip (w':=((((((w.setCell ⟨S,o,none⟩ (.slice v0p v0n v0c)).setCell ⟨S,o+1,none⟩ (.slice v1p v1n v1c)).setCell ⟨S,o+2,none⟩ (.slice v2p v2n v2c)).setCell ⟨S,o+3,none⟩ (.slice v3p v3n v3c)).setCell ⟨S,o+4,none⟩ (.slice v4p v4n v4c)).setCell ⟨S,o+5,none⟩ (.slice v5p v5n v5c))) ?_ h
 simp only [execOp,hx,hy]
 go_simp
theorem rs_ret_c28 {fn:Func}{p0:Tmp}(h:fn.results=#[.cell p0 28]){tmps:Array Value}{w:World}{S0:Nat}{v0_0 v0_1 v0_2 v0_3 v0_4 v0_5:Value}{R:Ending→World→Prop}(hp0:tmps.getD p0 undef=.pointer (some ⟨S0,0,none⟩)) (h0_0:w.cell? ⟨S0,0,none⟩=some v0_0) (h0_1:w.cell? ⟨S0,1,none⟩=some v0_1) (h0_2:w.cell? ⟨S0,2,none⟩=some v0_2) (h0_3:w.cell? ⟨S0,3,none⟩=some v0_3) (h0_4:w.cell? ⟨S0,4,none⟩=some v0_4) (h0_5:w.cell? ⟨S0,5,none⟩=some v0_5) (hR:R (.returned (.agg #[v0_0,v0_1,v0_2,v0_3,v0_4,v0_5])) w):bodyPost Tryz.prog fn R .ret { tmps:=tmps,defers:=[] } w:=by
 refine bodyPost_ret (v:=.agg #[v0_0,v0_1,v0_2,v0_3,v0_4,v0_5]) ?_ rfl hR
 rw [Array.getD_eq_getD_getElem?] at hp0
 simp [results,h,hp0,h0_0,h0_1,h0_2,h0_3,h0_4,h0_5,go_sem]
end
set_option maxHeartbeats 16000000 in
theorem stripP_any (P:Pg) (B:Nat→Prop) (w:World) (cp gp sp op hp tp:Option Addr) (cc gc sc oc hc tc:Nat) (hpg:PgIn B w P cp gp sp op hp tp cc gc sc oc hc tc) (hn:P.cs.length≤1048576∧P.gs.length≤1048576∧P.ss.length≤1048576∧P.os.length≤1048576∧P.hs.length≤1048576∧P.ts.length≤1048576∧zT P.ts≤1048576) :
 Calls Tryz.prog 36 #[pgv P cp gp sp op hp tp cc gc sc oc hc tc] w fun e w'=>∃cp' gp' sp' op' hp' tp' cc' gc' sc' oc' hc' tc',e=.returned (.agg #[.slice cp' P.cs.length cc',.slice gp' P.gs.length gc',.slice sp' P.ss.length sc',.slice op' P.os.length oc',.slice hp' P.hs.length hc',.slice tp' P.ts.length tc'])∧PgIn (Fresh w.heap.size w'.heap.size) w' (stP P) cp' gp' sp' op' hp' tp' cc' gc' sc' oc' hc' tc'∧Grew w w':=by
 obtain ⟨hcaps,hmaxs⟩:=hpg.caps
 have HPG:=zh hpg
 obtain ⟨cs,gs,ss,os,hs,ts⟩:=P
 have HXc:Hid (InN FlatAt 3 cnc B w cp cs.length cc cs):=zh hpg.cs.2
 have HXg:Hid (InN FlatAt 4 glc B w gp gs.length gc gs):=zh hpg.gs.2
 have HXh:Hid (InN FlatAt 3 chc B w hp hs.length hc hs):=zh hpg.hs.2
 have HXt:Hid (TL B w tp tc ts):=zh hpg.ts
 have HSS:Hid (Rw 1 strc w sp sc ss):=zh (by obtain ⟨_,L,h1,h2⟩:=hpg.ss.2;rw [FlatAt] at h2;subst h2;exact h1)
 have HOS:Hid (Rw 1 strc w op oc os):=zh (by obtain ⟨_,L,h1,h2⟩:=hpg.os.2;rw [FlatAt] at h2;subst h2;exact h1)
 have HZc:Hid (∀c ∈ cs,c.s.size≤1048576∧c.v≤32767):=zh hpg.sz.1
 have HZg:Hid (∀c ∈ gs,c.s.size≤1048576∧c.i≤32767):=zh hpg.sz.2.1
 have HZh:Hid (∀c ∈ hs,c.s.size≤1048576):=zh hpg.sz.2.2.2.2
 have HLS:Hid (cs.length≤1048576∧gs.length≤1048576∧ss.length≤1048576∧os.length≤1048576∧hs.length≤1048576∧ts.length≤1048576∧zT ts≤1048576):=zh hn
 dsimp only at hcaps
 show Calls Tryz.prog 36 #[.agg #[.slice cp cs.length cc,.slice gp gs.length gc,.slice sp ss.length sc,.slice op os.length oc,.slice hp hs.length hc,.slice tp ts.length tc]] w fun e w'=>∃cp' gp' sp' op' hp' tp' cc' gc' sc' oc' hc' tc',e=.returned (.agg #[.slice cp' (⟨cs,gs,ss,os,hs,ts⟩:Pg).cs.length cc',.slice gp' (⟨cs,gs,ss,os,hs,ts⟩:Pg).gs.length gc',.slice sp' (⟨cs,gs,ss,os,hs,ts⟩:Pg).ss.length sc',.slice op' (⟨cs,gs,ss,os,hs,ts⟩:Pg).os.length oc',.slice hp' (⟨cs,gs,ss,os,hs,ts⟩:Pg).hs.length hc',.slice tp' (⟨cs,gs,ss,os,hs,ts⟩:Pg).ts.length tc'])∧PgIn (Fresh w.heap.size w'.heap.size) w' (stP (⟨cs,gs,ss,os,hs,ts⟩:Pg)) cp' gp' sp' op' hp' tp' cc' gc' sc' oc' hc' tc'∧Grew w w'
 clear hpg hn
 go_enter Tryz.func36,Tryz.ntmps36
 go_upto_region 1 with fail
 have hb1:Blk w.heap.size [.slice cp cs.length cc,.slice gp gs.length gc,.slice sp ss.length sc,.slice op os.length oc,.slice hp hs.length hc,.slice tp ts.length tc] 28 ((w.alloc (Obj.cells #[.slice cp cs.length cc,.slice gp gs.length gc,.slice sp ss.length sc,.slice op os.length oc,.slice hp hs.length hc,.slice tp ts.length tc] 28)).alloc (Obj.cells #[.slice none 0 0,.slice none 0 0,.slice none 0 0,.slice none 0 0,.slice none 0 0,.slice none 0 0] 28)):=(Blk.new w _ _).grew ((Grew.refl _).alloc _)
 have hb2:Blk (w.heap.size+1) [.slice none 0 0,.slice none 0 0,.slice none 0 0,.slice none 0 0,.slice none 0 0,.slice none 0 0] 28 ((w.alloc (Obj.cells #[.slice cp cs.length cc,.slice gp gs.length gc,.slice sp ss.length sc,.slice op os.length oc,.slice hp hs.length hc,.slice tp ts.length tc] 28)).alloc (Obj.cells #[.slice none 0 0,.slice none 0 0,.slice none 0 0,.slice none 0 0,.slice none 0 0,.slice none 0 0] 28)):=by
  have h:=Blk.new (w.alloc (Obj.cells #[.slice cp cs.length cc,.slice gp gs.length gc,.slice sp ss.length sc,.slice op os.length oc,.slice hp hs.length hc,.slice tp ts.length tc] 28)) [.slice none 0 0,.slice none 0 0,.slice none 0 0,.slice none 0 0,.slice none 0 0,.slice none 0 0] 28
  rw [alloc_sz] at h
  exact h
 have hg1:Grew w ((w.alloc (Obj.cells #[.slice cp cs.length cc,.slice gp gs.length gc,.slice sp ss.length sc,.slice op os.length oc,.slice hp hs.length hc,.slice tp ts.length tc] 28)).alloc (Obj.cells #[.slice none 0 0,.slice none 0 0,.slice none 0 0,.slice none 0 0,.slice none 0 0,.slice none 0 0] 28)):=((Grew.refl w).alloc _).alloc _
 have hs1:((w.alloc (Obj.cells #[.slice cp cs.length cc,.slice gp gs.length gc,.slice sp ss.length sc,.slice op os.length oc,.slice hp hs.length hc,.slice tp ts.length tc] 28)).alloc (Obj.cells #[.slice none 0 0,.slice none 0 0,.slice none 0 0,.slice none 0 0,.slice none 0 0,.slice none 0 0] 28)).heap.size=w.heap.size+2:=by rw [alloc_sz,alloc_sz]
 obtain ⟨S,hS⟩:∃S,w.heap.size=S:=⟨_,rfl⟩
 have HS0:=zh hS
 rw [hS] at hb1 hb2 hs1 ⊢
 clear hS
 generalize ((w.alloc (Obj.cells #[.slice cp cs.length cc,.slice gp gs.length gc,.slice sp ss.length sc,.slice op os.length oc,.slice hp hs.length hc,.slice tp ts.length tc] 28)).alloc (Obj.cells #[.slice none 0 0,.slice none 0 0,.slice none 0 0,.slice none 0 0,.slice none 0 0,.slice none 0 0] 28))=V1 at hb1 hb2 hg1 hs1 ⊢
 have HBA:=zh hb1
 have HBZ:=zh hb2
 have HG1:=zh hg1
 have HW1:=zh hs1
 have hba:=hb1.grew (Grew.refl V1).drw
 have d2:Atv ⟨S,2,none⟩ (.slice sp ss.length sc) V1.drew:=hba.atv 2 rfl
 have d3:Atv ⟨S,3,none⟩ (.slice op os.length oc) V1.drew:=hba.atv 3 rfl
 clear hb1 hb2 hg1 hs1 hba
 refine wp_grew_tail 10 [some 12,some 13,some 14,some 15,some 16,some 17,some 18,some 19,some 20,some 3] (Zfb (Zfa (Zta (Zfd (Ztd (Zta (Zfg (Zfg (Zfa []))))))))) [fun v _=>∃q_,v=.slice (some ⟨q_,0,none⟩) 0 0,fun v _=>v=.pointer (some ⟨S,2,none⟩),fun v _=>v=.slice sp ss.length sc,fun v w=>StrN (S+2) ss v w,fun v _=>∃q_,v=.slice (some ⟨q_,0,none⟩) 0 0,fun v _=>v=.pointer (some ⟨S,3,none⟩),fun v _=>v=.slice op os.length oc,fun v w=>StrN (S+2) os v w,fun v w=>∃a b,v=.agg #[.slice none 0 0,.slice none 0 0,a,b,.slice none 0 0,.slice none 0 0]∧StrN (S+2) ss a w∧StrN (S+2) os b w,fun v w=>∃U,v=.pointer (some ⟨U,0,none⟩)∧S+2≤U∧Blk U [.slice none 0 0,.slice none 0 0,.slice none 0 0,.slice none 0 0,.slice none 0 0,.slice none 0 0] 28 w] (by kernel_rfl) (by kernel_rfl) (by kernel_rfl) rfl ?_ ⟨?_,?_,?_,?_,?_,?_,?_,?_,?_,?_,trivial⟩ ?_
 ·exact⟨Zi,Zi,Zi,fun _ _ _ hg h=>h.grew hg,Zi,Zi,Zi,fun _ _ _ hg h=>h.grew hg,fun _ _ _ hg ⟨a,b,h1,h2,h3⟩=>⟨a,b,h1,h2.grew hg,h3.grew hg⟩,fun _ _ _ hg ⟨U,h1,h2,h3⟩=>⟨U,h1,h2,h3.grew hg⟩,trivial⟩
 ·intro u w hR hd;exact runs_bs0s ⟨(Grew.refl w).alloc _,_,rfl⟩
 ·intro u w hR hd;exact rs_fld_28_2 (ev rfl) Zr
 ·intro u w hR hd;exact rs_ld_24 (ev (hd.1 rfl)) (d2.kept hR) Zr
 ·intro u w hR hd
  obtain ⟨q_,hq_⟩:=hd.1 rfl
  exact runs_append_lit0 encStr 9 (.string ⟨#[]⟩) 16 Tryz.underlying24 infoStr rfl q_ (ev hq_) sp ss.length sc ss (ev (hd.2.1 rfl)) rfl (HSS.out.kept (HG1.out.trans ((Grew.refl _).drw.trans hR))) (by have:=HLS.out;omega) (by have:=HLS.out;omega) (fun p_ c_ w_ h1 h2 h3=>⟨h2,p_,c_,rfl,h1,fun hn a ha=>⟨by have h4:=(h3 hn a ha).1;have h5:=hR.sz;have h6:=HW1.out;have h7:V1.drew.heap.size=V1.heap.size:=rfl;omega,(h3 hn a ha).2⟩⟩)
 ·intro u w hR hd;exact runs_bs0s ⟨(Grew.refl w).alloc _,_,rfl⟩
 ·intro u w hR hd;exact rs_fld_28_3 (ev rfl) Zr
 ·intro u w hR hd;exact rs_ld_24 (ev (hd.1 rfl)) (d3.kept hR) Zr
 ·intro u w hR hd
  obtain ⟨q_,hq_⟩:=hd.1 rfl
  exact runs_append_lit0 encStr 9 (.string ⟨#[]⟩) 16 Tryz.underlying24 infoStr rfl q_ (ev hq_) op os.length oc os (ev (hd.2.1 rfl)) rfl (HOS.out.kept (HG1.out.trans ((Grew.refl _).drw.trans hR))) (by have:=HLS.out;omega) (by have:=HLS.out;omega) (fun p_ c_ w_ h1 h2 h3=>⟨h2,p_,c_,rfl,h1,fun hn a ha=>⟨by have h4:=(h3 hn a ha).1;have h5:=hR.sz;have h6:=HW1.out;have h7:V1.drew.heap.size=V1.heap.size:=rfl;omega,(h3 hn a ha).2⟩⟩)
 ·intro u w hR hd
  obtain ⟨pa_,ca_,ha_,ra_⟩:=hd.1 rfl
  obtain ⟨pb_,cb_,hb_,rb_⟩:=hd.2.1 rfl
  exact rs_bld_28_23 (ev ha_) (ev hb_) ⟨Grew.refl _,_,_,rfl,⟨pa_,ca_,rfl,ra_⟩,⟨pb_,cb_,rfl,rb_⟩⟩
 ·intro u w hR hd;exact rs_alloc_28 ⟨(Grew.refl w).alloc _,_,rfl,by have h1:=hR.sz;have h2:=HW1.out;have h7:V1.drew.heap.size=V1.heap.size:=rfl;omega,Blk.new w _ _⟩
 ·intro u W hR hh
  obtain ⟨U,hU,hUS,hUb⟩:=hh 9 (by decide)
  obtain ⟨va_,vb_,h20,⟨sq,sk,rfl,hs1,hs2⟩,⟨oq,ok,rfl,ho1,ho2⟩⟩:=hh 8 (by decide)
  refine wpAny_one (i:=10) none (by kernel_rfl) rfl rfl rfl (rs_st_28 (S:=U) (o:=0) (ev hU) (ev h20) (hUb.atv 0 rfl) (hUb.atv 1 rfl) (hUb.atv 2 rfl) (hUb.atv 3 rfl) (hUb.atv 4 rfl) (hUb.atv 5 rfl) hUb.free ?_)
  refine wpAny_done (by kernel_rfl) ?_ _
  have hGW:Grew w W:=HG1.out.trans ((Grew.refl _).drw.trans hR)
  have hn1:=fun hn=>row_ne hs1 hUb hn
  have hn2:=fun hn=>row_ne ho1 hUb hn
  have hB3:=(((((hUb.set 0 (.slice none 0 0)).set 1 (.slice none 0 0)).set 2 (.slice sq ss.length sk)).set 3 (.slice oq os.length ok)).set 4 (.slice none 0 0)).set 5 (.slice none 0 0)
  simp only [zz6,zz5] at hB3
  have hC3:=(((((Chg.refl W (fun k=>k=U)).then_set ⟨U,0,none⟩ (.slice none 0 0) rfl).then_set ⟨U,1,none⟩ (.slice none 0 0) rfl).then_set ⟨U,2,none⟩ (.slice sq ss.length sk) rfl).then_set ⟨U,3,none⟩ (.slice oq os.length ok) rfl).then_set ⟨U,4,none⟩ (.slice none 0 0) rfl |>.then_set ⟨U,5,none⟩ (.slice none 0 0) rfl
  have HBA1:=HBA.out.grew ((Grew.refl _).drw.trans hR)
  have HBZ1:=HBZ.out.grew ((Grew.refl _).drw.trans hR)
  simp only [Act.put,mixA,mixL,zz9,zz0,zz4,zz6,zz5]
  have h3':u 3=.pointer (some ⟨U,0,none⟩):=hU
  rw [h3']
  generalize hW:World.setCell (World.setCell (World.setCell (World.setCell (World.setCell (World.setCell W _ _) _ _) _ _) _ _) _ _) _ _=W0
  replace hB3:Blk U [.slice none 0 0,.slice none 0 0,.slice sq ss.length sk,.slice oq os.length ok,.slice none 0 0,.slice none 0 0] 28 W0:=hW ▸ hB3
  replace hC3:Chg W W0 (fun k=>k=U):=hW ▸ hC3
  clear hW h3' h20 hh
  have HUS:Hid (S+2≤U):=zh hUS
  have HGR:Hid (Grew w W0):=zh (grew_lift hGW hC3 (fun k hk=>by have:=HS0.out;omega))
  have HSN:Hid (NewF 1 strc (S+2) U sq sk ss W0):=zh ((show NewF 1 strc (S+2) U sq sk ss W from ⟨hs1,fun hn a ha=>⟨(hs2 hn a ha).1,(hs2 hn a ha).2,hn1 hn a ha⟩⟩).chg hC3)
  have HON:Hid (NewF 1 strc (S+2) U oq ok os W0):=zh ((show NewF 1 strc (S+2) U oq ok os W from ⟨ho1,fun hn a ha=>⟨(ho2 hn a ha).1,(ho2 hn a ha).2,hn2 hn a ha⟩⟩).chg hC3)
  have HBU:Hid (Blk U [.slice none 0 0,.slice none 0 0,.slice sq ss.length sk,.slice oq os.length ok,.slice none 0 0,.slice none 0 0] 28 W0):=zh hB3
  replace HBA:Hid (Blk S [.slice cp cs.length cc,.slice gp gs.length gc,.slice sp ss.length sc,.slice op os.length oc,.slice hp hs.length hc,.slice tp ts.length tc] 28 W0):=zh (HBA1.chg hC3 (fun e=>by omega))
  replace HBZ:Hid (Blk (S+1) [.slice none 0 0,.slice none 0 0,.slice none 0 0,.slice none 0 0,.slice none 0 0,.slice none 0 0] 28 W0):=zh (HBZ1.chg hC3 (fun e=>by omega))
  have hcq:=And.intro hs1.cap (And.intro hs1.max (And.intro ho1.cap ho1.max))
  clear hB3 hC3 HBA1 HBZ1 hUb hU hUS hs1 hs2 ho1 ho2 hn1 hn2 hR hGW HG1 HW1
  obtain ⟨N0,hN0⟩:∃N,W0.heap.size=N:=⟨_,rfl⟩
  have HN0:=zh hN0
  have HUN0:Hid (U < N0):=zh (hN0 ▸ HBU.out.lt)
  clear hN0
  have a0:=HBA.out.cell 0
  have a1:=HBA.out.cell 1
  have a2:=HBA.out.cell 2
  have a3:=HBA.out.cell 3
  have a4:=HBA.out.cell 4
  have a5:=HBA.out.cell 5
  simp only [zz7,zz8] at a0 a1 a2 a3 a4 a5
  go_wp2
  go_loopg [5,24] cs.length (fun gg v5 iv wr=>∃(j:Nat) (cq:Option Addr) (n1 ck:Nat),iv=.int .i64 (j:Int)∧j≤cs.length∧gg=cs.length - j∧Hid (OwN FlatAt 3 cnc N0 (fun _=>False) wr 60 cq n1 ck ((cs.take j).map stCn))∧Hid (Blk U [.slice cq n1 ck,.slice none 0 0,.slice sq ss.length sk,.slice oq os.length ok,.slice none 0 0,.slice none 0 0] 28 wr)∧Hid (Chg W0 wr (fun k=>k=U)))
  case atStart=>exact⟨0,none,0,0,rfl,Nat.zero_le _,rfl,zh (OwN.nil (hangsF encCn)),HBU,zh (Chg.refl _ _)⟩
  case round =>
   obtain ⟨j,cq,n1,ck,rfl,hj,rfl,HR,HB,HC⟩:=hrel
   have HG:Hid (Grew w wr):=zh (grew_lift HGR.out HC.out (fun k hk=>by have:=HUS.out;have:=HS0.out;omega))
   clear a0 a1 a2 a3 a4 a5
   by_cases hlt:j < cs.length
   ·have HNL:Hid (n1≤1048576):=zh (by have h1:=HR.out.len;rw [List.length_map,List.length_take] at h1;have:=HLS.out;omega)
    obtain ⟨b1,o1,rfl,hcc⟩:=HXc.out.getF j hlt
    have hm:=List.getElem_mem hlt
    have htk:=List.take_succ_eq_append_getElem hlt
    have HLT:=zh (Nat.succ_le_of_lt hlt)
    have hsz0:=HZc.out _ hm
    generalize cs[j]=x at hcc hm htk hsz0
    obtain ⟨s,z,q⟩:=x
    replace hcc:∀i_ u_,([.string s,.int .i16 z,.int .i64 q]:List Value)[i_]?=some u_→wr.cell? ⟨b1,o1+j * 3+i_,none⟩=some u_:=fun i_ u_ h_=>Atv.kept (hcc i_ u_ h_) HG.out
    have e0:wr.cell? ⟨b1,o1+j * 3,none⟩=some (.string s):=by simpa using hcc 0 _ rfl
    have e1:wr.cell? ⟨b1,o1+j * 3+1,none⟩=some (.int .i16 z):=hcc 1 _ rfl
    have e2:wr.cell? ⟨b1,o1+j * 3+2,none⟩=some (.int .i64 q):=hcc 2 _ rfl
    have HTK:=zh htk
    have HSZ_:Hid (s.size≤1048576):=zh (by first | exact hsz0.1 | exact hsz0)
    clear hcc hm htk hsz0
    go_upto_region 6 with fail
    have hbx:Blk wr.heap.size [.string s,.int .i16 z,.int .i64 0] 60 (wr.alloc (Obj.cells #[.string s,.int .i16 z,.int .i64 0] 60)):=Blk.new wr _ _
    have hgx:Grew wr (wr.alloc (Obj.cells #[.string s,.int .i16 z,.int .i64 0] 60)):=(Grew.refl wr).alloc _
    generalize (wr.alloc (Obj.cells #[.string s,.int .i16 z,.int .i64 0] 60))=W6 at hbx hgx ⊢
    generalize wr.heap.size=b5 at hbx ⊢
    clear e0 e1 e2
    have hbu6:=HB.out.grew hgx
    have x0:=hbx.cell 0
    have x1:=hbx.cell 1
    have x2:=hbx.cell 2
    have u0:=hbu6.cell 0
    have u1:=hbu6.cell 1
    have u2:=hbu6.cell 2
    have u3:=hbu6.cell 3
    have u4:=hbu6.cell 4
    have u5:=hbu6.cell 5
    simp only [zz7,zz8] at x0 x1 x2 u0 u1 u2 u3 u4 u5
    have HGX:=zh hgx
    clear hbu6 hbx hgx
    go_wp2_with (at_builtin;refine wpList_append_own (hangsF encCn) rfl _ _ 22 rfl N0 60 (.agg #[.string ⟨#[]⟩,.int .i16 0,.int .i64 0]) 32 Tryz.underlying22 infoCnS rfl cq n1 ck ((cs.take j).map stCn) rfl (B:=(fun _=>False)) (HR.out.kept (hangsF encCn) (HGX.out.alloc _)) _ 1 1 [⟨s,z,0⟩] rfl (InN.made (hangsF encCn) _ _ ⟨s,z,0⟩ _ _ _ _ rfl rfl rfl) (fun _ h=>h.elim) (by have:=HNL.out;omega) (by have:=HNL.out;omega) (by have h1:=HGX.out.sz;have h2:=HC.out.size;have h3:=HN0.out;rw [alloc_sz];omega) ?_;intro p3 c3 w3 ho3 hp3;have HO3:=zh ho3;have HP3:=zh hp3;have HBU3:=zh (hp3.blk (HB.out.grew (HGX.out.alloc _)) (fun a ha=>by have h1:=(HR.out.place (hangsF encCn) a ha).1;have h2:=HUN0.out;omega));have z0:=HBU3.out.cell 0;have z1:=HBU3.out.cell 1;have z2:=HBU3.out.cell 2;have z3:=HBU3.out.cell 3;have z4:=HBU3.out.cell 4;have z5:=HBU3.out.cell 5;have zf:=HBU3.out.free 0;simp only [zz7,zz8] at z0 z1 z2 z3 z4 z5;clear ho3 hp3)
    have HC3:Hid (Chg W0 w3 (fun k=>k=U)):=zh ((HC.out.trans (Chg.of_grew (HGX.out.alloc _) _)).belowT HN0.out HP3.out.below)
    go_roundg (cs.length - (j+1))
    case measure=>have:=HLT.out;omega
    case rel=>exact⟨j+1,p3,n1+1,c3,by go_num,HLT.out,rfl,zh (by
     rw [map_snoc HTK.out]
     have h1:=HO3.out.chg (hangsF encCn) (Chg.set w3 ⟨U,0,none⟩ (.slice p3 (n1+1) c3)) (fun a ha e=>by have h1:=(HO3.out.place (hangsF encCn) a ha).1;have h2:=HUN0.out;have h3:a.block=U:=e;omega) (fun b h=>h.elim)
     exact h1),zh (HBU3.out.set 0 _),zh (HC3.out.then_set ⟨U,0,none⟩ _ rfl)⟩
   ·obtain rfl:j=cs.length:=by omega
    rw [List.take_length] at HR
    have hn1:n1=cs.length:=by have h1:=HR.out.len;rwa [List.length_map] at h1
    subst hn1
    have HGR:=HG
    have HBA:=zh (HBA.out.chg HC.out (fun e=>by have:=HUS.out;omega))
    have HBZ:=zh (HBZ.out.chg HC.out (fun e=>by have:=HUS.out;omega))
    have HSN:=zh (HSN.out.chg HC.out)
    have HON:=zh (HON.out.chg HC.out)
    have HNW0:=zh (NewF.of_own encCn (S:=S+2) HR.out HUN0.out HUS.out)
    have hcw0:=And.intro HNW0.out.1.cap HNW0.out.1.max
    rw [List.length_map] at hcw0
    have HBU:=HB
    clear HC HR HB HG HN0
    rename World=>W1
    obtain ⟨N1,hN1⟩:∃N,W1.heap.size=N:=⟨_,rfl⟩
    have HN1:=zh hN1
    have HUN1:Hid (U < N1):=zh (hN1 ▸ HBU.out.lt)
    clear hN1
    have a0:=HBA.out.cell 0
    have a1:=HBA.out.cell 1
    have a2:=HBA.out.cell 2
    have a3:=HBA.out.cell 3
    have a4:=HBA.out.cell 4
    have a5:=HBA.out.cell 5
    simp only [zz7,zz8] at a0 a1 a2 a3 a4 a5
    go_wp2
    go_loopg [7,39] gs.length (fun gg v5 iv wr=>∃(j:Nat) (gq:Option Addr) (n1 gk:Nat),iv=.int .i64 (j:Int)∧j≤gs.length∧gg=gs.length - j∧Hid (OwN FlatAt 4 glc N1 (fun _=>False) wr 62 gq n1 gk ((gs.take j).map stGl))∧Hid (Blk U [.slice cq cs.length ck,.slice gq n1 gk,.slice sq ss.length sk,.slice oq os.length ok,.slice none 0 0,.slice none 0 0] 28 wr)∧Hid (Chg W1 wr (fun k=>k=U)))
    case atStart=>exact⟨0,none,0,0,rfl,Nat.zero_le _,rfl,zh (OwN.nil (hangsF encGl)),HBU,zh (Chg.refl _ _)⟩
    case round =>
     obtain ⟨j,gq,n1,gk,rfl,hj,rfl,HR,HB,HC⟩:=hrel
     have HG:Hid (Grew w wr):=zh (grew_lift HGR.out HC.out (fun k hk=>by have:=HUS.out;have:=HS0.out;omega))
     clear a0 a1 a2 a3 a4 a5
     by_cases hlt:j < gs.length
     ·have HNL:Hid (n1≤1048576):=zh (by have h1:=HR.out.len;rw [List.length_map,List.length_take] at h1;have:=HLS.out;omega)
      obtain ⟨b1,o1,rfl,hcc⟩:=HXg.out.getF j hlt
      have hm:=List.getElem_mem hlt
      have htk:=List.take_succ_eq_append_getElem hlt
      have HLT:=zh (Nat.succ_le_of_lt hlt)
      have hsz0:=HZg.out _ hm
      generalize gs[j]=x at hcc hm htk hsz0
      obtain ⟨s,y,z,q⟩:=x
      replace hcc:∀i_ u_,([.string s,.int .i64 y,.int .i16 z,.int .i64 q]:List Value)[i_]?=some u_→wr.cell? ⟨b1,o1+j * 4+i_,none⟩=some u_:=fun i_ u_ h_=>Atv.kept (hcc i_ u_ h_) HG.out
      have e0:wr.cell? ⟨b1,o1+j * 4,none⟩=some (.string s):=by simpa using hcc 0 _ rfl
      have e1:wr.cell? ⟨b1,o1+j * 4+1,none⟩=some (.int .i64 y):=hcc 1 _ rfl
      have e2:wr.cell? ⟨b1,o1+j * 4+2,none⟩=some (.int .i16 z):=hcc 2 _ rfl
      have e3:wr.cell? ⟨b1,o1+j * 4+3,none⟩=some (.int .i64 q):=hcc 3 _ rfl
      have HTK:=zh htk
      have HSZ_:Hid (s.size≤1048576):=zh (by first | exact hsz0.1 | exact hsz0)
      clear hcc hm htk hsz0
      go_upto_region 12 with fail
      have hbx:Blk wr.heap.size [.string s,.int .i64 y,.int .i16 z,.int .i64 0] 62 (wr.alloc (Obj.cells #[.string s,.int .i64 y,.int .i16 z,.int .i64 0] 62)):=Blk.new wr _ _
      have hgx:Grew wr (wr.alloc (Obj.cells #[.string s,.int .i64 y,.int .i16 z,.int .i64 0] 62)):=(Grew.refl wr).alloc _
      generalize (wr.alloc (Obj.cells #[.string s,.int .i64 y,.int .i16 z,.int .i64 0] 62))=W6 at hbx hgx ⊢
      generalize wr.heap.size=b5 at hbx ⊢
      clear e0 e1 e2 e3
      have hbu6:=HB.out.grew hgx
      have x0:=hbx.cell 0
      have x1:=hbx.cell 1
      have x2:=hbx.cell 2
      have x3:=hbx.cell 3
      have u0:=hbu6.cell 0
      have u1:=hbu6.cell 1
      have u2:=hbu6.cell 2
      have u3:=hbu6.cell 3
      have u4:=hbu6.cell 4
      have u5:=hbu6.cell 5
      simp only [zz7,zz8] at x0 x1 x2 x3 u0 u1 u2 u3 u4 u5
      have HGX:=zh hgx
      clear hbu6 hbx hgx
      go_wp2_with (at_builtin;refine wpList_append_own (hangsF encGl) rfl _ _ 23 rfl N1 62 (.agg #[.string ⟨#[]⟩,.int .i64 0,.int .i16 0,.int .i64 0]) 40 Tryz.underlying23 infoGlS rfl gq n1 gk ((gs.take j).map stGl) rfl (B:=(fun _=>False)) (HR.out.kept (hangsF encGl) (HGX.out.alloc _)) _ 1 1 [⟨s,y,z,0⟩] rfl (InN.made (hangsF encGl) _ _ ⟨s,y,z,0⟩ _ _ _ _ rfl rfl rfl) (fun _ h=>h.elim) (by have:=HNL.out;omega) (by have:=HNL.out;omega) (by have h1:=HGX.out.sz;have h2:=HC.out.size;have h3:=HN1.out;rw [alloc_sz];omega) ?_;intro p3 c3 w3 ho3 hp3;have HO3:=zh ho3;have HP3:=zh hp3;have HBU3:=zh (hp3.blk (HB.out.grew (HGX.out.alloc _)) (fun a ha=>by have h1:=(HR.out.place (hangsF encGl) a ha).1;have h2:=HUN1.out;omega));have z0:=HBU3.out.cell 0;have z1:=HBU3.out.cell 1;have z2:=HBU3.out.cell 2;have z3:=HBU3.out.cell 3;have z4:=HBU3.out.cell 4;have z5:=HBU3.out.cell 5;have zf:=HBU3.out.free 1;simp only [zz7,zz8] at z0 z1 z2 z3 z4 z5;clear ho3 hp3)
      have HC3:Hid (Chg W1 w3 (fun k=>k=U)):=zh ((HC.out.trans (Chg.of_grew (HGX.out.alloc _) _)).belowT HN1.out HP3.out.below)
      go_roundg (gs.length - (j+1))
      case measure=>have:=HLT.out;omega
      case rel=>exact⟨j+1,p3,n1+1,c3,by go_num,HLT.out,rfl,zh (by
       rw [map_snoc HTK.out]
       have h1:=HO3.out.chg (hangsF encGl) (Chg.set w3 ⟨U,1,none⟩ (.slice p3 (n1+1) c3)) (fun a ha e=>by have h1:=(HO3.out.place (hangsF encGl) a ha).1;have h2:=HUN1.out;have h3:a.block=U:=e;omega) (fun b h=>h.elim)
       exact h1),zh (HBU3.out.set 1 _),zh (HC3.out.then_set ⟨U,1,none⟩ _ rfl)⟩
     ·obtain rfl:j=gs.length:=by omega
      rw [List.take_length] at HR
      have hn1:n1=gs.length:=by have h1:=HR.out.len;rwa [List.length_map] at h1
      subst hn1
      have HGR:=HG
      have HBA:=zh (HBA.out.chg HC.out (fun e=>by have:=HUS.out;omega))
      have HBZ:=zh (HBZ.out.chg HC.out (fun e=>by have:=HUS.out;omega))
      have HSN:=zh (HSN.out.chg HC.out)
      have HON:=zh (HON.out.chg HC.out)
      have HNW0:=zh (HNW0.out.chg HC.out)
      have HNW1:=zh (NewF.of_own encGl (S:=S+2) HR.out HUN1.out HUS.out)
      have hcw1:=And.intro HNW1.out.1.cap HNW1.out.1.max
      rw [List.length_map] at hcw1
      have HBU:=HB
      clear HC HR HB HG HN1
      rename World=>W2
      obtain ⟨N2,hN2⟩:∃N,W2.heap.size=N:=⟨_,rfl⟩
      have HN2:=zh hN2
      have HUN2:Hid (U < N2):=zh (hN2 ▸ HBU.out.lt)
      clear hN2
      have a0:=HBA.out.cell 0
      have a1:=HBA.out.cell 1
      have a2:=HBA.out.cell 2
      have a3:=HBA.out.cell 3
      have a4:=HBA.out.cell 4
      have a5:=HBA.out.cell 5
      simp only [zz7,zz8] at a0 a1 a2 a3 a4 a5
      go_wp2
      go_loopg [9,54] hs.length (fun gg v5 iv wr=>∃(j:Nat) (hq:Option Addr) (n1 hk:Nat),iv=.int .i64 (j:Int)∧j≤hs.length∧gg=hs.length - j∧Hid (OwN FlatAt 3 chc N2 (fun _=>False) wr 64 hq n1 hk ((hs.take j).map stCn))∧Hid (Blk U [.slice cq cs.length ck,.slice gq gs.length gk,.slice sq ss.length sk,.slice oq os.length ok,.slice hq n1 hk,.slice none 0 0] 28 wr)∧Hid (Chg W2 wr (fun k=>k=U)))
      case atStart=>exact⟨0,none,0,0,rfl,Nat.zero_le _,rfl,zh (OwN.nil (hangsF encCh)),HBU,zh (Chg.refl _ _)⟩
      case round =>
       obtain ⟨j,hq,n1,hk,rfl,hj,rfl,HR,HB,HC⟩:=hrel
       have HG:Hid (Grew w wr):=zh (grew_lift HGR.out HC.out (fun k hk=>by have:=HUS.out;have:=HS0.out;omega))
       clear a0 a1 a2 a3 a4 a5
       by_cases hlt:j < hs.length
       ·have HNL:Hid (n1≤1048576):=zh (by have h1:=HR.out.len;rw [List.length_map,List.length_take] at h1;have:=HLS.out;omega)
        obtain ⟨b1,o1,rfl,hcc⟩:=HXh.out.getF j hlt
        have hm:=List.getElem_mem hlt
        have htk:=List.take_succ_eq_append_getElem hlt
        have HLT:=zh (Nat.succ_le_of_lt hlt)
        have hsz0:=HZh.out _ hm
        generalize hs[j]=x at hcc hm htk hsz0
        obtain ⟨s,z,q⟩:=x
        replace hcc:∀i_ u_,([.string s,.int .i64 z,.int .i64 q]:List Value)[i_]?=some u_→wr.cell? ⟨b1,o1+j * 3+i_,none⟩=some u_:=fun i_ u_ h_=>Atv.kept (hcc i_ u_ h_) HG.out
        have e0:wr.cell? ⟨b1,o1+j * 3,none⟩=some (.string s):=by simpa using hcc 0 _ rfl
        have e1:wr.cell? ⟨b1,o1+j * 3+1,none⟩=some (.int .i64 z):=hcc 1 _ rfl
        have e2:wr.cell? ⟨b1,o1+j * 3+2,none⟩=some (.int .i64 q):=hcc 2 _ rfl
        have HTK:=zh htk
        have HSZ_:Hid (s.size≤1048576):=zh (by first | exact hsz0.1 | exact hsz0)
        clear hcc hm htk hsz0
        go_upto_region 18 with fail
        have hbx:Blk wr.heap.size [.string s,.int .i64 z,.int .i64 0] 64 (wr.alloc (Obj.cells #[.string s,.int .i64 z,.int .i64 0] 64)):=Blk.new wr _ _
        have hgx:Grew wr (wr.alloc (Obj.cells #[.string s,.int .i64 z,.int .i64 0] 64)):=(Grew.refl wr).alloc _
        generalize (wr.alloc (Obj.cells #[.string s,.int .i64 z,.int .i64 0] 64))=W6 at hbx hgx ⊢
        generalize wr.heap.size=b5 at hbx ⊢
        clear e0 e1 e2
        have hbu6:=HB.out.grew hgx
        have x0:=hbx.cell 0
        have x1:=hbx.cell 1
        have x2:=hbx.cell 2
        have u0:=hbu6.cell 0
        have u1:=hbu6.cell 1
        have u2:=hbu6.cell 2
        have u3:=hbu6.cell 3
        have u4:=hbu6.cell 4
        have u5:=hbu6.cell 5
        simp only [zz7,zz8] at x0 x1 x2 u0 u1 u2 u3 u4 u5
        have HGX:=zh hgx
        clear hbu6 hbx hgx
        go_wp2_with (at_builtin;refine wpList_append_own (hangsF encCh) rfl _ _ 25 rfl N2 64 (.agg #[.string ⟨#[]⟩,.int .i64 0,.int .i64 0]) 32 Tryz.underlying25 infoChS rfl hq n1 hk ((hs.take j).map stCn) rfl (B:=(fun _=>False)) (HR.out.kept (hangsF encCh) (HGX.out.alloc _)) _ 1 1 [⟨s,z,0⟩] rfl (InN.made (hangsF encCh) _ _ ⟨s,z,0⟩ _ _ _ _ rfl rfl rfl) (fun _ h=>h.elim) (by have:=HNL.out;omega) (by have:=HNL.out;omega) (by have h1:=HGX.out.sz;have h2:=HC.out.size;have h3:=HN2.out;rw [alloc_sz];omega) ?_;intro p3 c3 w3 ho3 hp3;have HO3:=zh ho3;have HP3:=zh hp3;have HBU3:=zh (hp3.blk (HB.out.grew (HGX.out.alloc _)) (fun a ha=>by have h1:=(HR.out.place (hangsF encCh) a ha).1;have h2:=HUN2.out;omega));have z0:=HBU3.out.cell 0;have z1:=HBU3.out.cell 1;have z2:=HBU3.out.cell 2;have z3:=HBU3.out.cell 3;have z4:=HBU3.out.cell 4;have z5:=HBU3.out.cell 5;have zf:=HBU3.out.free 4;simp only [zz7,zz8] at z0 z1 z2 z3 z4 z5;clear ho3 hp3)
        have HC3:Hid (Chg W2 w3 (fun k=>k=U)):=zh ((HC.out.trans (Chg.of_grew (HGX.out.alloc _) _)).belowT HN2.out HP3.out.below)
        go_roundg (hs.length - (j+1))
        case measure=>have:=HLT.out;omega
        case rel=>exact⟨j+1,p3,n1+1,c3,by go_num,HLT.out,rfl,zh (by
         rw [map_snoc HTK.out]
         have h1:=HO3.out.chg (hangsF encCh) (Chg.set w3 ⟨U,4,none⟩ (.slice p3 (n1+1) c3)) (fun a ha e=>by have h1:=(HO3.out.place (hangsF encCh) a ha).1;have h2:=HUN2.out;have h3:a.block=U:=e;omega) (fun b h=>h.elim)
         exact h1),zh (HBU3.out.set 4 _),zh (HC3.out.then_set ⟨U,4,none⟩ _ rfl)⟩
       ·obtain rfl:j=hs.length:=by omega
        rw [List.take_length] at HR
        have hn1:n1=hs.length:=by have h1:=HR.out.len;rwa [List.length_map] at h1
        subst hn1
        have HGR:=HG
        have HBA:=zh (HBA.out.chg HC.out (fun e=>by have:=HUS.out;omega))
        have HBZ:=zh (HBZ.out.chg HC.out (fun e=>by have:=HUS.out;omega))
        have HSN:=zh (HSN.out.chg HC.out)
        have HON:=zh (HON.out.chg HC.out)
        have HNW0:=zh (HNW0.out.chg HC.out)
        have HNW1:=zh (HNW1.out.chg HC.out)
        have HNW2:=zh (NewF.of_own encCh (S:=S+2) HR.out HUN2.out HUS.out)
        have hcw2:=And.intro HNW2.out.1.cap HNW2.out.1.max
        rw [List.length_map] at hcw2
        have HBU:=HB
        clear HC HR HB HG HN2
        rename World=>W3
        obtain ⟨N3,hN3⟩:∃N,W3.heap.size=N:=⟨_,rfl⟩
        have HN3:=zh hN3
        have HUN3:Hid (U < N3):=zh (hN3 ▸ HBU.out.lt)
        clear hN3
        have a0:=HBA.out.cell 0
        have a1:=HBA.out.cell 1
        have a2:=HBA.out.cell 2
        have a3:=HBA.out.cell 3
        have a4:=HBA.out.cell 4
        have a5:=HBA.out.cell 5
        simp only [zz7,zz8] at a0 a1 a2 a3 a4 a5
        go_wp2
        go_loopg [11,69] ts.length (fun gg v5 iv wr=>∃(j:Nat) (tq:Option Addr) (n1 tk:Nat),iv=.int .i64 (j:Int)∧j≤ts.length∧gg=ts.length - j∧Hid (OwN TsAt 8 tdc N3 (Aside N3 wr.heap.size tq) wr 42 tq n1 tk ((ts.take j).map stTa))∧Hid (Blk U [.slice cq cs.length ck,.slice gq gs.length gk,.slice sq ss.length sk,.slice oq os.length ok,.slice hq hs.length hk,.slice tq n1 tk] 28 wr)∧Hid (Chg W3 wr (fun k=>k=U)))
        case atStart=>exact⟨0,none,0,0,rfl,Nat.zero_le _,rfl,zh (OwN.nil hangsT),HBU,zh (Chg.refl _ _)⟩
        case round =>
         obtain ⟨j,tq,n1,tk,rfl,hj,rfl,HR,HB,HC⟩:=hrel
         have HG:Hid (Grew w wr):=zh (grew_lift HGR.out HC.out (fun k hk=>by have:=HUS.out;have:=HS0.out;omega))
         clear a0 a1 a2 a3 a4 a5
         by_cases hlt:j < ts.length
         ·have HNL:Hid (n1≤1048576):=zh (by have h1:=HR.out.len;rw [List.length_map,List.length_take] at h1;have:=HLS.out;omega)
          obtain ⟨bz,oz,pbz,cbz,rfl,hbz,hboz,hcz⟩:=HXt.out.get j hlt
          have hmz:=List.getElem_mem hlt
          have htz:=List.take_succ_eq_append_getElem hlt
          have HLz:=zh (Nat.succ_le_of_lt hlt)
          generalize ts[j]=xz at *
          obtain ⟨sz,iz,dz,hz,mz,nz,yz,qz⟩:=xz
          replace hbz:sz.size≤1048576∧hz.size≤1048576∧mz.size≤1048576:=hbz.2
          have HTz:=zh htz
          have HYz:Hid (SL B w pbz cbz yz):=zh hboz
          have hcapz:yz.length≤cbz:=hboz.cap.1
          have hmaxz:=hboz.cap.2.1
          replace hcz:∀i_ u_,(tdc ⟨sz,iz,dz,hz,mz,nz,pbz,yz.length,cbz,qz⟩)[i_]?=some u_→wr.cell? ⟨bz,oz+j * 8+i_,none⟩=some u_:=fun i_ u_ h_=>Atv.kept (hcz i_ u_ h_) HG.out
          have cz0:wr.cell? ⟨bz,oz+j * 8,none⟩=some (.string sz):=by simpa using hcz 0 _ rfl
          have cz1:wr.cell? ⟨bz,oz+j * 8+1,none⟩=some (.int .i64 iz):=hcz 1 _ rfl
          have cz2:wr.cell? ⟨bz,oz+j * 8+2,none⟩=some (.int .i64 dz):=hcz 2 _ rfl
          have cz3:wr.cell? ⟨bz,oz+j * 8+3,none⟩=some (.string hz):=hcz 3 _ rfl
          have cz4:wr.cell? ⟨bz,oz+j * 8+4,none⟩=some (.string mz):=hcz 4 _ rfl
          have cz5:wr.cell? ⟨bz,oz+j * 8+5,none⟩=some (.int .i64 nz):=hcz 5 _ rfl
          have cz6:wr.cell? ⟨bz,oz+j * 8+6,none⟩=some (.slice pbz yz.length cbz):=hcz 6 _ rfl
          have cz7:wr.cell? ⟨bz,oz+j * 8+7,none⟩=some (.int .i64 qz):=hcz 7 _ rfl
          clear hcz hboz htz
          have hzt:=zT_mem hmz
          have HIS:=zh (fun W (hW:Grew w W)=>(show Calls Tryz.prog 92 #[.slice pbz yz.length cbz] W fun e w'=>∃p' c',e=.returned (.slice p' yz.length c')∧SL (Fresh W.heap.size w'.heap.size) w' p' c' (stSs yz)∧Grew W w' from strips_any _ yz (Nat.lt_succ_self _) B W pbz cbz (HYz.out.kept hW) (by have:=HLS.out;have h_:nSs yz+mSs yz≤zT ts:=hzt;omega) (by have:=HLS.out;have h_:nSs yz+mSs yz≤zT ts:=hzt;omega)))
          clear hzt hmz
          go_upto_region 25 with (go_at_call 92;(with_reducible refine(HIS.out _ (HG.out.alloc _)).mono ?_);rintro e_ w2 ⟨p2,c2,rfl,hx2,g2⟩;have HX2:=zh hx2;have HQ2:=zh g2;have HBX:=zh ((Blk.new wr [.string sz,.int .i64 iz,.int .i64 dz,.string hz,.string mz,.int .i64 nz,.slice pbz yz.length cbz,.int .i64 0] 42).grew g2);clear hx2 g2;have y0:=HBX.out.cell 0;have y1:=HBX.out.cell 1;have y2:=HBX.out.cell 2;have y3:=HBX.out.cell 3;have y4:=HBX.out.cell 4;have y5:=HBX.out.cell 5;have y6:=HBX.out.cell 6;have y7:=HBX.out.cell 7;have yf:=HBX.out.free 6;simp only [zz7,zz8] at y0 y1 y2 y3 y4 y5 y6 y7)
          have hbx:Blk wr.heap.size [.string sz,.int .i64 iz,.int .i64 dz,.string hz,.string mz,.int .i64 nz,.slice p2 yz.length c2,.int .i64 0] 42 (w2.setCell ⟨wr.heap.size,6,none⟩ (.slice p2 yz.length c2)):=HBX.out.set 6 _
          have hch:=Chg.set w2 ⟨wr.heap.size,6,none⟩ (.slice p2 yz.length c2)
          have hg0:Grew wr w2:=((Grew.refl wr).alloc _).trans HQ2.out
          have hgx:Grew wr (w2.setCell ⟨wr.heap.size,6,none⟩ (.slice p2 yz.length c2)):=hg0.stc (Nat.le_refl _) 6 _
          have hsl0:=HX2.out.chg hch (fun b hb e=>by have h1:=hb.1;have h2:b=wr.heap.size:=e;rw [alloc_sz] at h1;omega)
          have hsl:SL (fun b=>wr.heap.size+1≤b∧b < (w2.setCell ⟨wr.heap.size,6,none⟩ (.slice p2 yz.length c2)).heap.size) (w2.setCell ⟨wr.heap.size,6,none⟩ (.slice p2 yz.length c2)) p2 c2 (stSs yz):=hsl0.mono (fun b hb=>⟨by have h1:=hb.1;rw [alloc_sz] at h1;exact h1,by rw [World.size_setCell];exact hb.2⟩)
          generalize (w2.setCell ⟨wr.heap.size,6,none⟩ (.slice p2 yz.length c2))=W6 at hbx hgx hsl ⊢
          have HSL:=zh hsl
          have hwz:=hgx.sz
          clear hch hg0 hsl0 hsl y0 y1 y2 y3 y4 y5 y6 y7 yf HBX HIS cz0 cz1 cz2 cz3 cz4 cz5 cz6 cz7
          have HBZ5:Hid (wr.heap.size=wr.heap.size):=zh rfl
          obtain ⟨b5,hb5⟩:∃b,wr.heap.size=b:=⟨_,rfl⟩
          have HB5:=zh hb5
          rw [hb5] at hbx ⊢
          clear hb5 HBZ5 hwz
          have hcap2:=HSL.out.cap
          rw [stSs_len] at hcap2
          have hbu6:=HB.out.grew hgx
          have x0:=hbx.cell 0
          have x1:=hbx.cell 1
          have x2:=hbx.cell 2
          have x3:=hbx.cell 3
          have x4:=hbx.cell 4
          have x5:=hbx.cell 5
          have x6:=hbx.cell 6
          have x7:=hbx.cell 7
          have u0:=hbu6.cell 0
          have u1:=hbu6.cell 1
          have u2:=hbu6.cell 2
          have u3:=hbu6.cell 3
          have u4:=hbu6.cell 4
          have u5:=hbu6.cell 5
          simp only [zz7,zz8] at x0 x1 x2 x3 x4 x5 x6 x7 u0 u1 u2 u3 u4 u5
          have HGX:=zh hgx
          clear hbu6 hbx hgx
          have HAT:Hid (TsAt (Aside N3 W6.heap.size tq) W6 [stTa ⟨sz,iz,dz,hz,mz,nz,yz,qz⟩] [⟨sz,iz,dz,hz,mz,nz,p2,yz.length,c2,0⟩]):=zh (by
           have h4:=tat1 (i:=iz) (d:=dz) (n:=nz) (q:=0) hbz (HSL.out.mono (B':=Aside N3 W6.heap.size tq) fun b hb=>⟨by have h1:=hb.1;have h2:=HC.out.size;have h3:=HN3.out;omega,hb.2,HR.out.offTop hangsT (by have h1:=hb.1;omega)⟩)
           rw [stSs_len] at h4
           exact h4)
          go_wp2_with (at_builtin;refine wpList_append_own hangsT rfl _ _ 26 rfl N3 42 (.agg #[.string ⟨#[]⟩,.int .i64 0,.int .i64 0,.string ⟨#[]⟩,.string ⟨#[]⟩,.int .i64 0,.slice none 0 0,.int .i64 0]) 104 Tryz.underlying26 infoTaS rfl tq n1 tk ((ts.take j).map stTa) rfl (B:=(Aside N3 W6.heap.size tq)) (((HR.out.kept hangsT HGX.out).mono hangsT (B':=Aside N3 W6.heap.size tq) fun b hb=>⟨hb.1,Nat.lt_of_lt_of_le hb.2.1 HGX.out.sz,hb.2.2⟩).kept hangsT ((Grew.refl _).alloc _)) _ 1 1 [stTa ⟨sz,iz,dz,hz,mz,nz,yz,qz⟩] rfl (InN.made hangsT _ _ _ _ _ _ _ HAT.out rfl rfl) (fun b hb=>hb.2.2) (by have:=HNL.out;omega) (by have:=HNL.out;omega) (by have h1:=HGX.out.sz;have h2:=HC.out.size;have h3:=HN3.out;rw [alloc_sz];omega) ?_;intro p3 c3 w3 ho3 hp3;have HO3:=zh ho3;have HP3:=zh hp3;have HBU3:=zh (hp3.blk (HB.out.grew (HGX.out.alloc _)) (fun a ha=>by have h1:=(HR.out.place hangsT a ha).1;have h2:=HUN3.out;omega));have z0:=HBU3.out.cell 0;have z1:=HBU3.out.cell 1;have z2:=HBU3.out.cell 2;have z3:=HBU3.out.cell 3;have z4:=HBU3.out.cell 4;have z5:=HBU3.out.cell 5;have zf:=HBU3.out.free 5;simp only [zz7,zz8] at z0 z1 z2 z3 z4 z5;clear ho3 hp3)
          have HC3:Hid (Chg W3 w3 (fun k=>k=U)):=zh ((HC.out.trans (Chg.of_grew (HGX.out.alloc _) _)).belowT HN3.out HP3.out.below)
          go_roundg (ts.length - (j+1))
          case measure=>have:=HLz.out;omega
          case rel=>exact⟨j+1,p3,n1+1,c3,by go_num,HLz.out,rfl,zh (by
           rw [map_snoc HTz.out]
           have h1:=HO3.out.chg hangsT (Chg.set w3 ⟨U,5,none⟩ (.slice p3 (n1+1) c3)) (fun a ha e=>by have h1:=(HO3.out.place hangsT a ha).1;have h2:=HUN3.out;have h3:a.block=U:=e;omega) (fun b hb e=>by have h1:=hb.1;have h2:=HUN3.out;have h3:b=U:=e;omega)
           exact h1.mono hangsT fun b hb=>⟨hb.1,by have h1:=hb.2.1;have h2:=HP3.out.below.size;rw [alloc_sz] at h2;rw [World.size_setCell];omega,HP3.out.off (by have h1:=hb.2.1;rw [alloc_sz];omega) hb.2.2⟩),zh (HBU3.out.set 5 _),zh (HC3.out.then_set ⟨U,5,none⟩ _ rfl)⟩
         ·obtain rfl:j=ts.length:=by omega
          rw [List.take_length] at HR
          have hn1:n1=ts.length:=by have h1:=HR.out.len;rwa [List.length_map] at h1
          subst hn1
          have HGR:=HG
          have HBA:=zh (HBA.out.chg HC.out (fun e=>by have:=HUS.out;omega))
          have HBZ:=zh (HBZ.out.chg HC.out (fun e=>by have:=HUS.out;omega))
          have HSN:=zh (HSN.out.chg HC.out)
          have HON:=zh (HON.out.chg HC.out)
          have HNW0:=zh (HNW0.out.chg HC.out)
          have HNW1:=zh (HNW1.out.chg HC.out)
          have HNW2:=zh (HNW2.out.chg HC.out)
          have HNW3:=zh (tl_own (S:=S+2) HR.out (by have:=HUS.out;have:=HUN3.out;omega))
          have hcw3:=HNW3.out.cap
          rw [List.length_map] at hcw3
          have HBU:=HB
          clear HC HR HB HG HN3
          rename World=>W4
          have u0:=HBU.out.cell 0
          have u1:=HBU.out.cell 1
          have u2:=HBU.out.cell 2
          have u3:=HBU.out.cell 3
          have u4:=HBU.out.cell 4
          have u5:=HBU.out.cell 5
          have z0:=HBZ.out.cell 0
          have zf0:=HBZ.out.free 0
          have z1:=HBZ.out.cell 1
          have zf1:=HBZ.out.free 1
          have z2:=HBZ.out.cell 2
          have zf2:=HBZ.out.free 2
          have z3:=HBZ.out.cell 3
          have zf3:=HBZ.out.free 3
          have z4:=HBZ.out.cell 4
          have zf4:=HBZ.out.free 4
          have z5:=HBZ.out.cell 5
          have zf5:=HBZ.out.free 5
          simp only [zz7,zz8] at u0 u1 u2 u3 u4 u5 z0 z1 z2 z3 z4 z5
          have HFIN:Hid (∀w',Chg W4 w' (fun k=>k=S+1)→PgIn (Fresh w.heap.size w'.heap.size) w' (stP ⟨cs,gs,ss,os,hs,ts⟩) cq gq sq oq hq tq ck gk sk ok hk tk∧Grew w w'):=zh (fun w' hc=>by
           have hs0:=HS0.out
           have hk9:∀b,S+2≤b→b≠U→¬ (b=S+1):=fun b h _ e=>by omega
           exact⟨PgIn.of_new HPG.out (HNW0.out.chgC hc hk9) (HNW1.out.chgC hc hk9) (HSN.out.chgC hc hk9) (HON.out.chgC hc hk9) (HNW2.out.chgC hc hk9) ((HNW3.out.chg hc (fun b hb e=>by have:=hb.1;omega)).keep (fun b hb=>⟨hb.1,Nat.lt_of_lt_of_le hb.2 hc.size⟩) (fun _ _ _=>rfl)) (by omega),grew_lift HGR.out hc (fun k hk=>by omega)⟩)
          clear HGR HBA HBZ HSN HON HNW0 HNW1 HNW2 HNW3 HBU
          go_wp2
          refine rs_ret_c28 Tryz.results36 (S0:=S+1) (v0_0:=.slice cq cs.length ck) (v0_1:=.slice gq gs.length gk) (v0_2:=.slice sq ss.length sk) (v0_3:=.slice oq os.length ok) (v0_4:=.slice hq hs.length hk) (v0_5:=.slice tq ts.length tk) rfl (by go_simp) (by go_simp) (by go_simp) (by go_simp) (by go_simp) (by go_simp) ?_
          have g6:=((((((Chg.refl W4 (fun k=>k=S+1)).then_set ⟨S+1,0,none⟩ (.slice cq cs.length ck) rfl).then_set ⟨S+1,1,none⟩ (.slice gq gs.length gk) rfl).then_set ⟨S+1,2,none⟩ (.slice sq ss.length sk) rfl).then_set ⟨S+1,3,none⟩ (.slice oq os.length ok) rfl).then_set ⟨S+1,4,none⟩ (.slice hq hs.length hk) rfl).then_set ⟨S+1,5,none⟩ (.slice tq ts.length tk) rfl
          obtain ⟨h5,h6⟩:=HFIN.out _ g6
          exact⟨cq,gq,sq,oq,hq,tq,ck,gk,sk,ok,hk,tk,rfl,h5,h6⟩
open Go.Lib (decDigits itoa)
open Go.Sort

abbrev setLD:ByteArray:=⟨#[65,66,67,68,69,70,71,72,73,74,75,76,77,78,79,80,81,82,83,84,85,86,87,88,89,90,95,97,98,99,100,101,102,103,104,105,106,107,108,109,110,111,112,113,114,115,116,117,118,119,120,121,122,48,49,50,51,52,53,54,55,56,57]⟩
abbrev setD:ByteArray:=⟨#[48,49,50,51,52,53,54,55,56,57]⟩
theorem all_bytes {p:UInt8→Bool}(h:(List.range 256).all (fun n=>p (UInt8.ofNat n))=true) (c:UInt8):p c=true:=by
 have h1:=List.all_eq_true.1 h c.toNat (List.mem_range.2 c.toNat_lt)
 simpa using h1
theorem same_bytes {p q:UInt8→Bool}(h:(List.range 256).all (fun n=>p (UInt8.ofNat n)==q (UInt8.ofNat n))=true):∀c,p c=q c:=fun c=>eq_of_beq (all_bytes (p:=fun c=>p c==q c) h c)
theorem setLD_has:∀c,setLD.data.toList.contains c=wd c:=same_bytes (by kernel_rfl)
theorem setD_has:∀c,setD.data.toList.contains c=dig c:=same_bytes (by kernel_rfl)
theorem var?_keep {P:Program}{w w':World}{n:String}{cs:Array Value}(hb:Below w.heap.size w w') (h:w.var? P n=some cs):w'.var? P n=some cs:=by
 unfold World.var? at h ⊢
 cases hg:P.globalNamed n with
 | none=>simp [hg] at h
 | some g =>
   simp only [hg,Option.bind_some] at h ⊢
   have hlt:g < w.heap.size:=by
    rcases Nat.lt_or_ge g w.heap.size with h' | h'
    ·exact h'
    ·simp [Array.getElem?_eq_none h'] at h
   rw [hb.block g hlt]
   exact h
structure Es5 where
 b:Bool
 v:Int
 f:Int
 l:Int
 n:Int
structure Ss5 where
 b:Bool
 n:Int
 a:Int
 y:Bool
 e:Bool
structure Op2 where
 s:List UInt8
 l:Int
abbrev es5 (o:Es5):List Value:=[.bool o.b,.int .i16 o.v,.int .i64 o.f,.int .i64 o.l,.int .i64 o.n]
abbrev ss5 (o:Ss5):List Value:=[.bool o.b,.int .i64 o.n,.int .i64 o.a,.bool o.y,.bool o.e]
abbrev op2 (o:Op2):List Value:=[.string ⟨o.s.toArray⟩,.int .i64 o.l]
theorem encE5:Enc 5 es5:=⟨fun _=>rfl,fun x u hu=>by simp at hu;rcases hu with rfl | rfl | rfl | rfl | rfl <;> rfl,by decide⟩
theorem encS5:Enc 5 ss5:=⟨fun _=>rfl,fun x u hu=>by simp at hu;rcases hu with rfl | rfl | rfl | rfl | rfl <;> rfl,by decide⟩
theorem encO2:Enc 2 op2:=⟨fun _=>rfl,fun x u hu=>by simp at hu;rcases hu with rfl | rfl <;> rfl,by decide⟩
def lvO (o:Int):Int:=if o=1∨o=2 then 6 else lvT o
def exL:List Es5:=[⟨false,0,0,0,0⟩,⟨false,32767,0,0,0⟩,⟨true,0,0,0,0⟩,⟨true,0,0,0,1⟩,⟨true,0,0,0,0⟩,⟨false,0,1,2,1⟩,⟨false,0,3,15,2⟩]
def ssL:List Ss5:=[⟨false,0,0,false,false⟩,⟨true,0,1,false,false⟩,⟨true,0,1,false,false⟩,⟨true,0,2,false,false⟩,⟨false,0,1,true,true⟩,⟨false,32767,0,true,false⟩,⟨false,0,1,true,false⟩,⟨true,0,1,false,false⟩,⟨false,0,1,false,false⟩,⟨true,0,1,false,false⟩,⟨false,32767,0,true,false⟩,⟨false,32767,0,true,false⟩,⟨false,0,0,false,false⟩,⟨false,0,0,false,false⟩]
def oprL:List Op2:=(List.range 16).map fun(i:Nat)=>(⟨sgT (i:Int),if i=0 then 0 else lvO (i:Int)⟩:Op2)
def exC:List Value:=flatL es5 exL
def ssC:List Value:=flatL ss5 ssL
def oprC:List Value:=flatL op2 oprL
def exR (k:Int):Es5:=exL.getD k.toNat ⟨false,0,0,0,0⟩
def ssR (k:Int):Ss5:=ssL.getD k.toNat ⟨false,0,0,false,false⟩
structure Env (w:World):Prop where
 kws : w.var? Tryz.prog "trickle/ast.keywords" = some (kwT.map (fun l => Value.string ⟨l.toArray⟩)).toArray
 exs : w.var? Tryz.prog "trickle/ast.exprShapes" = some exC.toArray
 sts : w.var? Tryz.prog "trickle/ast.stmtShapes" = some ssC.toArray
 ops : w.var? Tryz.prog "trickle/ast.operators" = some oprC.toArray
 pow : Lib.TabIs Tryz.prog w "internal/strconv.uint64pow10" .u64 Lib.pow10Tab
theorem Env.grew {w w':World}(h:Env w) (hb:Grew w w'):Env w':=by
 obtain ⟨h1,h2,h3,h4,h5⟩:=h
 exact⟨var?_keep hb h1,var?_keep hb h2,var?_keep hb h3,var?_keep hb h4,var?_keep hb h5⟩
theorem Env.rangeK {w:World}(h:Env w):w.rangeAt 2 0 (kwT.map (fun l=>Value.string ⟨l.toArray⟩)):=fun j v hv=>by
 rw [Nat.zero_add, World.var?_cell (show Tryz.prog.globalNamed "trickle/ast.keywords" = some 2 by kernel_rfl) h.kws j]
 simpa using hv
theorem Env.ex {w:World}(h:Env w) (k:Nat) (hk:k < 7) (j:Nat){v:Value}(hv:(es5 (exR (k:Int)))[j]?=some v):w.cell? ⟨0,k * 5+j,none⟩=some v:=by
 have h1 := World.var?_cell (show Tryz.prog.globalNamed "trickle/ast.exprShapes" = some 0 by kernel_rfl) h.exs (k * 5 + j)
 rw [h1]
 have h2:exL[k]?=some (exR (k:Int)):=by
  have hl:k < exL.length:=hk
  unfold exR
  simp only [Int.toNat_natCast,List.getD,List.getElem?_eq_getElem hl,Option.getD_some]
 simpa [exC] using flatL_get encE5 h2 hv
theorem Env.st {w:World}(h:Env w) (k:Nat) (hk:k < 14) (j:Nat){v:Value}(hv:(ss5 (ssR (k:Int)))[j]?=some v):w.cell? ⟨3,k * 5+j,none⟩=some v:=by
 have h1 := World.var?_cell (show Tryz.prog.globalNamed "trickle/ast.stmtShapes" = some 3 by kernel_rfl) h.sts (k * 5 + j)
 rw [h1]
 have h2:ssL[k]?=some (ssR (k:Int)):=by
  have hl:k < ssL.length:=hk
  unfold ssR
  simp only [Int.toNat_natCast,List.getD,List.getElem?_eq_getElem hl,Option.getD_some]
 simpa [ssC] using flatL_get encS5 h2 hv
theorem oprL_at:∀k,(h:k < 16)→oprL[k]'h=⟨sgT (k:Int),if k=0 then 0 else lvO (k:Int)⟩:=by
 intro k h
 rcases k with _ | _ | _ | _ | _ | _ | _ | _ | _ | _ | _ | _ | _ | _ | _ | _ | k
 all_goals first | rfl | omega
theorem Env.op {w:World}(h:Env w) (k:Nat) (h0:1≤k) (hk:k < 16) (j:Nat){v:Value}(hv:(op2 ⟨sgT (k:Int),lvO (k:Int)⟩)[j]?=some v):w.cell? ⟨1,k * 2+j,none⟩=some v:=by
 have h1 := World.var?_cell (show Tryz.prog.globalNamed "trickle/ast.operators" = some 1 by kernel_rfl) h.ops (k * 2 + j)
 rw [h1]
 have hl:k < oprL.length:=hk
 have h2:oprL[k]?=some ⟨sgT (k:Int),lvO (k:Int)⟩:=by
  rw [List.getElem?_eq_getElem hl]
  exact congrArg some ((oprL_at k hk).trans (by rw [if_neg (by omega)]))
 simpa [oprC] using flatL_get encO2 h2 hv
set_option maxRecDepth 20000 in
theorem index_kw:∀(k:Nat) (_:k < 22) (W:World),Sem.run Tryz.prog (Instr.index 162 (.agg (kwT.map (fun l=>Value.string ⟨l.toArray⟩)).toArray) (.int .i64 (k:Int))) W=.ok (.string ⟨(kwT.getD k []).toArray⟩) W
 | 0,_,W=>by kernel_rfl
 | 1,_,W=>by kernel_rfl
 | 2,_,W=>by kernel_rfl
 | 3,_,W=>by kernel_rfl
 | 4,_,W=>by kernel_rfl
 | 5,_,W=>by kernel_rfl
 | 6,_,W=>by kernel_rfl
 | 7,_,W=>by kernel_rfl
 | 8,_,W=>by kernel_rfl
 | 9,_,W=>by kernel_rfl
 | 10,_,W=>by kernel_rfl
 | 11,_,W=>by kernel_rfl
 | 12,_,W=>by kernel_rfl
 | 13,_,W=>by kernel_rfl
 | 14,_,W=>by kernel_rfl
 | 15,_,W=>by kernel_rfl
 | 16,_,W=>by kernel_rfl
 | 17,_,W=>by kernel_rfl
 | 18,_,W=>by kernel_rfl
 | 19,_,W=>by kernel_rfl
 | 20,_,W=>by kernel_rfl
 | 21,_,W=>by kernel_rfl
 | k+22,h,_=>absurd h (by omega)
theorem beq_list {a:List UInt8}{s:ByteArray}:(a==s.toList)=(a==s.data.toList):=by rw [ByteArray.toList_eq]
theorem ascii {cs:ByteArray}(h:cs.data.toList.all (fun b=>decide (b.toNat < 128))=true):∀(j:Nat) b,cs.data.toList[j]?=some b→b.toNat < 128:=fun j b hb=>by
 have:=List.all_eq_true.1 h b (List.mem_of_getElem? hb)
 simpa using this
theorem index_has (l:List UInt8) (c:UInt8):(0≤Lib.indexByte l c)↔l.contains c=true:=by
 have h0:=Lib.indexByte_ge l c
 constructor
 ·intro h
  obtain ⟨o,ho⟩:∃o:Nat,Lib.indexByte l c=o:=⟨(Lib.indexByte l c).toNat,by omega⟩
  simpa using List.mem_of_getElem? (Lib.indexByte_some ho).1
 ·intro h
  obtain ⟨k,hk,e⟩:=List.getElem_of_mem (by simpa using h:c ∈ l)
  rcases Int.lt_or_le (Lib.indexByte l c) 0 with h1 | h1
  ·exact absurd (by rw [List.getElem?_eq_getElem hk,e]) (Lib.indexByte_none (by omega:Lib.indexByte l c=-1) k)
  ·exact h1
theorem index_le:∀(l:List UInt8) (c:UInt8),Lib.indexByte l c≤l.length:=fun l c=>by
 have h0:=Lib.indexByte_ge l c
 rcases Int.lt_or_le (Lib.indexByte l c) 0 with h1 | h1
 ·omega
 ·obtain ⟨o,ho⟩:∃o:Nat,Lib.indexByte l c=o:=⟨(Lib.indexByte l c).toNat,by omega⟩
  have:=(List.getElem?_eq_some_iff.1 (Lib.indexByte_some ho).1).1
  omega
theorem u8_toNat (c:UInt8):(c.toNat:Int).toNat.toUInt8=c:=by
 rw [Int.toNat_natCast]
 exact UInt8.ofNat_toNat
theorem digit_any (c:UInt8):∃z:Int,decide (z < 0)=!dig c∧(-1≤z∧z≤10)∧∀W,Calls Tryz.prog 109 #[.string setD,.int .u8 (c.toNat:Nat)] W fun e w'=>e=.returned (.int .i64 z)∧W=w':=by
 refine⟨Lib.indexByte setD.data.toList c,?_,⟨Lib.indexByte_ge _ _,index_le _ _⟩,fun W=>?_⟩
 ·rw [← setD_has]
  cases h:setD.data.toList.contains c with
  | true=>have:=(index_has _ _).2 h;simpa using this
  | false =>
    have:¬ 0≤Lib.indexByte setD.data.toList c:=fun h1=>by rw [(index_has _ _).1 h1] at h;cases h
    simpa using this
 ·have:=Tryz.strings_IndexByte setD (c.toNat:Int) W
  rw [u8_toNat] at this
  exact this.mono fun e w' h=>⟨h.1,h.2.symm⟩
theorem dw_all (p:UInt8→Bool):∀l:List UInt8,l.dropWhile p=[]↔l.all p=true
 | []=>by simp
 | a :: r=>by
   rw [List.dropWhile_cons,List.all_cons]
   cases h:p a with
   | true=>rw [if_pos rfl,Bool.true_and];exact dw_all p r
   | false=>simp
theorem dw_none (p:UInt8→Bool) (l:List UInt8):(l.dropWhile p).all p=l.all p:=by
 induction l with
 | nil=>rfl
 | cons a r ih =>
   rw [List.dropWhile_cons]
   cases h:p a with
   | true=>rw [if_pos rfl,List.all_cons,h,Bool.true_and,ih]
   | false=>rw [if_neg (by simp),List.all_cons,h]
theorem trim_nil (l cs:List UInt8):Lib.trimS l cs=[]↔l.all cs.contains=true:=by
 unfold Lib.trimS Lib.trimLeftS Lib.trimRightS
 rw [dw_all,List.all_reverse]
 exact(by rw [dw_none (fun x=>cs.contains x) l.reverse,List.all_reverse])
theorem trim_any (s:ByteArray) (hs:s.size≤1048576):∃y:List UInt8,(y.isEmpty=s.data.toList.all wd)∧∀W,Calls Tryz.prog 110 #[.string s,.string setLD] W fun e w'=>e=.returned (.string ⟨y.toArray⟩)∧Grew W w':=by
 refine⟨Lib.trimS s.data.toList setLD.data.toList,?_,fun W=>?_⟩
 ·rw [Bool.eq_iff_iff,List.isEmpty_iff,trim_nil]
  have:(fun x=>setLD.data.toList.contains x)=wd:=funext setLD_has
  show s.data.toList.all (fun x=>setLD.data.toList.contains x)=true↔_
  rw [this]
 ·exact Any.strings_Trim_laid Tryz.lays160 (by kernel_rfl) s setLD W (by omega) (by decide) (ascii (by kernel_rfl))
theorem grow_grew (w:World) (k:Nat) (os:Array Obj):Grew w (grow (w.drewN k) os) :=
 ⟨rfl,rfl,rfl,by simp [grow,World.drewN],fun j hj=>by
  show (w.heap++os)[j]?=w.heap[j]?
  exact Array.getElem?_append_left hj⟩
theorem itoa_num (z:Int):itoa z=numZ z:=by
 rw [itoa,numZ]
 split
 ·rw [show z.natAbs=(-z).toNat by omega]
 ·rfl
theorem itoa_any (z:Int) (hz:-9223372036854775808≤z∧z≤9223372036854775807) (w:World) (hE:Env w):Calls Tryz.prog 40 #[.int .i64 z] w fun e w'=>e=.returned (.string ⟨(numZ z).toArray⟩)∧Grew w w' :=
 (Tryz.strconv_Itoa z hz.1 hz.2 w hE.pow).mono fun e w' h=>by
   obtain ⟨h1,k,os,h2⟩:=h
   exact⟨itoa_num z ▸ h1,h2 ▸ grow_grew w k os⟩
theorem kwT_at {k:Nat}(h:k < 22):kwT.getD k [] ∈ kwT:=by
 have hl:k < kwT.length:=h
 rw [List.getD_eq_getElem?_getD,List.getElem?_eq_getElem hl]
 exact List.getElem_mem hl
theorem kwT_no {t:List UInt8}(h:∀i,i < 22→kwT.getD i []≠t):kwT.contains t=false:=by
 cases hc:kwT.contains t with
 | false=>rfl
 | true =>
   obtain ⟨k,hk,e⟩:=List.getElem_of_mem (by simpa using hc:t ∈ kwT)
   refine absurd ?_ (h k hk)
   rw [List.getD_eq_getElem?_getD,List.getElem?_eq_getElem hk]
   exact e
theorem iskw_any (s:ByteArray) (w:World) (hE:Env w):Calls Tryz.prog 111 #[.string s] w fun e w'=>e=.returned (.bool (kwT.contains s.data.toList))∧w=w':=by
 have HNO:=zh (kwT_no (t:=s.data.toList))
 have HYES:=zh (fun k (hk:k < 22) (e:kwT.getD k []=s.data.toList)=>(show kwT.contains s.data.toList=true by rw [← e];simpa using kwT_at hk))
 generalize kwT.contains s.data.toList=b at HNO HYES ⊢
 go_enter Tryz.func111,Tryz.ntmps111
 go_upto_region 1 with fail
 refine wp_region_list ?_
 refine wpList_load_mid rfl 162 (.global 2) rfl 2 0 rfl (kwT.map (fun l=>Value.string ⟨l.toArray⟩)) _ hE.rangeK Tryz.underlying162 rfl (by kernel_rfl) ?_
 have HIX:=zh index_kw
 generalize Value.agg (kwT.map (fun l=>Value.string ⟨l.toArray⟩)).toArray=TAB at HIX ⊢
 clear hE
 go_wp2
 go_loopg [6] 22 (fun gg iv wr=>∃j:Nat,iv=.int .i64 (j:Int)∧j≤22∧gg=22 - j∧Hid (∀i,i < j→kwT.getD i []≠s.data.toList)∧wr=w)
 case atStart=>exact⟨0,rfl,by omega,rfl,zh (fun i h=>absurd h (Nat.not_lt_zero i)),rfl⟩
 case round =>
  obtain ⟨j,rfl,hj,rfl,HN,rfl⟩:=hrel
  by_cases hlt:j < 22
  ·have hx:=fun W=>HIX.out j hlt W
   have HJ:=zh hlt
   have HY:=zh (HYES.out j hlt)
   obtain ⟨t,ht⟩:∃t,kwT.getD j []=t:=⟨_,rfl⟩
   rw [ht] at hx HY
   have HT:=zh ht
   clear ht
   by_cases he:t=s.data.toList
   ·have h1:(t==s.toList)=true:=by rw [beq_list,he];simp
    have HE:=zh (HY.out he)
    clear he
    go_wp2
    go_ret
    exact⟨ret_bool HE.out.symm,rfl⟩
   ·have h1:(t==s.toList)=false:=by rw [beq_list];simpa using he
    have HE:=zh he
    clear he
    go_wp2
    go_roundg (22 - (j+1))
    case measure=>have:=HJ.out;omega
    case rel=>exact⟨j+1,by go_num,HJ.out,rfl,zh (fun i hi=>by rcases Nat.lt_or_eq_of_le (Nat.le_of_lt_succ hi) with h | rfl;exact HN.out i h;rw [HT.out];exact HE.out),rfl⟩
  ·obtain rfl:j=22:=by omega
   have HF:=zh (HNO.out HN.out)
   go_wp2
   go_ret
   exact⟨ret_bool HF.out.symm,rfl⟩
theorem dig_wd {c:UInt8}:dig c=true→ltr c=false:=by
 have:∀c:UInt8,(!dig c||!ltr c)=true:=all_bytes (p:=fun c=>!dig c||!ltr c) (by kernel_rfl)
 intro h
 have:=this c
 rw [h] at this
 simpa using this
theorem idB_eq (c:UInt8) (r:List UInt8):idB (c :: r)=(decide ((c :: r).length≤32)&&(!dig c&&((c :: r).all wd&&!kwT.contains (c :: r)))):=by
 have h1:idc (c :: r)=(!dig c&&(c :: r).all wd):=by
  rw [idc,List.all_cons]
  cases hd:dig c with
  | true=>rw [dig_wd hd];rfl
  | false=>rw [wd,hd,Bool.or_false];rfl
 rw [idB,h1]
 have h2:decide (1≤(c :: r).length)=true:=by simp
 rw [h2]
 cases kwT.contains (c :: r) <;> cases dig c <;> cases (c :: r).all wd <;> cases decide ((c :: r).length≤32) <;> rfl
set_option maxHeartbeats 4000000 in
theorem isid_any (s:ByteArray) (hs:s.size≤1048576) (w:World) (hE:Env w):Calls Tryz.prog 57 #[.string s] w fun e w'=>e=.returned (.bool (idn s))∧Grew w w':=by
 have HE:=zh hE
 clear hE
 by_cases hz:s.size=0
 ·have hnl:s.toList=[]:=by rw [ByteArray.toList_eq];exact List.eq_nil_of_length_eq_zero hz
  have h0:idn s=false:=by rw [idn,← ByteArray.toList_eq,hnl];rfl
  rw [h0]
  clear h0
  go_enter Tryz.func57,Tryz.ntmps57
  go_wp2
  go_ret
  exact⟨rfl,Grew.refl _⟩
 ·have hpos:0 < s.size:=Nat.pos_of_ne_zero hz
  have hne:¬ s.toList=[]:=fun h=>hz (by
   rw [ByteArray.toList_eq] at h
   exact congrArg List.length h)
  have hie:s.toList.isEmpty=false:=by rw [List.isEmpty_eq_false_iff];exact hne
  obtain ⟨z,hz1,hz2,hzc⟩:=digit_any s[0]
  obtain ⟨y,hy1,hyc⟩:=trim_any s hs
  have key:idn s=(decide (s.size≤32)&&(!dig s[0]&&(s.data.toList.all wd&&!kwT.contains s.data.toList))):=by
   have h1:s.data.toList[0]'hpos=s[0]:=rfl
   cases hx:s.data.toList with
   | nil=>exact absurd (congrArg List.length hx) hz
   | cons a r =>
     simp only [hx,zz2] at h1
     have h2:s.size=(a :: r).length:=congrArg List.length hx
     subst h1
     rw [idn,hx,idB_eq,h2]
  rw [← hz1,← hy1] at key
  rw [key]
  have HZ:=zh hzc
  have HY:=zh hyc
  have HK:=zh (fun W (hW:Grew w W)=>iskw_any s W (HE.out.grew hW))
  clear key hz1 hy1 hzc hyc HE
  generalize kwT.contains s.data.toList=kb at HK ⊢
  by_cases h32:s.size≤32
  ·rw [decide_eq_true h32,Bool.true_and]
   by_cases hz0:z < 0
   ·rw [decide_eq_true hz0,Bool.true_and]
    cases y with
    | nil =>
      rw [List.isEmpty_nil,Bool.true_and]
      go_enter Tryz.func57,Tryz.ntmps57
      go_wp2_with (first
       | (go_at_call 109;(with_reducible refine(HZ.out _).mono ?_);rintro e w1 ⟨rfl,hw1⟩;subst w1)
       | (go_at_call 110;(with_reducible refine(HY.out _).mono ?_);rintro e w1 ⟨rfl,hg1⟩;have HG:=zh hg1;clear hg1)
       | (go_at_call 111;(with_reducible refine(HK.out _ HG.out).mono ?_);rintro e w2 ⟨rfl,hw2⟩;subst w2))
      go_ret
      exact⟨rfl,HG.out⟩
    | cons a r =>
      have hey:((a :: r).isEmpty)=false:=rfl
      rw [hey,Bool.false_and]
      go_enter Tryz.func57,Tryz.ntmps57
      go_wp2_with (first
       | (go_at_call 109;(with_reducible refine(HZ.out _).mono ?_);rintro e w1 ⟨rfl,hw1⟩;subst w1)
       | (go_at_call 110;(with_reducible refine(HY.out _).mono ?_);rintro e w1 ⟨rfl,hg1⟩;have HG:=zh hg1;clear hg1))
      go_ret
      exact⟨rfl,HG.out⟩
   ·rw [decide_eq_false hz0,Bool.false_and]
    go_enter Tryz.func57,Tryz.ntmps57
    go_wp2_with (go_at_call 109;(with_reducible refine(HZ.out _).mono ?_);rintro e w1 ⟨rfl,hw1⟩;subst w1)
    go_ret
    exact⟨rfl,Grew.refl _⟩
  ·rw [decide_eq_false h32,Bool.false_and]
   go_enter Tryz.func57,Tryz.ntmps57
   go_wp2
   go_ret
   exact⟨rfl,Grew.refl _⟩
theorem name_any (s:ByteArray) (nm:Bool) (hs:s.size≤1048576) (w:World) (hE:Env w):Calls Tryz.prog 99 #[.string s,.bool nm] w fun e w'=>e=.returned (.bool (if nm then idn s else decide (s=⟨#[]⟩)))∧Grew w w':=by
 have HC:=zh (isid_any s hs w hE)
 clear hE
 cases nm with
 | true =>
   rw [if_pos rfl]
   go_enter Tryz.func99,Tryz.ntmps99
   go_wp2_with (go_at_call 57;(with_reducible refine(HC.out).mono ?_);rintro e w1 ⟨rfl,hg1⟩;have HG:=zh hg1;clear hg1)
   go_ret
   exact⟨rfl,HG.out⟩
 | false =>
   rw [if_neg (by simp)]
   have hk:s.toList.isEmpty=decide (s=⟨#[]⟩):=by
    rw [ByteArray.toList_eq,Bool.eq_iff_iff,List.isEmpty_iff,decide_eq_true_iff]
    exact⟨fun h=>by cases s;simp at h;rw [h],fun h=>by rw [h]⟩
   have HK:=zh hk
   clear hk
   generalize decide (s=⟨#[]⟩)=d at HK ⊢
   go_enter Tryz.func99,Tryz.ntmps99
   go_wp2
   go_ret
   exact⟨ret_bool (by have:=HK.out;simpa using this),Grew.refl _⟩
theorem signed_any (z:Int) (w:World):Calls Tryz.prog 107 #[.int .i16 z] w fun e w'=>e=.returned (.bool (decide (-32767≤z)))∧w=w':=by
 go_enter Tryz.func107,Tryz.ntmps107
 go_wp2
 go_ret
 exact⟨rfl,rfl⟩
theorem isnum_any (z:Int) (w:World):Calls Tryz.prog 108 #[.int .i64 z] w fun e w'=>e=.returned (.bool (num1 z 0))∧w=w':=by
 by_cases h:(0:Int)≤z
 ·have hk:num1 z 0=decide (z≤32767):=by rw [num1,decide_eq_true h,Bool.true_and]
  rw [hk]
  clear hk
  go_enter Tryz.func108,Tryz.ntmps108
  go_wp2
  go_ret
  exact⟨rfl,rfl⟩
 ·have hk:num1 z 0=false:=by rw [num1,decide_eq_false h,Bool.false_and]
  rw [hk]
  clear hk
  go_enter Tryz.func108,Tryz.ntmps108
  go_wp2
  go_ret
  exact⟨rfl,rfl⟩
end Go.Proofs.YtcknpcbkofgdoaaGreatDoor
