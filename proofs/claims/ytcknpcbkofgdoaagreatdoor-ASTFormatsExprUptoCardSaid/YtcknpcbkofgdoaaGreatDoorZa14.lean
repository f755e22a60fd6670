/-
  LAYER 16 (ast), THE LAWS: FormatsExpr.
-/
import Derived.Test.YtcknpcbkofgdoaaGreatDoorZaShort
import Derived.Test.YtcknpcbkofgdoaaGreatDoorZa13
import Derived.Test.YtcknpcbkofgdoaaGreatDoorZa01
import Derived.Test.YtcknpcbkofgdoaaGreatDoorZa04
import Derived.Test.YtcknpcbkofgdoaaGreatDoorZa00
import Derived.Deep.LoopGhost
import Derived.Deep.Cut
import Derived.Shelf.Abstract
namespace Go.Proofs.YtcknpcbkofgdoaaGreatDoor
open Go Go.RowKit Go.IntWalk
set_option linter.unusedSimpArgs false
set_option linter.unusedVariables false
set_option maxRecDepth 8000
section
variable {dst:Option Tmp}{ty:TypeId}{pos:String}{after:Array Edge}{g:Option (Nat × Bool)}{a:Act}{w:World}{T:Value→World→Prop}
end
set_option maxHeartbeats 8000000 in
theorem formatsExpr_walk (x:Xp) (B:Nat→Prop) (w:World) (p:Option Addr) (c:Nat) (hB:∀i,B i→i < w.heap.size) (hX:XL B w p c x.ar) (hz:x.s.size≤1048576∧x.v≤32767) (hE:Env w) (hn:nX x≤1048576) :
 Calls Tryz.prog 4 #[xv x.k x.s x.v x.o p x.ar.length c x.q] w fun e w'=>e=.returned (.bool true)∧Grew w w':=by
 have hcap:x.ar.length≤c:=hX.cap.1
 have hmax:=hX.cap.2.1
 have HAW:=Lib.hid (fun W (hW:Grew w W)=>awake_any W (hE.grew hW))
 have HSU0:∀W,Grew w W→Calls Tryz.prog 15 #[xv x.k x.s x.v x.o p x.ar.length c x.q] W fun e w'=>∃p' c',e=.returned (.slice p' (nX x) c')∧nX x≤c'∧c'≤9223372036854775807∧Grew W w':=fun W hW=>(sub_any x B W p c (fun b hb=>Nat.lt_of_lt_of_le (hB b hb) hW.sz) hz (hX.kept hW) hn).mono (by
  rintro e w' ⟨p',n',c',rfl,h1,h2⟩
  have h3:=h1.len
  rw [subX_len] at h3
  have h4:=(h1.inN hangsX).cap hangsX
  subst h3
  exact⟨p',c',rfl,h4.1,h4.2.1,h2⟩)
 have HC1_:=fun W (hW:Grew w W)=>exprP_any x B W p c (fun b hb=>Nat.lt_of_lt_of_le (hB b hb) hW.sz) (hX.kept hW) hz (hE.grew hW) hn
 have HC2_:=fun W (hW:Grew w W)=>expr_any x B W p c hz (hX.kept hW) hn
 obtain ⟨k,s,vv,o,r,q⟩:=x
 replace hcap:r.length≤c:=hcap
 have HSU:Hid (∀W,Grew w W→Calls Tryz.prog 15 #[xv k s vv o p r.length c q] W fun e w'=>∃p' c',e=.returned (.slice p' (nX ⟨k,s,vv,o,r,q⟩) c')∧nX ⟨k,s,vv,o,r,q⟩≤c'∧c'≤9223372036854775807∧Grew W w'):=Lib.hid HSU0
 have HC1:Hid (∀W,Grew w W→Calls Tryz.prog 16 #[xv k s vv o p r.length c q] W fun e w'=>e=.returned (.string (if okX ⟨k,s,vv,o,r,q⟩=true then ⟨(txX ⟨k,s,vv,o,r,q⟩).toArray⟩ else ⟨#[]⟩))∧Grew W w'):=Lib.hid HC1_
 have HC2:Hid (∀W,Grew w W→Calls Tryz.prog 17 #[xv k s vv o p r.length c q] W fun e w'=>e=.returned (.string (if okX ⟨k,s,vv,o,r,q⟩=true then ⟨(txX ⟨k,s,vv,o,r,q⟩).toArray⟩ else ⟨#[]⟩))∧Grew W w'):=Lib.hid HC2_
 clear HSU0 HC1_ HC2_
 generalize (if okX ⟨k,s,vv,o,r,q⟩=true then (⟨(txX ⟨k,s,vv,o,r,q⟩).toArray⟩:ByteArray) else ⟨#[]⟩)=d at HC1 HC2
 generalize nX ⟨k,s,vv,o,r,q⟩=n at HSU hn
 have HG1:=Lib.hid ((Grew.refl w).alloc (Obj.cells #[.int .i64 k,.string s,.int .i16 vv,.int .i64 o,.slice p r.length c,.int .i64 q] 35))
 clear hB hX hz hE
 show Calls Tryz.prog 4 #[xv k s vv o p r.length c q] w fun e w'=>e=.returned (.bool true)∧Grew w w'
 by_cases hb:200 < n
 ·have hb2:(200:Int) < (n:Int):=by omega
  go_enter Tryz.func4,Tryz.ntmps4
  go_wp2_with (first
   | (go_at_call 11;(with_reducible refine(HAW.out _ HG1.out).mono ?_);rintro e w1 ⟨rfl,g⟩;have HG2:=Lib.hid (HG1.out.trans g);have hbx:=(Blk.new w [.int .i64 k,.string s,.int .i16 vv,.int .i64 o,.slice p r.length c,.int .i64 q] 35).grew g;have q0:w1.cell? ⟨w.heap.size,0,none⟩=some (.int .i64 k):=hbx.cell 0;have q1:w1.cell? ⟨w.heap.size,1,none⟩=some (.string s):=hbx.cell 1;have q2:w1.cell? ⟨w.heap.size,2,none⟩=some (.int .i16 vv):=hbx.cell 2;have q3:w1.cell? ⟨w.heap.size,3,none⟩=some (.int .i64 o):=hbx.cell 3;have q4:w1.cell? ⟨w.heap.size,4,none⟩=some (.slice p r.length c):=hbx.cell 4;have q5:w1.cell? ⟨w.heap.size,5,none⟩=some (.int .i64 q):=hbx.cell 5;clear g hbx)
   | (go_at_call 15;(with_reducible refine(HSU.out _ HG2.out).mono ?_);rintro e w2 ⟨p9,c9,rfl,hn9,hc9,g⟩;have HG3:=Lib.hid (HG2.out.trans g);clear g))
  go_ret
  exact⟨rfl,HG3.out⟩
 ·have hb2:¬ (200:Int) < (n:Int):=by omega
  go_enter Tryz.func4,Tryz.ntmps4
  go_upto_region 5 with (first
   | (go_at_call 11;(with_reducible refine(HAW.out _ HG1.out).mono ?_);rintro e w1 ⟨rfl,g⟩;have HG2:=Lib.hid (HG1.out.trans g);have HBX:=Lib.hid ((Blk.new w [.int .i64 k,.string s,.int .i16 vv,.int .i64 o,.slice p r.length c,.int .i64 q] 35).grew g);have q0:w1.cell? ⟨w.heap.size,0,none⟩=some (.int .i64 k):=HBX.out.cell 0;have q1:w1.cell? ⟨w.heap.size,1,none⟩=some (.string s):=HBX.out.cell 1;have q2:w1.cell? ⟨w.heap.size,2,none⟩=some (.int .i16 vv):=HBX.out.cell 2;have q3:w1.cell? ⟨w.heap.size,3,none⟩=some (.int .i64 o):=HBX.out.cell 3;have q4:w1.cell? ⟨w.heap.size,4,none⟩=some (.slice p r.length c):=HBX.out.cell 4;have q5:w1.cell? ⟨w.heap.size,5,none⟩=some (.int .i64 q):=HBX.out.cell 5;clear g)
   | (go_at_call 15;(with_reducible refine(HSU.out _ HG2.out).mono ?_);rintro e V ⟨p9,c9,rfl,hn9,hc9,g⟩;have HGV:=Lib.hid (HG2.out.trans g);have HBV:=Lib.hid (HBX.out.grew g);clear g))
  have hb1:=HBV.out
  generalize w.heap.size=T at hb1 ⊢
  have d0:Atv ⟨T,0,none⟩ (.int .i64 k) V.drew:=(hb1.grew (Grew.refl _).drw).atv 0 rfl
  have d1:Atv ⟨T,1,none⟩ (.string s) V.drew:=(hb1.grew (Grew.refl _).drw).atv 1 rfl
  have d2:Atv ⟨T,2,none⟩ (.int .i16 vv) V.drew:=(hb1.grew (Grew.refl _).drw).atv 2 rfl
  have d3:Atv ⟨T,3,none⟩ (.int .i64 o) V.drew:=(hb1.grew (Grew.refl _).drw).atv 3 rfl
  have d4:Atv ⟨T,4,none⟩ (.slice p r.length c) V.drew:=(hb1.grew (Grew.refl _).drw).atv 4 rfl
  have d5:Atv ⟨T,5,none⟩ (.int .i64 q) V.drew:=(hb1.grew (Grew.refl _).drw).atv 5 rfl
  clear hb1 HBV HBX HG2 HG1 HAW HSU q0 q1 q2 q3 q4 q5
  refine wp_posts [some 9,some 10,some 11,some 12,some 13,some 2] [Zf,Zf,Zt,Zf,Zf,Zf,Zf,Zf,Zf,Zt,Zt,Zt,Zt,Zt] [fun v _=>v=.agg #[.int .i64 (k),.string s,.int .i16 (vv),.int .i64 (o),.slice p (r.length) (c),.int .i64 (q)],fun v _=>v=.string d,fun v _=>v=.agg #[.int .i64 (k),.string s,.int .i16 (vv),.int .i64 (o),.slice p (r.length) (c),.int .i64 (q)],fun v _=>v=.string d,fun v _=>v=.bool (decide ((d)=(d))),fun v _=>v=.bool (decide ((d)=(d)))] (by kernel_rfl) (by kernel_rfl) rfl ?_ ⟨?_,?_,?_,?_,?_,?_,trivial⟩ ?_
  ·exact⟨Zi,Zi,Zi,Zi,Zi,Zi,trivial⟩
  ·intro u w hR hd;exact rn_ld_35 (ev rfl) (d0.kept hR) (d1.kept hR) (d2.kept hR) (d3.kept hR) (d4.kept hR) (d5.kept hR) Zr
  ·intro u w hR hd;exact runs_c1 en_l9 (ev (hd.1 rfl)) (callp (fun _ e=>e) (HC1.out _ (HGV.out.trans ((Grew.refl _).drw.trans hR))))
  ·intro u w hR hd;exact rn_ld_35 (ev rfl) (d0.kept hR) (d1.kept hR) (d2.kept hR) (d3.kept hR) (d4.kept hR) (d5.kept hR) Zr
  ·intro u w hR hd;exact runs_c1 en_l10 (ev (hd.1 rfl)) (callp (fun _ e=>e) (HC2.out _ (HGV.out.trans ((Grew.refl _).drw.trans hR))))
  ·intro u w hR hd;exact rn_eqs_9 (ev (hd.1 rfl)) (ev (hd.2.1 rfl)) Zr
  ·intro u w hR hd;exact runs_mva (ev (hd.1 rfl)) Zr
  ·intro u w4 hR hh_
   have he:u 2=.bool (decide ((d)=(d))):=hh_ 5 (by decide)
   have HZ:(decide ((d)=(d)))=true:=decide_eq_true rfl
   rw [HZ] at he
   simp only [mixA,mixL,zz9,zz0,he]
   have HG4:Hid (Grew w w4):=Lib.hid (HGV.out.trans ((Grew.refl V).drw.trans hR))
   clear hh_ he hR HGV HZ
   go_wp2
   go_ret
   exact⟨rfl,HG4.out⟩
end Go.Proofs.YtcknpcbkofgdoaaGreatDoor
