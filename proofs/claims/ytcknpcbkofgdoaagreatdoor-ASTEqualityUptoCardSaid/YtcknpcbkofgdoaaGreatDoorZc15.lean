/-
  LAYER 16 (ast), THE LAWS: Equality.
-/
import Derived.Test.YtcknpcbkofgdoaaGreatDoorZcShort
import Derived.Test.YtcknpcbkofgdoaaGreatDoorZc14
import Derived.Test.YtcknpcbkofgdoaaGreatDoorZc08
import Derived.Test.YtcknpcbkofgdoaaGreatDoorZc01
import Derived.Test.YtcknpcbkofgdoaaGreatDoorZc00
import Derived.Deep.LoopGhost
import Derived.Deep.Cut
import Derived.Shelf.Abstract
namespace Go.Proofs.YtcknpcbkofgdoaaGreatDoor
open Go Go.RowKit Go.IntWalk
set_option linter.unusedSimpArgs false
set_option linter.unusedVariables false
set_option maxRecDepth 8000
section
variable {dst:Option Tmp}{ty:TypeId}{pos:String}{after:Array Edge}{g:Option (Nat × Bool)}{a:Act}{w:World}{T:Value→World→Prop}
theorem rn_neq_4 {o1 o2:Operand}{b c:Bool}(hx:a.eval o1=.bool b) (hy:a.eval o2=.bool c) (h:T (.bool (b != c)) w):Runs Tryz.prog ⟨dst,.binOp .neq 4 o1 o2 4,ty,pos,after,g⟩ a w T:=by
 refine Runs.value (v:=.bool (b != c)) (w':=w) ?_ h
 simp only [execOp,hx,hy]
 go_simp
 all_goals (cases b <;> cases c <;> rfl)
theorem rn_idx_26 {x y:Operand}{b o n c:Nat}(i:Nat) (hx:a.eval x=.slice (some ⟨b,o,none⟩) n c) (hy:a.eval y=.int .i64 (i:Int)) (hi:i < n) (h:T (.pointer (some ⟨b,o+i * 8,none⟩)) w):Runs Tryz.prog ⟨dst,.indexAddr 26 x y,ty,pos,after,g⟩ a w T:=by
 have hi2:(i:Int) < (n:Int):=by omega
 refine Runs.value (v:=.pointer (some ⟨b,o+i * 8,none⟩)) (w':=w) ?_ h
 simp only [execOp,hx,hy]
 go_simp
end
theorem en_l11q:Enters Tryz.prog 20:=fun args w=>by go_simp
theorem en_l12q:Enters Tryz.prog 21:=fun args w=>by go_simp
theorem en_l13q:Enters Tryz.prog 22:=fun args w=>by go_simp
theorem eqPg_refl (P:Pg):eqPg P P=true:=(eqPg_dcls P P).2 rfl
set_option maxHeartbeats 32000000 in
theorem equality_walk (P Q:Pg) (A B:Nat→Prop) (w:World) (cpa gpa spa opa hpa tpa:Option Addr) (cca gca sca oca hca tca:Nat) (cpb gpb spb opb hpb tpb:Option Addr) (ccb gcb scb ocb hcb tcb:Nat) (hA:∀b,A b→b < w.heap.size) (hB:∀b,B b→b < w.heap.size) (hp:PgIn A w P cpa gpa spa opa hpa tpa cca gca sca oca hca tca) (hq:PgIn B w Q cpb gpb spb opb hpb tpb ccb gcb scb ocb hcb tcb) (hE:Env w) (hnP:zT P.ts≤1048576) (hnQ:zT Q.ts≤1048576) :
 Calls Tryz.prog 6 #[pgv P cpa gpa spa opa hpa tpa cca gca sca oca hca tca,pgv Q cpb gpb spb opb hpb tpb ccb gcb scb ocb hcb tcb] w fun e w'=>e=.returned (.bool true)∧Grew w w':=by
 have hcaps:=And.intro hp.caps hq.caps
 have HAA0:=Lib.hid hA
 have HBB0:=Lib.hid hB
 have HE:=Lib.hid hE
 have HP:=Lib.hid hp
 have HQ:=Lib.hid hq
 have HNN:Hid (zT P.ts≤1048576∧zT Q.ts≤1048576):=Lib.hid ⟨hnP,hnQ⟩
 have HAW:=Lib.hid (fun W (hW:Grew w W)=>awake_any W (HE.out.grew hW))
 obtain ⟨sa,hsa⟩:∃b,smallP P=b:=⟨_,rfl⟩
 obtain ⟨sb,hsb⟩:∃b,smallP Q=b:=⟨_,rfl⟩
 obtain ⟨ec,hec⟩:∃b,eqPg P Q=b:=⟨_,rfl⟩
 have HSA:Hid (∀W,Grew w W→Calls Tryz.prog 12 #[pgv P cpa gpa spa opa hpa tpa cca gca sca oca hca tca] W fun e w'=>e=.returned (.bool sa)∧Grew W w'):=Lib.hid (fun W hW=>by have h_:=small_any P A W cpa gpa spa opa hpa tpa cca gca sca oca hca tca (fun b hb=>Nat.lt_of_lt_of_le (HAA0.out b hb) hW.sz) (HP.out.kept hW) hnP;rw [hsa] at h_;exact h_)
 have HSB:Hid (∀W,Grew w W→Calls Tryz.prog 12 #[pgv Q cpb gpb spb opb hpb tpb ccb gcb scb ocb hcb tcb] W fun e w'=>e=.returned (.bool sb)∧Grew W w'):=Lib.hid (fun W hW=>by have h_:=small_any Q B W cpb gpb spb opb hpb tpb ccb gcb scb ocb hcb tcb (fun b hb=>Nat.lt_of_lt_of_le (HBB0.out b hb) hW.sz) (HQ.out.kept hW) hnQ;rw [hsb] at h_;exact h_)
 have HEC:Hid (∀W,Grew w W→Calls Tryz.prog 20 #[pgv P cpa gpa spa opa hpa tpa cca gca sca oca hca tca,pgv Q cpb gpb spb opb hpb tpb ccb gcb scb ocb hcb tcb] W fun e w'=>e=.returned (.bool ec)∧Grew W w'):=Lib.hid (fun W hW=>by have h_:=eqPP_any P Q A B W cpa gpa spa opa hpa tpa cca gca sca oca hca tca cpb gpb spb opb hpb tpb ccb gcb scb ocb hcb tcb (HP.out.kept hW) (HQ.out.kept hW);rw [hec] at h_;exact h_)
 have HEA:Hid (∀W,Grew w W→Calls Tryz.prog 20 #[pgv P cpa gpa spa opa hpa tpa cca gca sca oca hca tca,pgv P cpa gpa spa opa hpa tpa cca gca sca oca hca tca] W fun e w'=>e=.returned (.bool true)∧Grew W w'):=Lib.hid (fun W hW=>by have h_:=eqPP_any P P A A W cpa gpa spa opa hpa tpa cca gca sca oca hca tca cpa gpa spa opa hpa tpa cca gca sca oca hca tca (HP.out.kept hW) (HP.out.kept hW);rw [eqPg_refl] at h_;exact h_)
 have HER:Hid (sa=true→sb=true→∀W,Grew w W→Calls Tryz.prog 21 #[pgv P cpa gpa spa opa hpa tpa cca gca sca oca hca tca,pgv Q cpb gpb spb opb hpb tpb ccb gcb scb ocb hcb tcb] W fun e w'=>e=.returned (.bool ec)∧Grew W w'):=Lib.hid (fun h1 h2 W hW=>by have h_:=eqR_any P Q A B W cpa gpa spa opa hpa tpa cca gca sca oca hca tca cpb gpb spb opb hpb tpb ccb gcb scb ocb hcb tcb (HP.out.kept hW) (HQ.out.kept hW) (by have:=small_le (hsa.trans h1);have:=HNN.out;omega) (by have:=small_le (hsb.trans h2);have:=HNN.out;omega);rw [hec] at h_;exact h_)
 have HXt0:Hid (TL A w tpa tca P.ts):=Lib.hid hp.ts
 have HYt0:Hid (TL B w tpb tcb Q.ts):=Lib.hid hq.ts
 clear hA hB hE hp hq hnP hnQ hsa hsb hec HE HP HQ
 obtain ⟨csa,gsa,ssa,osa,hsa,tsa⟩:=P
 obtain ⟨csb,gsb,ssb,osb,hsb,tsb⟩:=Q
 dsimp only at hcaps HSA HSB HEC HEA HER HNN HXt0 HYt0
 show Calls Tryz.prog 6 #[.agg #[.slice cpa csa.length cca,.slice gpa gsa.length gca,.slice spa ssa.length sca,.slice opa osa.length oca,.slice hpa hsa.length hca,.slice tpa tsa.length tca],.agg #[.slice cpb csb.length ccb,.slice gpb gsb.length gcb,.slice spb ssb.length scb,.slice opb osb.length ocb,.slice hpb hsb.length hcb,.slice tpb tsb.length tcb]] w fun e w'=>e=.returned (.bool true)∧Grew w w'
 cases sa with
 | false =>
   clear HEC HEA HER HSB
   go_enter Tryz.func6,Tryz.ntmps6
   go_upto_region 1 with fail
   have hb1:Blk w.heap.size [.slice cpa csa.length cca,.slice gpa gsa.length gca,.slice spa ssa.length sca,.slice opa osa.length oca,.slice hpa hsa.length hca,.slice tpa tsa.length tca] 28 (w.alloc (Obj.cells #[.slice cpa csa.length cca,.slice gpa gsa.length gca,.slice spa ssa.length sca,.slice opa osa.length oca,.slice hpa hsa.length hca,.slice tpa tsa.length tca] 28)):=Blk.new w _ _
   have hb2:Blk (w.alloc (Obj.cells #[.slice cpa csa.length cca,.slice gpa gsa.length gca,.slice spa ssa.length sca,.slice opa osa.length oca,.slice hpa hsa.length hca,.slice tpa tsa.length tca] 28)).heap.size [.slice cpb csb.length ccb,.slice gpb gsb.length gcb,.slice spb ssb.length scb,.slice opb osb.length ocb,.slice hpb hsb.length hcb,.slice tpb tsb.length tcb] 28 ((w.alloc (Obj.cells #[.slice cpa csa.length cca,.slice gpa gsa.length gca,.slice spa ssa.length sca,.slice opa osa.length oca,.slice hpa hsa.length hca,.slice tpa tsa.length tca] 28)).alloc (Obj.cells #[.slice cpb csb.length ccb,.slice gpb gsb.length gcb,.slice spb ssb.length scb,.slice opb osb.length ocb,.slice hpb hsb.length hcb,.slice tpb tsb.length tcb] 28)):=Blk.new _ _ _
   have hb3:=hb1.grew ((Grew.refl _).alloc (Obj.cells #[.slice cpb csb.length ccb,.slice gpb gsb.length gcb,.slice spb ssb.length scb,.slice opb osb.length ocb,.slice hpb hsb.length hcb,.slice tpb tsb.length tcb] 28))
   have hgV:Grew w ((w.alloc (Obj.cells #[.slice cpa csa.length cca,.slice gpa gsa.length gca,.slice spa ssa.length sca,.slice opa osa.length oca,.slice hpa hsa.length hca,.slice tpa tsa.length tca] 28)).alloc (Obj.cells #[.slice cpb csb.length ccb,.slice gpb gsb.length gcb,.slice spb ssb.length scb,.slice opb osb.length ocb,.slice hpb hsb.length hcb,.slice tpb tsb.length tcb] 28)):=((Grew.refl w).alloc _).alloc _
   rw [alloc_sz] at hb2
   try rw [alloc_sz]
   generalize ((w.alloc (Obj.cells #[.slice cpa csa.length cca,.slice gpa gsa.length gca,.slice spa ssa.length sca,.slice opa osa.length oca,.slice hpa hsa.length hca,.slice tpa tsa.length tca] 28)).alloc (Obj.cells #[.slice cpb csb.length ccb,.slice gpb gsb.length gcb,.slice spb ssb.length scb,.slice opb osb.length ocb,.slice hpb hsb.length hcb,.slice tpb tsb.length tcb] 28))=V0 at hb2 hb3 hgV ⊢
   generalize w.heap.size+1=U at hb2 ⊢
   generalize w.heap.size=T at hb3 ⊢
   have HG1:=Lib.hid hgV
   have HA1:=Lib.hid hb3
   have HB1:=Lib.hid hb2
   clear hb1 hb2 hb3 hgV
   go_wp2_with (first
    | (go_at_call 11;(with_reducible refine(HAW.out _ HG1.out).mono ?_);rintro e w1 ⟨rfl,g⟩;have HG2:=Lib.hid (HG1.out.trans g);have HA2:=Lib.hid (HA1.out.grew g);have HB2:=Lib.hid (HB1.out.grew g);clear g;have qa0:w1.cell? ⟨T,0,none⟩=some (.slice cpa csa.length cca):=HA2.out.cell 0;have qa1:w1.cell? ⟨T,1,none⟩=some (.slice gpa gsa.length gca):=HA2.out.cell 1;have qa2:w1.cell? ⟨T,2,none⟩=some (.slice spa ssa.length sca):=HA2.out.cell 2;have qa3:w1.cell? ⟨T,3,none⟩=some (.slice opa osa.length oca):=HA2.out.cell 3;have qa4:w1.cell? ⟨T,4,none⟩=some (.slice hpa hsa.length hca):=HA2.out.cell 4;have qa5:w1.cell? ⟨T,5,none⟩=some (.slice tpa tsa.length tca):=HA2.out.cell 5;have qb0:w1.cell? ⟨U,0,none⟩=some (.slice cpb csb.length ccb):=HB2.out.cell 0;have qb1:w1.cell? ⟨U,1,none⟩=some (.slice gpb gsb.length gcb):=HB2.out.cell 1;have qb2:w1.cell? ⟨U,2,none⟩=some (.slice spb ssb.length scb):=HB2.out.cell 2;have qb3:w1.cell? ⟨U,3,none⟩=some (.slice opb osb.length ocb):=HB2.out.cell 3;have qb4:w1.cell? ⟨U,4,none⟩=some (.slice hpb hsb.length hcb):=HB2.out.cell 4;have qb5:w1.cell? ⟨U,5,none⟩=some (.slice tpb tsb.length tcb):=HB2.out.cell 5)
    | (go_at_call 12;(with_reducible refine(HSA.out _ HG2.out).mono ?_);rintro e w2 ⟨rfl,g⟩;have HG3:=Lib.hid (HG2.out.trans g);have HA3:=Lib.hid (HA2.out.grew g);have HB3:=Lib.hid (HB2.out.grew g);clear g;have qa0:w2.cell? ⟨T,0,none⟩=some (.slice cpa csa.length cca):=HA3.out.cell 0;have qa1:w2.cell? ⟨T,1,none⟩=some (.slice gpa gsa.length gca):=HA3.out.cell 1;have qa2:w2.cell? ⟨T,2,none⟩=some (.slice spa ssa.length sca):=HA3.out.cell 2;have qa3:w2.cell? ⟨T,3,none⟩=some (.slice opa osa.length oca):=HA3.out.cell 3;have qa4:w2.cell? ⟨T,4,none⟩=some (.slice hpa hsa.length hca):=HA3.out.cell 4;have qa5:w2.cell? ⟨T,5,none⟩=some (.slice tpa tsa.length tca):=HA3.out.cell 5;have qb0:w2.cell? ⟨U,0,none⟩=some (.slice cpb csb.length ccb):=HB3.out.cell 0;have qb1:w2.cell? ⟨U,1,none⟩=some (.slice gpb gsb.length gcb):=HB3.out.cell 1;have qb2:w2.cell? ⟨U,2,none⟩=some (.slice spb ssb.length scb):=HB3.out.cell 2;have qb3:w2.cell? ⟨U,3,none⟩=some (.slice opb osb.length ocb):=HB3.out.cell 3;have qb4:w2.cell? ⟨U,4,none⟩=some (.slice hpb hsb.length hcb):=HB3.out.cell 4;have qb5:w2.cell? ⟨U,5,none⟩=some (.slice tpb tsb.length tcb):=HB3.out.cell 5)
    )
   go_ret
   exact⟨rfl,HG3.out⟩
 | true =>
   cases sb with
   | false =>
     clear HEC HEA HER
     go_enter Tryz.func6,Tryz.ntmps6
     go_upto_region 1 with fail
     have hb1:Blk w.heap.size [.slice cpa csa.length cca,.slice gpa gsa.length gca,.slice spa ssa.length sca,.slice opa osa.length oca,.slice hpa hsa.length hca,.slice tpa tsa.length tca] 28 (w.alloc (Obj.cells #[.slice cpa csa.length cca,.slice gpa gsa.length gca,.slice spa ssa.length sca,.slice opa osa.length oca,.slice hpa hsa.length hca,.slice tpa tsa.length tca] 28)):=Blk.new w _ _
     have hb2:Blk (w.alloc (Obj.cells #[.slice cpa csa.length cca,.slice gpa gsa.length gca,.slice spa ssa.length sca,.slice opa osa.length oca,.slice hpa hsa.length hca,.slice tpa tsa.length tca] 28)).heap.size [.slice cpb csb.length ccb,.slice gpb gsb.length gcb,.slice spb ssb.length scb,.slice opb osb.length ocb,.slice hpb hsb.length hcb,.slice tpb tsb.length tcb] 28 ((w.alloc (Obj.cells #[.slice cpa csa.length cca,.slice gpa gsa.length gca,.slice spa ssa.length sca,.slice opa osa.length oca,.slice hpa hsa.length hca,.slice tpa tsa.length tca] 28)).alloc (Obj.cells #[.slice cpb csb.length ccb,.slice gpb gsb.length gcb,.slice spb ssb.length scb,.slice opb osb.length ocb,.slice hpb hsb.length hcb,.slice tpb tsb.length tcb] 28)):=Blk.new _ _ _
     have hb3:=hb1.grew ((Grew.refl _).alloc (Obj.cells #[.slice cpb csb.length ccb,.slice gpb gsb.length gcb,.slice spb ssb.length scb,.slice opb osb.length ocb,.slice hpb hsb.length hcb,.slice tpb tsb.length tcb] 28))
     have hgV:Grew w ((w.alloc (Obj.cells #[.slice cpa csa.length cca,.slice gpa gsa.length gca,.slice spa ssa.length sca,.slice opa osa.length oca,.slice hpa hsa.length hca,.slice tpa tsa.length tca] 28)).alloc (Obj.cells #[.slice cpb csb.length ccb,.slice gpb gsb.length gcb,.slice spb ssb.length scb,.slice opb osb.length ocb,.slice hpb hsb.length hcb,.slice tpb tsb.length tcb] 28)):=((Grew.refl w).alloc _).alloc _
     rw [alloc_sz] at hb2
     try rw [alloc_sz]
     generalize ((w.alloc (Obj.cells #[.slice cpa csa.length cca,.slice gpa gsa.length gca,.slice spa ssa.length sca,.slice opa osa.length oca,.slice hpa hsa.length hca,.slice tpa tsa.length tca] 28)).alloc (Obj.cells #[.slice cpb csb.length ccb,.slice gpb gsb.length gcb,.slice spb ssb.length scb,.slice opb osb.length ocb,.slice hpb hsb.length hcb,.slice tpb tsb.length tcb] 28))=V0 at hb2 hb3 hgV ⊢
     generalize w.heap.size+1=U at hb2 ⊢
     generalize w.heap.size=T at hb3 ⊢
     have HG1:=Lib.hid hgV
     have HA1:=Lib.hid hb3
     have HB1:=Lib.hid hb2
     clear hb1 hb2 hb3 hgV
     go_wp2_with (first
      | (go_at_call 11;(with_reducible refine(HAW.out _ HG1.out).mono ?_);rintro e w1 ⟨rfl,g⟩;have HG2:=Lib.hid (HG1.out.trans g);have HA2:=Lib.hid (HA1.out.grew g);have HB2:=Lib.hid (HB1.out.grew g);clear g;have qa0:w1.cell? ⟨T,0,none⟩=some (.slice cpa csa.length cca):=HA2.out.cell 0;have qa1:w1.cell? ⟨T,1,none⟩=some (.slice gpa gsa.length gca):=HA2.out.cell 1;have qa2:w1.cell? ⟨T,2,none⟩=some (.slice spa ssa.length sca):=HA2.out.cell 2;have qa3:w1.cell? ⟨T,3,none⟩=some (.slice opa osa.length oca):=HA2.out.cell 3;have qa4:w1.cell? ⟨T,4,none⟩=some (.slice hpa hsa.length hca):=HA2.out.cell 4;have qa5:w1.cell? ⟨T,5,none⟩=some (.slice tpa tsa.length tca):=HA2.out.cell 5;have qb0:w1.cell? ⟨U,0,none⟩=some (.slice cpb csb.length ccb):=HB2.out.cell 0;have qb1:w1.cell? ⟨U,1,none⟩=some (.slice gpb gsb.length gcb):=HB2.out.cell 1;have qb2:w1.cell? ⟨U,2,none⟩=some (.slice spb ssb.length scb):=HB2.out.cell 2;have qb3:w1.cell? ⟨U,3,none⟩=some (.slice opb osb.length ocb):=HB2.out.cell 3;have qb4:w1.cell? ⟨U,4,none⟩=some (.slice hpb hsb.length hcb):=HB2.out.cell 4;have qb5:w1.cell? ⟨U,5,none⟩=some (.slice tpb tsb.length tcb):=HB2.out.cell 5)
      | (go_at_call 12;(with_reducible refine(HSA.out _ HG2.out).mono ?_);rintro e w2 ⟨rfl,g⟩;have HG3:=Lib.hid (HG2.out.trans g);have HA3:=Lib.hid (HA2.out.grew g);have HB3:=Lib.hid (HB2.out.grew g);clear g;have qa0:w2.cell? ⟨T,0,none⟩=some (.slice cpa csa.length cca):=HA3.out.cell 0;have qa1:w2.cell? ⟨T,1,none⟩=some (.slice gpa gsa.length gca):=HA3.out.cell 1;have qa2:w2.cell? ⟨T,2,none⟩=some (.slice spa ssa.length sca):=HA3.out.cell 2;have qa3:w2.cell? ⟨T,3,none⟩=some (.slice opa osa.length oca):=HA3.out.cell 3;have qa4:w2.cell? ⟨T,4,none⟩=some (.slice hpa hsa.length hca):=HA3.out.cell 4;have qa5:w2.cell? ⟨T,5,none⟩=some (.slice tpa tsa.length tca):=HA3.out.cell 5;have qb0:w2.cell? ⟨U,0,none⟩=some (.slice cpb csb.length ccb):=HB3.out.cell 0;have qb1:w2.cell? ⟨U,1,none⟩=some (.slice gpb gsb.length gcb):=HB3.out.cell 1;have qb2:w2.cell? ⟨U,2,none⟩=some (.slice spb ssb.length scb):=HB3.out.cell 2;have qb3:w2.cell? ⟨U,3,none⟩=some (.slice opb osb.length ocb):=HB3.out.cell 3;have qb4:w2.cell? ⟨U,4,none⟩=some (.slice hpb hsb.length hcb):=HB3.out.cell 4;have qb5:w2.cell? ⟨U,5,none⟩=some (.slice tpb tsb.length tcb):=HB3.out.cell 5)
      | (go_at_call 12;(with_reducible refine(HSB.out _ HG3.out).mono ?_);rintro e V ⟨rfl,g⟩;have HG4:=Lib.hid (HG3.out.trans g);have HA4:=Lib.hid (HA3.out.grew g);have HB4:=Lib.hid (HB3.out.grew g);clear g;have qa0:V.cell? ⟨T,0,none⟩=some (.slice cpa csa.length cca):=HA4.out.cell 0;have qa1:V.cell? ⟨T,1,none⟩=some (.slice gpa gsa.length gca):=HA4.out.cell 1;have qa2:V.cell? ⟨T,2,none⟩=some (.slice spa ssa.length sca):=HA4.out.cell 2;have qa3:V.cell? ⟨T,3,none⟩=some (.slice opa osa.length oca):=HA4.out.cell 3;have qa4:V.cell? ⟨T,4,none⟩=some (.slice hpa hsa.length hca):=HA4.out.cell 4;have qa5:V.cell? ⟨T,5,none⟩=some (.slice tpa tsa.length tca):=HA4.out.cell 5;have qb0:V.cell? ⟨U,0,none⟩=some (.slice cpb csb.length ccb):=HB4.out.cell 0;have qb1:V.cell? ⟨U,1,none⟩=some (.slice gpb gsb.length gcb):=HB4.out.cell 1;have qb2:V.cell? ⟨U,2,none⟩=some (.slice spb ssb.length scb):=HB4.out.cell 2;have qb3:V.cell? ⟨U,3,none⟩=some (.slice opb osb.length ocb):=HB4.out.cell 3;have qb4:V.cell? ⟨U,4,none⟩=some (.slice hpb hsb.length hcb):=HB4.out.cell 4;have qb5:V.cell? ⟨U,5,none⟩=some (.slice tpb tsb.length tcb):=HB4.out.cell 5)
      )
     go_ret
     exact⟨rfl,HG4.out⟩
   | true =>
     replace HER:=Lib.hid (HER.out rfl rfl)
     go_enter Tryz.func6,Tryz.ntmps6
     go_upto_region 1 with fail
     have hb1:Blk w.heap.size [.slice cpa csa.length cca,.slice gpa gsa.length gca,.slice spa ssa.length sca,.slice opa osa.length oca,.slice hpa hsa.length hca,.slice tpa tsa.length tca] 28 (w.alloc (Obj.cells #[.slice cpa csa.length cca,.slice gpa gsa.length gca,.slice spa ssa.length sca,.slice opa osa.length oca,.slice hpa hsa.length hca,.slice tpa tsa.length tca] 28)):=Blk.new w _ _
     have hb2:Blk (w.alloc (Obj.cells #[.slice cpa csa.length cca,.slice gpa gsa.length gca,.slice spa ssa.length sca,.slice opa osa.length oca,.slice hpa hsa.length hca,.slice tpa tsa.length tca] 28)).heap.size [.slice cpb csb.length ccb,.slice gpb gsb.length gcb,.slice spb ssb.length scb,.slice opb osb.length ocb,.slice hpb hsb.length hcb,.slice tpb tsb.length tcb] 28 ((w.alloc (Obj.cells #[.slice cpa csa.length cca,.slice gpa gsa.length gca,.slice spa ssa.length sca,.slice opa osa.length oca,.slice hpa hsa.length hca,.slice tpa tsa.length tca] 28)).alloc (Obj.cells #[.slice cpb csb.length ccb,.slice gpb gsb.length gcb,.slice spb ssb.length scb,.slice opb osb.length ocb,.slice hpb hsb.length hcb,.slice tpb tsb.length tcb] 28)):=Blk.new _ _ _
     have hb3:=hb1.grew ((Grew.refl _).alloc (Obj.cells #[.slice cpb csb.length ccb,.slice gpb gsb.length gcb,.slice spb ssb.length scb,.slice opb osb.length ocb,.slice hpb hsb.length hcb,.slice tpb tsb.length tcb] 28))
     have hgV:Grew w ((w.alloc (Obj.cells #[.slice cpa csa.length cca,.slice gpa gsa.length gca,.slice spa ssa.length sca,.slice opa osa.length oca,.slice hpa hsa.length hca,.slice tpa tsa.length tca] 28)).alloc (Obj.cells #[.slice cpb csb.length ccb,.slice gpb gsb.length gcb,.slice spb ssb.length scb,.slice opb osb.length ocb,.slice hpb hsb.length hcb,.slice tpb tsb.length tcb] 28)):=((Grew.refl w).alloc _).alloc _
     rw [alloc_sz] at hb2
     try rw [alloc_sz]
     generalize ((w.alloc (Obj.cells #[.slice cpa csa.length cca,.slice gpa gsa.length gca,.slice spa ssa.length sca,.slice opa osa.length oca,.slice hpa hsa.length hca,.slice tpa tsa.length tca] 28)).alloc (Obj.cells #[.slice cpb csb.length ccb,.slice gpb gsb.length gcb,.slice spb ssb.length scb,.slice opb osb.length ocb,.slice hpb hsb.length hcb,.slice tpb tsb.length tcb] 28))=V0 at hb2 hb3 hgV ⊢
     generalize w.heap.size+1=U at hb2 ⊢
     generalize w.heap.size=T at hb3 ⊢
     have HG1:=Lib.hid hgV
     have HA1:=Lib.hid hb3
     have HB1:=Lib.hid hb2
     clear hb1 hb2 hb3 hgV
     go_upto_region 5 with (first
      | (go_at_call 11;(with_reducible refine(HAW.out _ HG1.out).mono ?_);rintro e w1 ⟨rfl,g⟩;have HG2:=Lib.hid (HG1.out.trans g);have HA2:=Lib.hid (HA1.out.grew g);have HB2:=Lib.hid (HB1.out.grew g);clear g;have qa0:w1.cell? ⟨T,0,none⟩=some (.slice cpa csa.length cca):=HA2.out.cell 0;have qa1:w1.cell? ⟨T,1,none⟩=some (.slice gpa gsa.length gca):=HA2.out.cell 1;have qa2:w1.cell? ⟨T,2,none⟩=some (.slice spa ssa.length sca):=HA2.out.cell 2;have qa3:w1.cell? ⟨T,3,none⟩=some (.slice opa osa.length oca):=HA2.out.cell 3;have qa4:w1.cell? ⟨T,4,none⟩=some (.slice hpa hsa.length hca):=HA2.out.cell 4;have qa5:w1.cell? ⟨T,5,none⟩=some (.slice tpa tsa.length tca):=HA2.out.cell 5;have qb0:w1.cell? ⟨U,0,none⟩=some (.slice cpb csb.length ccb):=HB2.out.cell 0;have qb1:w1.cell? ⟨U,1,none⟩=some (.slice gpb gsb.length gcb):=HB2.out.cell 1;have qb2:w1.cell? ⟨U,2,none⟩=some (.slice spb ssb.length scb):=HB2.out.cell 2;have qb3:w1.cell? ⟨U,3,none⟩=some (.slice opb osb.length ocb):=HB2.out.cell 3;have qb4:w1.cell? ⟨U,4,none⟩=some (.slice hpb hsb.length hcb):=HB2.out.cell 4;have qb5:w1.cell? ⟨U,5,none⟩=some (.slice tpb tsb.length tcb):=HB2.out.cell 5)
      | (go_at_call 12;(with_reducible refine(HSA.out _ HG2.out).mono ?_);rintro e w2 ⟨rfl,g⟩;have HG3:=Lib.hid (HG2.out.trans g);have HA3:=Lib.hid (HA2.out.grew g);have HB3:=Lib.hid (HB2.out.grew g);clear g;have qa0:w2.cell? ⟨T,0,none⟩=some (.slice cpa csa.length cca):=HA3.out.cell 0;have qa1:w2.cell? ⟨T,1,none⟩=some (.slice gpa gsa.length gca):=HA3.out.cell 1;have qa2:w2.cell? ⟨T,2,none⟩=some (.slice spa ssa.length sca):=HA3.out.cell 2;have qa3:w2.cell? ⟨T,3,none⟩=some (.slice opa osa.length oca):=HA3.out.cell 3;have qa4:w2.cell? ⟨T,4,none⟩=some (.slice hpa hsa.length hca):=HA3.out.cell 4;have qa5:w2.cell? ⟨T,5,none⟩=some (.slice tpa tsa.length tca):=HA3.out.cell 5;have qb0:w2.cell? ⟨U,0,none⟩=some (.slice cpb csb.length ccb):=HB3.out.cell 0;have qb1:w2.cell? ⟨U,1,none⟩=some (.slice gpb gsb.length gcb):=HB3.out.cell 1;have qb2:w2.cell? ⟨U,2,none⟩=some (.slice spb ssb.length scb):=HB3.out.cell 2;have qb3:w2.cell? ⟨U,3,none⟩=some (.slice opb osb.length ocb):=HB3.out.cell 3;have qb4:w2.cell? ⟨U,4,none⟩=some (.slice hpb hsb.length hcb):=HB3.out.cell 4;have qb5:w2.cell? ⟨U,5,none⟩=some (.slice tpb tsb.length tcb):=HB3.out.cell 5)
      | (go_at_call 12;(with_reducible refine(HSB.out _ HG3.out).mono ?_);rintro e V ⟨rfl,g⟩;have HG4:=Lib.hid (HG3.out.trans g);have HA4:=Lib.hid (HA3.out.grew g);have HB4:=Lib.hid (HB3.out.grew g);clear g;have qa0:V.cell? ⟨T,0,none⟩=some (.slice cpa csa.length cca):=HA4.out.cell 0;have qa1:V.cell? ⟨T,1,none⟩=some (.slice gpa gsa.length gca):=HA4.out.cell 1;have qa2:V.cell? ⟨T,2,none⟩=some (.slice spa ssa.length sca):=HA4.out.cell 2;have qa3:V.cell? ⟨T,3,none⟩=some (.slice opa osa.length oca):=HA4.out.cell 3;have qa4:V.cell? ⟨T,4,none⟩=some (.slice hpa hsa.length hca):=HA4.out.cell 4;have qa5:V.cell? ⟨T,5,none⟩=some (.slice tpa tsa.length tca):=HA4.out.cell 5;have qb0:V.cell? ⟨U,0,none⟩=some (.slice cpb csb.length ccb):=HB4.out.cell 0;have qb1:V.cell? ⟨U,1,none⟩=some (.slice gpb gsb.length gcb):=HB4.out.cell 1;have qb2:V.cell? ⟨U,2,none⟩=some (.slice spb ssb.length scb):=HB4.out.cell 2;have qb3:V.cell? ⟨U,3,none⟩=some (.slice opb osb.length ocb):=HB4.out.cell 3;have qb4:V.cell? ⟨U,4,none⟩=some (.slice hpb hsb.length hcb):=HB4.out.cell 4;have qb5:V.cell? ⟨U,5,none⟩=some (.slice tpb tsb.length tcb):=HB4.out.cell 5)
      )
     have hb1:=HA4.out
     have hb2:=HB4.out
     have HGV:=HG4
     have d0:Atv ⟨T,0,none⟩ (.slice cpa csa.length cca) V.drew:=(hb1.grew (Grew.refl _).drw).atv 0 rfl
     have d1:Atv ⟨T,1,none⟩ (.slice gpa gsa.length gca) V.drew:=(hb1.grew (Grew.refl _).drw).atv 1 rfl
     have d2:Atv ⟨T,2,none⟩ (.slice spa ssa.length sca) V.drew:=(hb1.grew (Grew.refl _).drw).atv 2 rfl
     have d3:Atv ⟨T,3,none⟩ (.slice opa osa.length oca) V.drew:=(hb1.grew (Grew.refl _).drw).atv 3 rfl
     have d4:Atv ⟨T,4,none⟩ (.slice hpa hsa.length hca) V.drew:=(hb1.grew (Grew.refl _).drw).atv 4 rfl
     have d5:Atv ⟨T,5,none⟩ (.slice tpa tsa.length tca) V.drew:=(hb1.grew (Grew.refl _).drw).atv 5 rfl
     have e0:Atv ⟨U,0,none⟩ (.slice cpb csb.length ccb) V.drew:=(hb2.grew (Grew.refl _).drw).atv 0 rfl
     have e1:Atv ⟨U,1,none⟩ (.slice gpb gsb.length gcb) V.drew:=(hb2.grew (Grew.refl _).drw).atv 1 rfl
     have e2:Atv ⟨U,2,none⟩ (.slice spb ssb.length scb) V.drew:=(hb2.grew (Grew.refl _).drw).atv 2 rfl
     have e3:Atv ⟨U,3,none⟩ (.slice opb osb.length ocb) V.drew:=(hb2.grew (Grew.refl _).drw).atv 3 rfl
     have e4:Atv ⟨U,4,none⟩ (.slice hpb hsb.length hcb) V.drew:=(hb2.grew (Grew.refl _).drw).atv 4 rfl
     have e5:Atv ⟨U,5,none⟩ (.slice tpb tsb.length tcb) V.drew:=(hb2.grew (Grew.refl _).drw).atv 5 rfl
     have HXt:Hid (TL A V tpa tca tsa):=Lib.hid (HXt0.out.kept HGV.out)
     have HYt:Hid (TL B V tpb tcb tsb):=Lib.hid (HYt0.out.kept HGV.out)
     have HAA:Hid (∀b,A b→b < V.heap.size):=Lib.hid (fun b hb=>Nat.lt_of_lt_of_le (HAA0.out b hb) HGV.out.sz)
     have HBB:Hid (∀b,B b→b < V.heap.size):=Lib.hid (fun b hb=>Nat.lt_of_lt_of_le (HBB0.out b hb) HGV.out.sz)
     clear hb1 hb2 HG1 HG2 HG3 HA1 HA2 HA3 HB1 HB2 HB3 HAW HSA HSB HXt0 HYt0 qa0 qb0 qa1 qb1 qa2 qb2 qa3 qb3 qa4 qb4 qa5 qb5
     refine wp_posts [some 20,some 21,some 22,some 23,some 24,some 25,some 26,some 27,some 28,some 29,some 30,some 31,some 32] [Zf,Zf,Zf,Zf,Zf,Zf,Zf,Zf,Zf,Zf,Zf,Zf,Zf,Zf,Zf,Zf,Zf,Zf,Zf,Zf,Zt,Zt,Zt,Zt,Zt,Zt,Zt,Zt,Zt,Zt,Zt,Zt,Zt,Zf,Zf,Zf,Zf,Zf,Zf,Zf,Zf,Zf,Zf,Zf,Zf,Zf,Zf,Zf,Zf,Zf,Zf,Zf,Zf,Zf,Zf,Zf,Zf,Zf,Zf,Zf,Zf,Zf,Zf,Zf,Zf,Zf,Zf,Zf,Zf,Zf,Zf,Zf,Zf,Zf,Zf,Zf,Zf,Zf,Zf,Zf,Zf,Zf,Zf,Zf,Zf] [fun v _=>v=.agg #[.slice cpa (csa.length) (cca),.slice gpa (gsa.length) (gca),.slice spa (ssa.length) (sca),.slice opa (osa.length) (oca),.slice hpa (hsa.length) (hca),.slice tpa (tsa.length) (tca)],fun v _=>v=.agg #[.slice cpb (csb.length) (ccb),.slice gpb (gsb.length) (gcb),.slice spb (ssb.length) (scb),.slice opb (osb.length) (ocb),.slice hpb (hsb.length) (hcb),.slice tpb (tsb.length) (tcb)],fun v _=>v=.bool (ec),fun v _=>v=.agg #[.slice cpa (csa.length) (cca),.slice gpa (gsa.length) (gca),.slice spa (ssa.length) (sca),.slice opa (osa.length) (oca),.slice hpa (hsa.length) (hca),.slice tpa (tsa.length) (tca)],fun v _=>v=.agg #[.slice cpb (csb.length) (ccb),.slice gpb (gsb.length) (gcb),.slice spb (ssb.length) (scb),.slice opb (osb.length) (ocb),.slice hpb (hsb.length) (hcb),.slice tpb (tsb.length) (tcb)],fun v _=>v=.bool (ec),fun v _=>v=.bool ((ec) != (ec)),fun v _=>v=.bool ((ec) != (ec)),fun v _=>((((ec) != (ec))=false)→v=.agg #[.slice cpa (csa.length) (cca),.slice gpa (gsa.length) (gca),.slice spa (ssa.length) (sca),.slice opa (osa.length) (oca),.slice hpa (hsa.length) (hca),.slice tpa (tsa.length) (tca)])∧(¬ (((ec) != (ec))=false)→v=undef),fun v _=>((((ec) != (ec))=false)→v=.agg #[.slice cpa (csa.length) (cca),.slice gpa (gsa.length) (gca),.slice spa (ssa.length) (sca),.slice opa (osa.length) (oca),.slice hpa (hsa.length) (hca),.slice tpa (tsa.length) (tca)])∧(¬ (((ec) != (ec))=false)→v=undef),fun v _=>((((ec) != (ec))=false)→v=.bool (true))∧(¬ (((ec) != (ec))=false)→v=undef),fun v _=>((((ec) != (ec))=false)→v=.bool (false))∧(¬ (((ec) != (ec))=false)→v=undef),fun v _=>v=.bool (((ec) != (ec))||(false))] (by kernel_rfl) (by kernel_rfl) rfl ?_ ⟨?_,?_,?_,?_,?_,?_,?_,?_,?_,?_,?_,?_,?_,trivial⟩ ?_
     ·exact⟨Zi,Zi,Zi,Zi,Zi,Zi,Zi,Zi,Zi,Zi,Zi,Zi,Zi,trivial⟩
     ·intro u w hR hd;exact rn_ld_28 (ev rfl) (d0.kept hR) (d1.kept hR) (d2.kept hR) (d3.kept hR) (d4.kept hR) (d5.kept hR) Zr
     ·intro u w hR hd;exact rn_ld_28 (ev rfl) (e0.kept hR) (e1.kept hR) (e2.kept hR) (e3.kept hR) (e4.kept hR) (e5.kept hR) Zr
     ·intro u w hR hd;exact runs_c2 en_l11q (ev (hd.1 rfl)) (ev (hd.2.1 rfl)) (callp (fun _ e=>e) (HEC.out _ (HGV.out.trans ((Grew.refl _).drw.trans hR))))
     ·intro u w hR hd;exact rn_ld_28 (ev rfl) (d0.kept hR) (d1.kept hR) (d2.kept hR) (d3.kept hR) (d4.kept hR) (d5.kept hR) Zr
     ·intro u w hR hd;exact rn_ld_28 (ev rfl) (e0.kept hR) (e1.kept hR) (e2.kept hR) (e3.kept hR) (e4.kept hR) (e5.kept hR) Zr
     ·intro u w hR hd;exact runs_c2 en_l12q (ev (hd.1 rfl)) (ev (hd.2.1 rfl)) (callp (fun _ e=>e) (HER.out _ (HGV.out.trans ((Grew.refl _).drw.trans hR))))
     ·intro u w hR hd;exact rn_neq_4 (ev (hd.1 rfl)) (ev (hd.2.1 rfl)) Zr
     ·intro u w hR hd;exact runs_mv (ev (hd.1 rfl)) Zr
     ·intro u w hR hd;exact⟨fun hg=>have hG:(((ec) != (ec))=false):=Value.bool.inj ((hd.1 rfl).symm.trans hg);rn_ld_28 (ev rfl) (d0.kept hR) (d1.kept hR) (d2.kept hR) (d3.kept hR) (d4.kept hR) (d5.kept hR) (Zs hG),Zn (hd.1 rfl)⟩
     ·intro u w hR hd;exact⟨fun hg=>have hG:(((ec) != (ec))=false):=Value.bool.inj ((hd.1 rfl).symm.trans hg);rn_ld_28 (ev rfl) (d0.kept hR) (d1.kept hR) (d2.kept hR) (d3.kept hR) (d4.kept hR) (d5.kept hR) (Zs hG),Zn (hd.1 rfl)⟩
     ·intro u w hR hd;exact⟨fun hg=>have hG:(((ec) != (ec))=false):=Value.bool.inj ((hd.2.2.1 rfl).symm.trans hg);runs_c2 en_l11q (ev ((hd.1 rfl).1 hG)) (ev ((hd.2.1 rfl).1 hG)) (callp (fun _ e=>⟨fun _=>e,fun hn=>absurd hG hn⟩) (HEA.out _ (HGV.out.trans ((Grew.refl _).drw.trans hR)))),Zn (hd.2.2.1 rfl)⟩
     ·intro u w hR hd;exact⟨fun hg=>have hG:(((ec) != (ec))=false):=Value.bool.inj ((hd.2.1 rfl).symm.trans hg);runs_nt (ev ((hd.1 rfl).1 hG)) (Zs hG),Zn (hd.2.1 rfl)⟩
     ·intro u w hR hd;exact runs_or2 (ev (hd.1 rfl)) (fun hb=>ev ((hd.2.1 rfl).1 hb)) Zr
     ·intro u w4 hR hh_
      have he:u 32=.bool (((ec) != (ec))||(false)):=hh_ 12 (by decide)
      have HZ:(((ec) != (ec))||(false))=false:=by cases ec <;> rfl
      rw [HZ] at he
      simp only [mixA,mixL,zz9,zz0,he]
      clear HZ
      have hbA:=HA4.out.grew ((Grew.refl V).drw.trans hR)
      have HGW:Hid (Grew V w4):=Lib.hid ((Grew.refl V).drw.trans hR)
      have qa5:w4.cell? ⟨T,5,none⟩=some (.slice tpa tsa.length tca):=hbA.cell 5
      clear hbA hh_ he hR d0 e0 d1 e1 d2 e2 d3 e3 d4 e4 d5 e5 HEC HEA HER
      go_wp2
      go_loopg [5,6,7,8,9,36] tsa.length (fun gg v5_ v6_ v7_ v8_ v9_ iv wr=>∃(j:Nat),iv=.int .i64 (j:Int)∧j≤tsa.length∧gg=tsa.length - j∧Hid (Grew V wr))
      case atStart=>exact⟨0,rfl,Nat.zero_le _,rfl,HGW⟩
      case round =>
       obtain ⟨j,rfl,hj,rfl,HG⟩:=hrel
       by_cases hlt:j < tsa.length
       ·have HNZ:=Lib.hid (zT_mem (List.getElem_mem hlt))
        obtain ⟨bz,oz,pbz,cbz,rfl,hbz,hboz,hcz⟩:=HXt.out.get j hlt
        have hmz:=List.getElem_mem hlt
        have htz:=List.take_succ_eq_append_getElem hlt
        have HLz:=Lib.hid (Nat.succ_le_of_lt hlt)
        replace HNZ:Hid (nSs tsa[j].b+mSs tsa[j].b≤zT tsa):=HNZ
        generalize tsa[j]=xz at *
        obtain ⟨sz,iz,dz,hz,mz,nz,yz,qz⟩:=xz
        replace hbz:sz.size≤1048576∧hz.size≤1048576∧mz.size≤1048576:=hbz.2
        have HTz:=Lib.hid htz
        have HYz:Hid (SL A V pbz cbz yz):=Lib.hid hboz
        have hcapz:yz.length≤cbz:=hboz.cap.1
        have hmaxz:=hboz.cap.2.1
        replace hcz:∀i_ u_,(tdc ⟨sz,iz,dz,hz,mz,nz,pbz,yz.length,cbz,qz⟩)[i_]?=some u_→wr.cell? ⟨bz,oz+j * 8+i_,none⟩=some u_:=fun i_ u_ h_=>Atv.kept (hcz i_ u_ h_) HG.out
        have cz0:wr.cell? ⟨bz,oz+j * 8,none⟩=some (.string sz):=by simpa using hcz 0 _ rfl
        have cz1:wr.cell? ⟨bz,oz+j * 8+1,none⟩=some (.int .i64 iz):=hcz 1 _ rfl
        have cz2:wr.cell? ⟨bz,oz+j * 8+2,none⟩=some (.int .i64 dz):=hcz 2 _ rfl
        have cz3:wr.cell? ⟨bz,oz+j * 8+3,none⟩=some (.string hz):=hcz 3 _ rfl
        have cz4:wr.cell? ⟨bz,oz+j * 8+4,none⟩=some (.string mz):=hcz 4 _ rfl
        have cz5:wr.cell? ⟨bz,oz+j * 8+5,none⟩=some (.int .i64 nz):=hcz 5 _ rfl
        have cz6:wr.cell? ⟨bz,oz+j * 8+6,none⟩=some (.slice pbz yz.length cbz):=hcz 6 _ rfl
        have cz7:wr.cell? ⟨bz,oz+j * 8+7,none⟩=some (.int .i64 qz):=hcz 7 _ rfl
        clear hcz hboz htz
        go_upto_region 10 with fail
        have hb1:Blk wr.heap.size [.string sz,.int .i64 iz,.int .i64 dz,.string hz,.string mz,.int .i64 nz,.slice pbz yz.length cbz,.int .i64 qz] 42 (wr.alloc (Obj.cells #[.string sz,.int .i64 iz,.int .i64 dz,.string hz,.string mz,.int .i64 nz,.slice pbz yz.length cbz,.int .i64 qz] 42)):=Blk.new wr _ _
        have hg8:Grew wr (wr.alloc (Obj.cells #[.string sz,.int .i64 iz,.int .i64 dz,.string hz,.string mz,.int .i64 nz,.slice pbz yz.length cbz,.int .i64 qz] 42)):=(Grew.refl wr).alloc _
        generalize (wr.alloc (Obj.cells #[.string sz,.int .i64 iz,.int .i64 dz,.string hz,.string mz,.int .i64 nz,.slice pbz yz.length cbz,.int .i64 qz] 42))=V8 at hb1 hg8 ⊢
        generalize wr.heap.size=T9 at hb1 ⊢
        have HG8:Hid (Grew V V8):=Lib.hid (HG.out.trans hg8)
        have hbB:=HB4.out.grew HG8.out
        have qb5:V8.cell? ⟨U,5,none⟩=some (.slice tpb tsb.length tcb):=hbB.cell 5
        clear hg8 cz0 cz1 cz2 cz3 cz4 cz5 cz6 cz7
        by_cases hlt2:j < tsb.length
        ·have hltb:¬ ((tsb.length:Int)≤(j:Int)):=by omega
         have HNU:=Lib.hid (zT_mem (List.getElem_mem hlt2))
         obtain ⟨bu,ou,pbu,cbu,rfl,hbu,hbou,hcu⟩:=HYt.out.get j hlt2
         have hmu:=List.getElem_mem hlt2
         have htu:=List.take_succ_eq_append_getElem hlt2
         have HLu:=Lib.hid (Nat.succ_le_of_lt hlt2)
         replace HNU:Hid (nSs tsb[j].b+mSs tsb[j].b≤zT tsb):=HNU
         generalize tsb[j]=xu at *
         obtain ⟨su,iu,du,hu,mu,nu,yu,qu⟩:=xu
         replace hbu:su.size≤1048576∧hu.size≤1048576∧mu.size≤1048576:=hbu.2
         have HTu:=Lib.hid htu
         have HYu:Hid (SL B V pbu cbu yu):=Lib.hid hbou
         have hcapu:yu.length≤cbu:=hbou.cap.1
         have hmaxu:=hbou.cap.2.1
         replace hcu:∀i_ u_,(tdc ⟨su,iu,du,hu,mu,nu,pbu,yu.length,cbu,qu⟩)[i_]?=some u_→V8.cell? ⟨bu,ou+j * 8+i_,none⟩=some u_:=fun i_ u_ h_=>Atv.kept (hcu i_ u_ h_) HG8.out
         have cu0:V8.cell? ⟨bu,ou+j * 8,none⟩=some (.string su):=by simpa using hcu 0 _ rfl
         have cu1:V8.cell? ⟨bu,ou+j * 8+1,none⟩=some (.int .i64 iu):=hcu 1 _ rfl
         have cu2:V8.cell? ⟨bu,ou+j * 8+2,none⟩=some (.int .i64 du):=hcu 2 _ rfl
         have cu3:V8.cell? ⟨bu,ou+j * 8+3,none⟩=some (.string hu):=hcu 3 _ rfl
         have cu4:V8.cell? ⟨bu,ou+j * 8+4,none⟩=some (.string mu):=hcu 4 _ rfl
         have cu5:V8.cell? ⟨bu,ou+j * 8+5,none⟩=some (.int .i64 nu):=hcu 5 _ rfl
         have cu6:V8.cell? ⟨bu,ou+j * 8+6,none⟩=some (.slice pbu yu.length cbu):=hcu 6 _ rfl
         have cu7:V8.cell? ⟨bu,ou+j * 8+7,none⟩=some (.int .i64 qu):=hcu 7 _ rfl
         clear hcu hbou htu
         have HNB:Hid (nSs yz≤1048576∧mSs yz≤1048576∧nSs yu≤1048576∧mSs yu≤1048576):=Lib.hid (by
          have h1:nSs yz+mSs yz≤zT tsa:=HNZ.out
          have h2:nSs yu+mSs yu≤zT tsb:=HNU.out
          have h3:=HNN.out
          omega)
         go_upto_region 11 with fail
         have hgd:Grew V8 V8.drew:=(Grew.refl _).drw
         have d6:Atv ⟨T9,6,none⟩ (.slice pbz yz.length cbz) V8.drew:=(hb1.grew hgd).atv 6 rfl
         have d5:Atv ⟨U,5,none⟩ (.slice (some ⟨bu,ou,none⟩) tsb.length tcb) V8.drew:=(hbB.grew hgd).atv 5 rfl
         have f6:Atv ⟨bu,ou+j * 8+6,none⟩ (.slice pbu yu.length cbu) V8.drew:=Atv.kept (R:=Grew) cu6 hgd
         have HGO:=HG8
         have hgw9:∀W,Grew V8.drew W→Grew V W:=fun W h=>HG8.out.trans (hgd.trans h)
         clear hb1 hbB qb5 cu0 cu1 cu2 cu3 cu4 cu5 cu6 cu7 hgd
         refine wp_posts [some 46,some 47,some 48,some 49,some 50,some 51,some 52,some 53,some 54,some 55,some 7,some 8] [Zf,Zf,Zf,Zf,Zf,Zf,Zf,Zt,Zt,Zf,Zf,Zf,Zf,Zf,Zf,Zf,Zf,Zf,Zf,Zf,Zf,Zf,Zf,Zf,Zf,Zf,Zf,Zf,Zf,Zf,Zf,Zf,Zf,Zf,Zf,Zf,Zf,Zf,Zf,Zf,Zf,Zf,Zf,Zf,Zf,Zf,Zt,Zt,Zt,Zt,Zt,Zt,Zt,Zt,Zt,Zt,Zf,Zf,Zf,Zf,Zf,Zf,Zf,Zf,Zf,Zf,Zf,Zf,Zf,Zf,Zf,Zf,Zf,Zf,Zf,Zf,Zf,Zf,Zf,Zf,Zf,Zf,Zf,Zf,Zf] [fun v _=>v=.pointer (some ⟨T9,6,none⟩),fun v _=>v=.slice pbz yz.length cbz,fun v w=>∃p_ c_,v=.slice p_ (expL yz).length c_∧InN XsAt 6 xdc A w p_ (expL yz).length c_ (expL yz),fun v _=>v=.pointer (some ⟨U,5,none⟩),fun v _=>v=.slice (some ⟨bu,ou,none⟩) tsb.length tcb,fun v _=>v=.int .i64 ((j:Nat):Int),fun v _=>v=.pointer (some ⟨bu,ou+j * 8,none⟩),fun v _=>v=.pointer (some ⟨bu,ou+j * 8+6,none⟩),fun v _=>v=.slice pbu yu.length cbu,fun v w=>∃p_ c_,v=.slice p_ (expL yu).length c_∧InN XsAt 6 xdc B w p_ (expL yu).length c_ (expL yu),fun v w=>∃p_ c_,v=.slice p_ (expL yz).length c_∧InN XsAt 6 xdc A w p_ (expL yz).length c_ (expL yz),fun v w=>∃p_ c_,v=.slice p_ (expL yu).length c_∧InN XsAt 6 xdc B w p_ (expL yu).length c_ (expL yu)] (by kernel_rfl) (by kernel_rfl) rfl ?_ ⟨?_,?_,?_,?_,?_,?_,?_,?_,?_,?_,?_,?_,trivial⟩ ?_
         ·exact⟨Zi,Zi,fun _ _ _ hg ⟨p_,c_,h1,h2⟩=>⟨p_,c_,h1,h2.kept hangsX hg⟩,Zi,Zi,Zi,Zi,Zi,Zi,fun _ _ _ hg ⟨p_,c_,h1,h2⟩=>⟨p_,c_,h1,h2.kept hangsX hg⟩,fun _ _ _ hg ⟨p_,c_,h1,h2⟩=>⟨p_,c_,h1,h2.kept hangsX hg⟩,fun _ _ _ hg ⟨p_,c_,h1,h2⟩=>⟨p_,c_,h1,h2.kept hangsX hg⟩,trivial⟩
         ·intro u w hR hd;exact rn_fld_42_6 (ev rfl) Zr
         ·intro u w hR hd;exact rn_ld_40 (ev (hd.1 rfl)) (d6.kept hR) Zr
         ·intro u w hR hd;exact runs_c1 en_l13q (ev (hd.1 rfl)) ((exprs_any yz A w (pbz) (cbz) (fun b hb=>Nat.lt_of_lt_of_le (HAA.out b hb) (hgw9 w hR).sz) (HYz.out.kept (hgw9 w hR)) (by have:=HNB.out;omega) (by have:=HNB.out;omega)).mono fun e w9 ⟨p_,n_,c_,h1,h2,h3⟩=>⟨_,h1,h3,p_,c_,by rw [h2.len],by have h4:=h2.inN hangsX;rw [h2.len] at h4;exact h4⟩)
         ·intro u w hR hd;exact rn_fld_28_5 (ev rfl) Zr
         ·intro u w hR hd;exact rn_ld_26 (ev (hd.1 rfl)) (d5.kept hR) Zr
         ·intro u w hR hd;exact runs_mv (ev rfl) Zr
         ·intro u w hR hd;exact rn_idx_26 j (ev (hd.1 rfl)) (ev (hd.2.1 rfl)) hlt2 Zr
         ·intro u w hR hd;exact rn_fld_42_6 (ev (hd.1 rfl)) Zr
         ·intro u w hR hd;exact rn_ld_40 (ev (hd.1 rfl)) (f6.kept hR) Zr
         ·intro u w hR hd;exact runs_c1 en_l13q (ev (hd.1 rfl)) ((exprs_any yu B w (pbu) (cbu) (fun b hb=>Nat.lt_of_lt_of_le (HBB.out b hb) (hgw9 w hR).sz) (HYu.out.kept (hgw9 w hR)) (by have:=HNB.out;omega) (by have:=HNB.out;omega)).mono fun e w9 ⟨p_,n_,c_,h1,h2,h3⟩=>⟨_,h1,h3,p_,c_,by rw [h2.len],by have h4:=h2.inN hangsX;rw [h2.len] at h4;exact h4⟩)
         ·intro u w hR hd
          obtain ⟨p_,c_,h1,h2⟩:=hd.1 rfl
          exact runs_mva (ev h1) ⟨Grew.refl _,p_,c_,rfl,h2⟩
         ·intro u w hR hd
          obtain ⟨p_,c_,h1,h2⟩:=hd.1 rfl
          exact runs_mva (ev h1) ⟨Grew.refl _,p_,c_,rfl,h2⟩
         ·intro u W2 hR hh
          obtain ⟨px,cx,h7,hx⟩:=hh 10 (by decide)
          obtain ⟨py,cy,h8,hy⟩:=hh 11 (by decide)
          replace h7:u 7=.slice px (expL yz).length cx:=h7
          replace h8:u 8=.slice py (expL yu).length cy:=h8
          have HX:=Lib.hid hx
          have HY:=Lib.hid hy
          have hcx:=hx.cap hangsX
          have hcy:=hy.cap hangsX
          have HGQ:Hid (Grew V W2):=Lib.hid (HGO.out.trans ((Grew.refl _).drw.trans hR))
          simp only [mixA,mixL,zz9,zz0,h7,h8]
          clear hh hR h7 h8 hx hy d5 d6 f6 hgw9
          generalize expL yz=lx at HX hcx ⊢
          generalize expL yu=ly at HY hcy ⊢
          rcases Nat.le_total lx.length ly.length with hmn | hmn
          ·have hmn2:(lx.length:Int)≤(ly.length:Int):=by omega
           go_wp2
           go_loopg [9,61] lx.length (fun gg v9_ iv wr=>∃(k:Nat),iv=.int .i64 (k:Int)∧k≤lx.length∧gg=lx.length - k∧Hid (Grew W2 wr))
           case atStart=>exact⟨0,rfl,Nat.zero_le _,rfl,Lib.hid (Grew.refl _)⟩
           case round =>
            obtain ⟨k,rfl,hk,rfl,HGi⟩:=hrel
            by_cases hlk:k < lx.length
            ·have hl1:k < lx.length:=by omega
             have hl2:k < ly.length:=by omega
             have HLK:=Lib.hid (Nat.succ_le_of_lt hlk)
             obtain ⟨ba,oa,pa,ca,rfl,hba,haa,hca⟩:=HX.out.getX k hl1
             generalize lx[k]=xa at hba haa hca
             obtain ⟨ka,sa,va,o_a,ra,qa⟩:=xa
             replace haa:XL A W2 pa ca ra:=haa
             replace hca:∀i_ u_,(xdc ⟨ka,sa,va,o_a,pa,ra.length,ca,qa⟩)[i_]?=some u_→W2.cell? ⟨ba,oa+k * 6+i_,none⟩=some u_:=hca
             have hcapa:ra.length≤ca:=haa.cap.1
             obtain ⟨bb,ob,pb,cb,rfl,hbb,hab,hcb⟩:=HY.out.getX k hl2
             generalize ly[k]=xb at hbb hab hcb
             obtain ⟨kb,sb,vb,o_b,rb,qb⟩:=xb
             replace hab:XL B W2 pb cb rb:=hab
             replace hcb:∀i_ u_,(xdc ⟨kb,sb,vb,o_b,pb,rb.length,cb,qb⟩)[i_]?=some u_→W2.cell? ⟨bb,ob+k * 6+i_,none⟩=some u_:=hcb
             have hcapb:rb.length≤cb:=hab.cap.1
             obtain ⟨dd,hdd⟩:∃d,eqX ⟨ka,sa,va,o_a,ra,qa⟩ ⟨kb,sb,vb,o_b,rb,qb⟩=d:=⟨_,rfl⟩
             have HIP:Hid (∀W,Grew W2 W→Calls Tryz.prog 23 #[xv ka sa va o_a pa ra.length ca qa,xv kb sb vb o_b pb rb.length cb qb] W fun e w'=>e=.returned (.bool dd)∧Grew W w'):=Lib.hid (fun W hW=>by have h_:=eqXP_any ⟨ka,sa,va,o_a,ra,qa⟩ ⟨kb,sb,vb,o_b,rb,qb⟩ A B W pa pb ca cb (haa.kept hW) (hab.kept hW);rw [hdd] at h_;exact h_)
             have HIR:Hid (∀W,Grew W2 W→Calls Tryz.prog 24 #[xv ka sa va o_a pa ra.length ca qa,xv kb sb vb o_b pb rb.length cb qb] W fun e w'=>e=.returned (.bool dd)∧Grew W w'):=Lib.hid (fun W hW=>by have h_:=eqx_any ⟨ka,sa,va,o_a,ra,qa⟩ ⟨kb,sb,vb,o_b,rb,qb⟩ A B W pa pb ca cb (haa.kept hW) (hab.kept hW);rw [hdd] at h_;exact h_)
             have f0:Atv ⟨ba,oa+k * 6,none⟩ (.int .i64 ka) wr.drew:=Atv.kept (hca 0 _ rfl) (HGi.out.trans (Grew.refl wr).drw)
             have f1:Atv ⟨ba,oa+k * 6+1,none⟩ (.string sa) wr.drew:=Atv.kept (hca 1 _ rfl) (HGi.out.trans (Grew.refl wr).drw)
             have f2:Atv ⟨ba,oa+k * 6+2,none⟩ (.int .i16 va) wr.drew:=Atv.kept (hca 2 _ rfl) (HGi.out.trans (Grew.refl wr).drw)
             have f3:Atv ⟨ba,oa+k * 6+3,none⟩ (.int .i64 o_a) wr.drew:=Atv.kept (hca 3 _ rfl) (HGi.out.trans (Grew.refl wr).drw)
             have f4:Atv ⟨ba,oa+k * 6+4,none⟩ (.slice pa ra.length ca) wr.drew:=Atv.kept (hca 4 _ rfl) (HGi.out.trans (Grew.refl wr).drw)
             have f5:Atv ⟨ba,oa+k * 6+5,none⟩ (.int .i64 qa) wr.drew:=Atv.kept (hca 5 _ rfl) (HGi.out.trans (Grew.refl wr).drw)
             have g0:Atv ⟨bb,ob+k * 6,none⟩ (.int .i64 kb) wr.drew:=Atv.kept (hcb 0 _ rfl) (HGi.out.trans (Grew.refl wr).drw)
             have g1:Atv ⟨bb,ob+k * 6+1,none⟩ (.string sb) wr.drew:=Atv.kept (hcb 1 _ rfl) (HGi.out.trans (Grew.refl wr).drw)
             have g2:Atv ⟨bb,ob+k * 6+2,none⟩ (.int .i16 vb) wr.drew:=Atv.kept (hcb 2 _ rfl) (HGi.out.trans (Grew.refl wr).drw)
             have g3:Atv ⟨bb,ob+k * 6+3,none⟩ (.int .i64 o_b) wr.drew:=Atv.kept (hcb 3 _ rfl) (HGi.out.trans (Grew.refl wr).drw)
             have g4:Atv ⟨bb,ob+k * 6+4,none⟩ (.slice pb rb.length cb) wr.drew:=Atv.kept (hcb 4 _ rfl) (HGi.out.trans (Grew.refl wr).drw)
             have g5:Atv ⟨bb,ob+k * 6+5,none⟩ (.int .i64 qb) wr.drew:=Atv.kept (hcb 5 _ rfl) (HGi.out.trans (Grew.refl wr).drw)
             clear hca hcb haa hab hba hbb hdd
             go_upto_region 15 with fail
             refine wp_posts [some 64,some 65,some 66,some 67,some 68,some 69,some 70,some 71,some 72,some 73,some 74,some 75,some 76,some 77,some 78,some 79,some 80,some 81,some 82] zD0 [fun v _=>v=.slice (some ⟨ba,oa,none⟩) (lx.length) (cx),fun v _=>v=.int .i64 (((k:Nat):Int)),fun v _=>v=.pointer (some ⟨ba,oa+k * 6,none⟩),fun v _=>v=.agg #[.int .i64 (ka),.string sa,.int .i16 (va),.int .i64 (o_a),.slice pa ra.length ca,.int .i64 (qa)],fun v _=>v=.slice (some ⟨bb,ob,none⟩) (ly.length) (cy),fun v _=>v=.int .i64 (((k:Nat):Int)),fun v _=>v=.pointer (some ⟨bb,ob+k * 6,none⟩),fun v _=>v=.agg #[.int .i64 (kb),.string sb,.int .i16 (vb),.int .i64 (o_b),.slice pb rb.length cb,.int .i64 (qb)],fun v _=>v=.bool (dd),fun v _=>v=.slice (some ⟨ba,oa,none⟩) (lx.length) (cx),fun v _=>v=.int .i64 (((k:Nat):Int)),fun v _=>v=.pointer (some ⟨ba,oa+k * 6,none⟩),fun v _=>v=.agg #[.int .i64 (ka),.string sa,.int .i16 (va),.int .i64 (o_a),.slice pa ra.length ca,.int .i64 (qa)],fun v _=>v=.slice (some ⟨bb,ob,none⟩) (ly.length) (cy),fun v _=>v=.int .i64 (((k:Nat):Int)),fun v _=>v=.pointer (some ⟨bb,ob+k * 6,none⟩),fun v _=>v=.agg #[.int .i64 (kb),.string sb,.int .i16 (vb),.int .i64 (o_b),.slice pb rb.length cb,.int .i64 (qb)],fun v _=>v=.bool (dd),fun v _=>v=.bool ((dd) != (dd))] (by kernel_rfl) (by kernel_rfl) rfl ?_ ⟨?_,?_,?_,?_,?_,?_,?_,?_,?_,?_,?_,?_,?_,?_,?_,?_,?_,?_,?_,trivial⟩ ?_
             ·exact⟨Zi,Zi,Zi,Zi,Zi,Zi,Zi,Zi,Zi,Zi,Zi,Zi,Zi,Zi,Zi,Zi,Zi,Zi,Zi,trivial⟩
             ·intro u w hR hd;exact runs_mv (ev rfl) Zr
             ·intro u w hR hd;exact runs_mv (ev rfl) Zr
             ·intro u w hR hd;exact rn_idx_33 (k) (ev (hd.1 rfl)) (ev (hd.2.1 rfl)) (by omega) Zr
             ·intro u w hR hd;exact rn_ld_35 (ev (hd.1 rfl)) (f0.kept hR) (f1.kept hR) (f2.kept hR) (f3.kept hR) (f4.kept hR) (f5.kept hR) Zr
             ·intro u w hR hd;exact runs_mv (ev rfl) Zr
             ·intro u w hR hd;exact runs_mv (ev rfl) Zr
             ·intro u w hR hd;exact rn_idx_33 (k) (ev (hd.1 rfl)) (ev (hd.2.1 rfl)) (by omega) Zr
             ·intro u w hR hd;exact rn_ld_35 (ev (hd.1 rfl)) (g0.kept hR) (g1.kept hR) (g2.kept hR) (g3.kept hR) (g4.kept hR) (g5.kept hR) Zr
             ·intro u w hR hd;exact runs_c2 en_eX (ev (hd.1 rfl)) (ev (hd.2.1 rfl)) (callp (fun _ e=>e) (HIP.out _ (HGi.out.trans ((Grew.refl _).drw.trans hR))))
             ·intro u w hR hd;exact runs_mv (ev rfl) Zr
             ·intro u w hR hd;exact runs_mv (ev rfl) Zr
             ·intro u w hR hd;exact rn_idx_33 (k) (ev (hd.1 rfl)) (ev (hd.2.1 rfl)) (by omega) Zr
             ·intro u w hR hd;exact rn_ld_35 (ev (hd.1 rfl)) (f0.kept hR) (f1.kept hR) (f2.kept hR) (f3.kept hR) (f4.kept hR) (f5.kept hR) Zr
             ·intro u w hR hd;exact runs_mv (ev rfl) Zr
             ·intro u w hR hd;exact runs_mv (ev rfl) Zr
             ·intro u w hR hd;exact rn_idx_33 (k) (ev (hd.1 rfl)) (ev (hd.2.1 rfl)) (by omega) Zr
             ·intro u w hR hd;exact rn_ld_35 (ev (hd.1 rfl)) (g0.kept hR) (g1.kept hR) (g2.kept hR) (g3.kept hR) (g4.kept hR) (g5.kept hR) Zr
             ·intro u w hR hd;exact runs_c2 enters_eq (ev (hd.1 rfl)) (ev (hd.2.1 rfl)) (callp (fun _ e=>e) (HIR.out _ (HGi.out.trans ((Grew.refl _).drw.trans hR))))
             ·intro u w hR hd;exact rn_neq_4 (ev (hd.1 rfl)) (ev (hd.2.1 rfl)) Zr
             ·intro u w4 hR hh
              have he:u 82=.bool ((dd) != (dd)):=hh 18 (by decide)
              have hE:((dd) != (dd))=false:=by cases dd <;> rfl
              rw [hE] at he
              have HGj:=Lib.hid (HGi.out.trans ((Grew.refl wr).drw.trans hR))
              simp only [mixA,mixL,zz9,zz0,he]
              clear hh he hE hR f0 g0 f1 g1 f2 g2 f3 g3 f4 g4 f5 g5 HIP HIR
              go_wp2
              go_roundg (lx.length - (k+1))
              case measure=>have:=HLK.out;omega
              case rel=>exact⟨k+1,by go_num,HLK.out,rfl,HGj⟩
            ·obtain rfl:k=lx.length:=by omega
             have HGj:=Lib.hid (HGQ.out.trans HGi.out)
             go_wp2
             go_roundg (tsa.length - (j+1))
             case measure=>have:=HLz.out;omega
             case rel=>exact⟨j+1,by go_num,HLz.out,rfl,HGj⟩
          ·by_cases hme:ly.length < lx.length
           ·have hmn2:¬ (lx.length:Int)≤(ly.length:Int):=by omega
            have hmn3:(ly.length:Int) < (lx.length:Int):=by omega
            have hmn4:(ly.length:Int)≤(lx.length:Int):=by omega
            go_wp2
            go_loopg [9,61] ly.length (fun gg v9_ iv wr=>∃(k:Nat),iv=.int .i64 (k:Int)∧k≤ly.length∧gg=ly.length - k∧Hid (Grew W2 wr))
            case atStart=>exact⟨0,rfl,Nat.zero_le _,rfl,Lib.hid (Grew.refl _)⟩
            case round =>
             obtain ⟨k,rfl,hk,rfl,HGi⟩:=hrel
             by_cases hlk:k < ly.length
             ·have hl1:k < lx.length:=by omega
              have hl2:k < ly.length:=by omega
              have HLK:=Lib.hid (Nat.succ_le_of_lt hlk)
              obtain ⟨ba,oa,pa,ca,rfl,hba,haa,hca⟩:=HX.out.getX k hl1
              generalize lx[k]=xa at hba haa hca
              obtain ⟨ka,sa,va,o_a,ra,qa⟩:=xa
              replace haa:XL A W2 pa ca ra:=haa
              replace hca:∀i_ u_,(xdc ⟨ka,sa,va,o_a,pa,ra.length,ca,qa⟩)[i_]?=some u_→W2.cell? ⟨ba,oa+k * 6+i_,none⟩=some u_:=hca
              have hcapa:ra.length≤ca:=haa.cap.1
              obtain ⟨bb,ob,pb,cb,rfl,hbb,hab,hcb⟩:=HY.out.getX k hl2
              generalize ly[k]=xb at hbb hab hcb
              obtain ⟨kb,sb,vb,o_b,rb,qb⟩:=xb
              replace hab:XL B W2 pb cb rb:=hab
              replace hcb:∀i_ u_,(xdc ⟨kb,sb,vb,o_b,pb,rb.length,cb,qb⟩)[i_]?=some u_→W2.cell? ⟨bb,ob+k * 6+i_,none⟩=some u_:=hcb
              have hcapb:rb.length≤cb:=hab.cap.1
              obtain ⟨dd,hdd⟩:∃d,eqX ⟨ka,sa,va,o_a,ra,qa⟩ ⟨kb,sb,vb,o_b,rb,qb⟩=d:=⟨_,rfl⟩
              have HIP:Hid (∀W,Grew W2 W→Calls Tryz.prog 23 #[xv ka sa va o_a pa ra.length ca qa,xv kb sb vb o_b pb rb.length cb qb] W fun e w'=>e=.returned (.bool dd)∧Grew W w'):=Lib.hid (fun W hW=>by have h_:=eqXP_any ⟨ka,sa,va,o_a,ra,qa⟩ ⟨kb,sb,vb,o_b,rb,qb⟩ A B W pa pb ca cb (haa.kept hW) (hab.kept hW);rw [hdd] at h_;exact h_)
              have HIR:Hid (∀W,Grew W2 W→Calls Tryz.prog 24 #[xv ka sa va o_a pa ra.length ca qa,xv kb sb vb o_b pb rb.length cb qb] W fun e w'=>e=.returned (.bool dd)∧Grew W w'):=Lib.hid (fun W hW=>by have h_:=eqx_any ⟨ka,sa,va,o_a,ra,qa⟩ ⟨kb,sb,vb,o_b,rb,qb⟩ A B W pa pb ca cb (haa.kept hW) (hab.kept hW);rw [hdd] at h_;exact h_)
              have f0:Atv ⟨ba,oa+k * 6,none⟩ (.int .i64 ka) wr.drew:=Atv.kept (hca 0 _ rfl) (HGi.out.trans (Grew.refl wr).drw)
              have f1:Atv ⟨ba,oa+k * 6+1,none⟩ (.string sa) wr.drew:=Atv.kept (hca 1 _ rfl) (HGi.out.trans (Grew.refl wr).drw)
              have f2:Atv ⟨ba,oa+k * 6+2,none⟩ (.int .i16 va) wr.drew:=Atv.kept (hca 2 _ rfl) (HGi.out.trans (Grew.refl wr).drw)
              have f3:Atv ⟨ba,oa+k * 6+3,none⟩ (.int .i64 o_a) wr.drew:=Atv.kept (hca 3 _ rfl) (HGi.out.trans (Grew.refl wr).drw)
              have f4:Atv ⟨ba,oa+k * 6+4,none⟩ (.slice pa ra.length ca) wr.drew:=Atv.kept (hca 4 _ rfl) (HGi.out.trans (Grew.refl wr).drw)
              have f5:Atv ⟨ba,oa+k * 6+5,none⟩ (.int .i64 qa) wr.drew:=Atv.kept (hca 5 _ rfl) (HGi.out.trans (Grew.refl wr).drw)
              have g0:Atv ⟨bb,ob+k * 6,none⟩ (.int .i64 kb) wr.drew:=Atv.kept (hcb 0 _ rfl) (HGi.out.trans (Grew.refl wr).drw)
              have g1:Atv ⟨bb,ob+k * 6+1,none⟩ (.string sb) wr.drew:=Atv.kept (hcb 1 _ rfl) (HGi.out.trans (Grew.refl wr).drw)
              have g2:Atv ⟨bb,ob+k * 6+2,none⟩ (.int .i16 vb) wr.drew:=Atv.kept (hcb 2 _ rfl) (HGi.out.trans (Grew.refl wr).drw)
              have g3:Atv ⟨bb,ob+k * 6+3,none⟩ (.int .i64 o_b) wr.drew:=Atv.kept (hcb 3 _ rfl) (HGi.out.trans (Grew.refl wr).drw)
              have g4:Atv ⟨bb,ob+k * 6+4,none⟩ (.slice pb rb.length cb) wr.drew:=Atv.kept (hcb 4 _ rfl) (HGi.out.trans (Grew.refl wr).drw)
              have g5:Atv ⟨bb,ob+k * 6+5,none⟩ (.int .i64 qb) wr.drew:=Atv.kept (hcb 5 _ rfl) (HGi.out.trans (Grew.refl wr).drw)
              clear hca hcb haa hab hba hbb hdd
              go_upto_region 15 with fail
              refine wp_posts [some 64,some 65,some 66,some 67,some 68,some 69,some 70,some 71,some 72,some 73,some 74,some 75,some 76,some 77,some 78,some 79,some 80,some 81,some 82] zD0 [fun v _=>v=.slice (some ⟨ba,oa,none⟩) (lx.length) (cx),fun v _=>v=.int .i64 (((k:Nat):Int)),fun v _=>v=.pointer (some ⟨ba,oa+k * 6,none⟩),fun v _=>v=.agg #[.int .i64 (ka),.string sa,.int .i16 (va),.int .i64 (o_a),.slice pa ra.length ca,.int .i64 (qa)],fun v _=>v=.slice (some ⟨bb,ob,none⟩) (ly.length) (cy),fun v _=>v=.int .i64 (((k:Nat):Int)),fun v _=>v=.pointer (some ⟨bb,ob+k * 6,none⟩),fun v _=>v=.agg #[.int .i64 (kb),.string sb,.int .i16 (vb),.int .i64 (o_b),.slice pb rb.length cb,.int .i64 (qb)],fun v _=>v=.bool (dd),fun v _=>v=.slice (some ⟨ba,oa,none⟩) (lx.length) (cx),fun v _=>v=.int .i64 (((k:Nat):Int)),fun v _=>v=.pointer (some ⟨ba,oa+k * 6,none⟩),fun v _=>v=.agg #[.int .i64 (ka),.string sa,.int .i16 (va),.int .i64 (o_a),.slice pa ra.length ca,.int .i64 (qa)],fun v _=>v=.slice (some ⟨bb,ob,none⟩) (ly.length) (cy),fun v _=>v=.int .i64 (((k:Nat):Int)),fun v _=>v=.pointer (some ⟨bb,ob+k * 6,none⟩),fun v _=>v=.agg #[.int .i64 (kb),.string sb,.int .i16 (vb),.int .i64 (o_b),.slice pb rb.length cb,.int .i64 (qb)],fun v _=>v=.bool (dd),fun v _=>v=.bool ((dd) != (dd))] (by kernel_rfl) (by kernel_rfl) rfl ?_ ⟨?_,?_,?_,?_,?_,?_,?_,?_,?_,?_,?_,?_,?_,?_,?_,?_,?_,?_,?_,trivial⟩ ?_
              ·exact⟨Zi,Zi,Zi,Zi,Zi,Zi,Zi,Zi,Zi,Zi,Zi,Zi,Zi,Zi,Zi,Zi,Zi,Zi,Zi,trivial⟩
              ·intro u w hR hd;exact runs_mv (ev rfl) Zr
              ·intro u w hR hd;exact runs_mv (ev rfl) Zr
              ·intro u w hR hd;exact rn_idx_33 (k) (ev (hd.1 rfl)) (ev (hd.2.1 rfl)) (by omega) Zr
              ·intro u w hR hd;exact rn_ld_35 (ev (hd.1 rfl)) (f0.kept hR) (f1.kept hR) (f2.kept hR) (f3.kept hR) (f4.kept hR) (f5.kept hR) Zr
              ·intro u w hR hd;exact runs_mv (ev rfl) Zr
              ·intro u w hR hd;exact runs_mv (ev rfl) Zr
              ·intro u w hR hd;exact rn_idx_33 (k) (ev (hd.1 rfl)) (ev (hd.2.1 rfl)) (by omega) Zr
              ·intro u w hR hd;exact rn_ld_35 (ev (hd.1 rfl)) (g0.kept hR) (g1.kept hR) (g2.kept hR) (g3.kept hR) (g4.kept hR) (g5.kept hR) Zr
              ·intro u w hR hd;exact runs_c2 en_eX (ev (hd.1 rfl)) (ev (hd.2.1 rfl)) (callp (fun _ e=>e) (HIP.out _ (HGi.out.trans ((Grew.refl _).drw.trans hR))))
              ·intro u w hR hd;exact runs_mv (ev rfl) Zr
              ·intro u w hR hd;exact runs_mv (ev rfl) Zr
              ·intro u w hR hd;exact rn_idx_33 (k) (ev (hd.1 rfl)) (ev (hd.2.1 rfl)) (by omega) Zr
              ·intro u w hR hd;exact rn_ld_35 (ev (hd.1 rfl)) (f0.kept hR) (f1.kept hR) (f2.kept hR) (f3.kept hR) (f4.kept hR) (f5.kept hR) Zr
              ·intro u w hR hd;exact runs_mv (ev rfl) Zr
              ·intro u w hR hd;exact runs_mv (ev rfl) Zr
              ·intro u w hR hd;exact rn_idx_33 (k) (ev (hd.1 rfl)) (ev (hd.2.1 rfl)) (by omega) Zr
              ·intro u w hR hd;exact rn_ld_35 (ev (hd.1 rfl)) (g0.kept hR) (g1.kept hR) (g2.kept hR) (g3.kept hR) (g4.kept hR) (g5.kept hR) Zr
              ·intro u w hR hd;exact runs_c2 enters_eq (ev (hd.1 rfl)) (ev (hd.2.1 rfl)) (callp (fun _ e=>e) (HIR.out _ (HGi.out.trans ((Grew.refl _).drw.trans hR))))
              ·intro u w hR hd;exact rn_neq_4 (ev (hd.1 rfl)) (ev (hd.2.1 rfl)) Zr
              ·intro u w4 hR hh
               have he:u 82=.bool ((dd) != (dd)):=hh 18 (by decide)
               have hE:((dd) != (dd))=false:=by cases dd <;> rfl
               rw [hE] at he
               have HGj:=Lib.hid (HGi.out.trans ((Grew.refl wr).drw.trans hR))
               simp only [mixA,mixL,zz9,zz0,he]
               clear hh he hE hR f0 g0 f1 g1 f2 g2 f3 g3 f4 g4 f5 g5 HIP HIR
               go_wp2
               go_roundg (ly.length - (k+1))
               case measure=>have:=HLK.out;omega
               case rel=>exact⟨k+1,by go_num,HLK.out,rfl,HGj⟩
             ·obtain rfl:k=ly.length:=by omega
              have HGj:=Lib.hid (HGQ.out.trans HGi.out)
              go_wp2
              go_roundg (tsa.length - (j+1))
              case measure=>have:=HLz.out;omega
              case rel=>exact⟨j+1,by go_num,HLz.out,rfl,HGj⟩
           ·have hmn2:(lx.length:Int)≤(ly.length:Int):=by omega
            replace hmn:lx.length≤ly.length:=by omega
            go_wp2
            go_loopg [9,61] lx.length (fun gg v9_ iv wr=>∃(k:Nat),iv=.int .i64 (k:Int)∧k≤lx.length∧gg=lx.length - k∧Hid (Grew W2 wr))
            case atStart=>exact⟨0,rfl,Nat.zero_le _,rfl,Lib.hid (Grew.refl _)⟩
            case round =>
             obtain ⟨k,rfl,hk,rfl,HGi⟩:=hrel
             by_cases hlk:k < lx.length
             ·have hl1:k < lx.length:=by omega
              have hl2:k < ly.length:=by omega
              have HLK:=Lib.hid (Nat.succ_le_of_lt hlk)
              obtain ⟨ba,oa,pa,ca,rfl,hba,haa,hca⟩:=HX.out.getX k hl1
              generalize lx[k]=xa at hba haa hca
              obtain ⟨ka,sa,va,o_a,ra,qa⟩:=xa
              replace haa:XL A W2 pa ca ra:=haa
              replace hca:∀i_ u_,(xdc ⟨ka,sa,va,o_a,pa,ra.length,ca,qa⟩)[i_]?=some u_→W2.cell? ⟨ba,oa+k * 6+i_,none⟩=some u_:=hca
              have hcapa:ra.length≤ca:=haa.cap.1
              obtain ⟨bb,ob,pb,cb,rfl,hbb,hab,hcb⟩:=HY.out.getX k hl2
              generalize ly[k]=xb at hbb hab hcb
              obtain ⟨kb,sb,vb,o_b,rb,qb⟩:=xb
              replace hab:XL B W2 pb cb rb:=hab
              replace hcb:∀i_ u_,(xdc ⟨kb,sb,vb,o_b,pb,rb.length,cb,qb⟩)[i_]?=some u_→W2.cell? ⟨bb,ob+k * 6+i_,none⟩=some u_:=hcb
              have hcapb:rb.length≤cb:=hab.cap.1
              obtain ⟨dd,hdd⟩:∃d,eqX ⟨ka,sa,va,o_a,ra,qa⟩ ⟨kb,sb,vb,o_b,rb,qb⟩=d:=⟨_,rfl⟩
              have HIP:Hid (∀W,Grew W2 W→Calls Tryz.prog 23 #[xv ka sa va o_a pa ra.length ca qa,xv kb sb vb o_b pb rb.length cb qb] W fun e w'=>e=.returned (.bool dd)∧Grew W w'):=Lib.hid (fun W hW=>by have h_:=eqXP_any ⟨ka,sa,va,o_a,ra,qa⟩ ⟨kb,sb,vb,o_b,rb,qb⟩ A B W pa pb ca cb (haa.kept hW) (hab.kept hW);rw [hdd] at h_;exact h_)
              have HIR:Hid (∀W,Grew W2 W→Calls Tryz.prog 24 #[xv ka sa va o_a pa ra.length ca qa,xv kb sb vb o_b pb rb.length cb qb] W fun e w'=>e=.returned (.bool dd)∧Grew W w'):=Lib.hid (fun W hW=>by have h_:=eqx_any ⟨ka,sa,va,o_a,ra,qa⟩ ⟨kb,sb,vb,o_b,rb,qb⟩ A B W pa pb ca cb (haa.kept hW) (hab.kept hW);rw [hdd] at h_;exact h_)
              have f0:Atv ⟨ba,oa+k * 6,none⟩ (.int .i64 ka) wr.drew:=Atv.kept (hca 0 _ rfl) (HGi.out.trans (Grew.refl wr).drw)
              have f1:Atv ⟨ba,oa+k * 6+1,none⟩ (.string sa) wr.drew:=Atv.kept (hca 1 _ rfl) (HGi.out.trans (Grew.refl wr).drw)
              have f2:Atv ⟨ba,oa+k * 6+2,none⟩ (.int .i16 va) wr.drew:=Atv.kept (hca 2 _ rfl) (HGi.out.trans (Grew.refl wr).drw)
              have f3:Atv ⟨ba,oa+k * 6+3,none⟩ (.int .i64 o_a) wr.drew:=Atv.kept (hca 3 _ rfl) (HGi.out.trans (Grew.refl wr).drw)
              have f4:Atv ⟨ba,oa+k * 6+4,none⟩ (.slice pa ra.length ca) wr.drew:=Atv.kept (hca 4 _ rfl) (HGi.out.trans (Grew.refl wr).drw)
              have f5:Atv ⟨ba,oa+k * 6+5,none⟩ (.int .i64 qa) wr.drew:=Atv.kept (hca 5 _ rfl) (HGi.out.trans (Grew.refl wr).drw)
              have g0:Atv ⟨bb,ob+k * 6,none⟩ (.int .i64 kb) wr.drew:=Atv.kept (hcb 0 _ rfl) (HGi.out.trans (Grew.refl wr).drw)
              have g1:Atv ⟨bb,ob+k * 6+1,none⟩ (.string sb) wr.drew:=Atv.kept (hcb 1 _ rfl) (HGi.out.trans (Grew.refl wr).drw)
              have g2:Atv ⟨bb,ob+k * 6+2,none⟩ (.int .i16 vb) wr.drew:=Atv.kept (hcb 2 _ rfl) (HGi.out.trans (Grew.refl wr).drw)
              have g3:Atv ⟨bb,ob+k * 6+3,none⟩ (.int .i64 o_b) wr.drew:=Atv.kept (hcb 3 _ rfl) (HGi.out.trans (Grew.refl wr).drw)
              have g4:Atv ⟨bb,ob+k * 6+4,none⟩ (.slice pb rb.length cb) wr.drew:=Atv.kept (hcb 4 _ rfl) (HGi.out.trans (Grew.refl wr).drw)
              have g5:Atv ⟨bb,ob+k * 6+5,none⟩ (.int .i64 qb) wr.drew:=Atv.kept (hcb 5 _ rfl) (HGi.out.trans (Grew.refl wr).drw)
              clear hca hcb haa hab hba hbb hdd
              go_upto_region 15 with fail
              refine wp_posts [some 64,some 65,some 66,some 67,some 68,some 69,some 70,some 71,some 72,some 73,some 74,some 75,some 76,some 77,some 78,some 79,some 80,some 81,some 82] zD0 [fun v _=>v=.slice (some ⟨ba,oa,none⟩) (lx.length) (cx),fun v _=>v=.int .i64 (((k:Nat):Int)),fun v _=>v=.pointer (some ⟨ba,oa+k * 6,none⟩),fun v _=>v=.agg #[.int .i64 (ka),.string sa,.int .i16 (va),.int .i64 (o_a),.slice pa ra.length ca,.int .i64 (qa)],fun v _=>v=.slice (some ⟨bb,ob,none⟩) (ly.length) (cy),fun v _=>v=.int .i64 (((k:Nat):Int)),fun v _=>v=.pointer (some ⟨bb,ob+k * 6,none⟩),fun v _=>v=.agg #[.int .i64 (kb),.string sb,.int .i16 (vb),.int .i64 (o_b),.slice pb rb.length cb,.int .i64 (qb)],fun v _=>v=.bool (dd),fun v _=>v=.slice (some ⟨ba,oa,none⟩) (lx.length) (cx),fun v _=>v=.int .i64 (((k:Nat):Int)),fun v _=>v=.pointer (some ⟨ba,oa+k * 6,none⟩),fun v _=>v=.agg #[.int .i64 (ka),.string sa,.int .i16 (va),.int .i64 (o_a),.slice pa ra.length ca,.int .i64 (qa)],fun v _=>v=.slice (some ⟨bb,ob,none⟩) (ly.length) (cy),fun v _=>v=.int .i64 (((k:Nat):Int)),fun v _=>v=.pointer (some ⟨bb,ob+k * 6,none⟩),fun v _=>v=.agg #[.int .i64 (kb),.string sb,.int .i16 (vb),.int .i64 (o_b),.slice pb rb.length cb,.int .i64 (qb)],fun v _=>v=.bool (dd),fun v _=>v=.bool ((dd) != (dd))] (by kernel_rfl) (by kernel_rfl) rfl ?_ ⟨?_,?_,?_,?_,?_,?_,?_,?_,?_,?_,?_,?_,?_,?_,?_,?_,?_,?_,?_,trivial⟩ ?_
              ·exact⟨Zi,Zi,Zi,Zi,Zi,Zi,Zi,Zi,Zi,Zi,Zi,Zi,Zi,Zi,Zi,Zi,Zi,Zi,Zi,trivial⟩
              ·intro u w hR hd;exact runs_mv (ev rfl) Zr
              ·intro u w hR hd;exact runs_mv (ev rfl) Zr
              ·intro u w hR hd;exact rn_idx_33 (k) (ev (hd.1 rfl)) (ev (hd.2.1 rfl)) (by omega) Zr
              ·intro u w hR hd;exact rn_ld_35 (ev (hd.1 rfl)) (f0.kept hR) (f1.kept hR) (f2.kept hR) (f3.kept hR) (f4.kept hR) (f5.kept hR) Zr
              ·intro u w hR hd;exact runs_mv (ev rfl) Zr
              ·intro u w hR hd;exact runs_mv (ev rfl) Zr
              ·intro u w hR hd;exact rn_idx_33 (k) (ev (hd.1 rfl)) (ev (hd.2.1 rfl)) (by omega) Zr
              ·intro u w hR hd;exact rn_ld_35 (ev (hd.1 rfl)) (g0.kept hR) (g1.kept hR) (g2.kept hR) (g3.kept hR) (g4.kept hR) (g5.kept hR) Zr
              ·intro u w hR hd;exact runs_c2 en_eX (ev (hd.1 rfl)) (ev (hd.2.1 rfl)) (callp (fun _ e=>e) (HIP.out _ (HGi.out.trans ((Grew.refl _).drw.trans hR))))
              ·intro u w hR hd;exact runs_mv (ev rfl) Zr
              ·intro u w hR hd;exact runs_mv (ev rfl) Zr
              ·intro u w hR hd;exact rn_idx_33 (k) (ev (hd.1 rfl)) (ev (hd.2.1 rfl)) (by omega) Zr
              ·intro u w hR hd;exact rn_ld_35 (ev (hd.1 rfl)) (f0.kept hR) (f1.kept hR) (f2.kept hR) (f3.kept hR) (f4.kept hR) (f5.kept hR) Zr
              ·intro u w hR hd;exact runs_mv (ev rfl) Zr
              ·intro u w hR hd;exact runs_mv (ev rfl) Zr
              ·intro u w hR hd;exact rn_idx_33 (k) (ev (hd.1 rfl)) (ev (hd.2.1 rfl)) (by omega) Zr
              ·intro u w hR hd;exact rn_ld_35 (ev (hd.1 rfl)) (g0.kept hR) (g1.kept hR) (g2.kept hR) (g3.kept hR) (g4.kept hR) (g5.kept hR) Zr
              ·intro u w hR hd;exact runs_c2 enters_eq (ev (hd.1 rfl)) (ev (hd.2.1 rfl)) (callp (fun _ e=>e) (HIR.out _ (HGi.out.trans ((Grew.refl _).drw.trans hR))))
              ·intro u w hR hd;exact rn_neq_4 (ev (hd.1 rfl)) (ev (hd.2.1 rfl)) Zr
              ·intro u w4 hR hh
               have he:u 82=.bool ((dd) != (dd)):=hh 18 (by decide)
               have hE:((dd) != (dd))=false:=by cases dd <;> rfl
               rw [hE] at he
               have HGj:=Lib.hid (HGi.out.trans ((Grew.refl wr).drw.trans hR))
               simp only [mixA,mixL,zz9,zz0,he]
               clear hh he hE hR f0 g0 f1 g1 f2 g2 f3 g3 f4 g4 f5 g5 HIP HIR
               go_wp2
               go_roundg (lx.length - (k+1))
               case measure=>have:=HLK.out;omega
               case rel=>exact⟨k+1,by go_num,HLK.out,rfl,HGj⟩
             ·obtain rfl:k=lx.length:=by omega
              have HGj:=Lib.hid (HGQ.out.trans HGi.out)
              go_wp2
              go_roundg (tsa.length - (j+1))
              case measure=>have:=HLz.out;omega
              case rel=>exact⟨j+1,by go_num,HLz.out,rfl,HGj⟩
        ·have hltb:(tsb.length:Int)≤(j:Int):=by omega
         have HGE:=Lib.hid (HGV.out.trans HG8.out)
         clear hb1 hbB
         go_wp2
         go_ret
         exact⟨rfl,HGE.out⟩
       ·obtain rfl:j=tsa.length:=by omega
        have HGE:=Lib.hid (HGV.out.trans HG.out)
        go_wp2
        go_ret
        exact⟨rfl,HGE.out⟩
end Go.Proofs.YtcknpcbkofgdoaaGreatDoor
