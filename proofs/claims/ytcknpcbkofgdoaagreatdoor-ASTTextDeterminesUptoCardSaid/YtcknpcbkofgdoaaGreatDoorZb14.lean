/-
  LAYER 16 (ast), THE LAWS: TextDetermines.
-/
import Derived.Test.YtcknpcbkofgdoaaGreatDoorZbShort
import Derived.Test.YtcknpcbkofgdoaaGreatDoorZb13
import Derived.Test.YtcknpcbkofgdoaaGreatDoorZb08
import Derived.Test.YtcknpcbkofgdoaaGreatDoorZb00
import Derived.Deep.LoopGhost
import Derived.Deep.Cut
import Derived.Shelf.Abstract
namespace Go.Proofs.YtcknpcbkofgdoaaGreatDoor
open Go Go.RowKit Go.IntWalk
set_option linter.unusedSimpArgs false
set_option linter.unusedVariables false
set_option maxRecDepth 8000
section
variable {dst:Option Tmp}{ty:TypeId}{pos:String}{after:Array Edge}{g:Option (Nat × Bool)}{a:Act}{w:World}{T:Value→World→Prop}
end
theorem fitP_of {B:Nat→Prop}{w:World}{P:Pg}{cp gp sp op hp tp:Option Addr}{cc gc sc oc hc tc:Nat}(h:PgIn B w P cp gp sp op hp tp cc gc sc oc hc tc):fitP P:=by
 refine⟨fun c hc=>(h.sz.1 c hc).2,fun c hc=>(h.sz.2.1 c hc).2,fun t ht=>?_⟩
 obtain ⟨i,hi,rfl⟩:=List.getElem_of_mem ht
 obtain ⟨_,_,bp,bc,_,_,hS,_⟩:=h.ts.get i hi
 exact hS.fit
theorem text_dec {P Q:Pg}{ec:Bool}(hP:okP P=true) (hQ:okP Q=true) (fP:fitP P) (fQ:fitP Q) (he:eqPg P Q=ec):decide ((⟨(fmT P).toArray⟩:ByteArray)=⟨(fmT Q).toArray⟩)=ec:=by
 rw [← he,Bool.eq_iff_iff,decide_eq_true_eq,← text_det hP hQ fP fQ]
 constructor
 ·intro h
  have h1:=congrArg (fun b:ByteArray=>b.data.toList) h
  exact h1
 ·intro h
  rw [h]
theorem en_l11:Enters Tryz.prog 20:=fun args w=>by go_simp
set_option maxHeartbeats 8000000 in
theorem textDetermines_walk (P Q:Pg) (A B:Nat→Prop) (w:World) (cpa gpa spa opa hpa tpa:Option Addr) (cca gca sca oca hca tca:Nat) (cpb gpb spb opb hpb tpb:Option Addr) (ccb gcb scb ocb hcb tcb:Nat) (hA:∀b,A b→b < w.heap.size) (hB:∀b,B b→b < w.heap.size) (hp:PgIn A w P cpa gpa spa opa hpa tpa cca gca sca oca hca tca) (hq:PgIn B w Q cpb gpb spb opb hpb tpb ccb gcb scb ocb hcb tcb) (hE:Env w) (hnP:zT P.ts≤1048576) (hnQ:zT Q.ts≤1048576) :
 Calls Tryz.prog 10 #[pgv P cpa gpa spa opa hpa tpa cca gca sca oca hca tca,pgv Q cpb gpb spb opb hpb tpb ccb gcb scb ocb hcb tcb] w fun e w'=>e=.returned (.bool true)∧Grew w w':=by
 have hcaps:=And.intro hp.caps hq.caps
 have HAA:=Lib.hid hA
 have HBB:=Lib.hid hB
 have HE:=Lib.hid hE
 have HP:=Lib.hid hp
 have HQ:=Lib.hid hq
 have HAW:=Lib.hid (fun W (hW:Grew w W)=>awake_any W (HE.out.grew hW))
 obtain ⟨sa,hsa⟩:∃b,smallP P=b:=⟨_,rfl⟩
 obtain ⟨sb,hsb⟩:∃b,smallP Q=b:=⟨_,rfl⟩
 obtain ⟨oa,hoa⟩:∃b,okP P=b:=⟨_,rfl⟩
 obtain ⟨ob,hob⟩:∃b,okP Q=b:=⟨_,rfl⟩
 obtain ⟨ec,hec⟩:∃b,eqPg P Q=b:=⟨_,rfl⟩
 obtain ⟨da,hda⟩:∃d:ByteArray,(⟨(fmT P).toArray⟩:ByteArray)=d:=⟨_,rfl⟩
 obtain ⟨db,hdb⟩:∃d:ByteArray,(⟨(fmT Q).toArray⟩:ByteArray)=d:=⟨_,rfl⟩
 have HTD:Hid (oa=true→ob=true→decide (da=db)=ec):=Lib.hid (fun h1 h2=>by
  rw [← hda,← hdb]
  exact text_dec (hoa.trans h1) (hob.trans h2) (fitP_of HP.out) (fitP_of HQ.out) hec)
 have HSA:Hid (∀W,Grew w W→Calls Tryz.prog 12 #[pgv P cpa gpa spa opa hpa tpa cca gca sca oca hca tca] W fun e w'=>e=.returned (.bool sa)∧Grew W w'):=Lib.hid (fun W hW=>by have h_:=small_any P A W cpa gpa spa opa hpa tpa cca gca sca oca hca tca (fun b hb=>Nat.lt_of_lt_of_le (HAA.out b hb) hW.sz) (HP.out.kept hW) hnP;rw [hsa] at h_;exact h_)
 have HSB:Hid (∀W,Grew w W→Calls Tryz.prog 12 #[pgv Q cpb gpb spb opb hpb tpb ccb gcb scb ocb hcb tcb] W fun e w'=>e=.returned (.bool sb)∧Grew W w'):=Lib.hid (fun W hW=>by have h_:=small_any Q B W cpb gpb spb opb hpb tpb ccb gcb scb ocb hcb tcb (fun b hb=>Nat.lt_of_lt_of_le (HBB.out b hb) hW.sz) (HQ.out.kept hW) hnQ;rw [hsb] at h_;exact h_)
 have HWA:Hid (sa=true→∀W,Grew w W→Calls Tryz.prog 19 #[pgv P cpa gpa spa opa hpa tpa cca gca sca oca hca tca] W fun e w'=>e=.returned (.bool oa)∧Grew W w'):=Lib.hid (fun h1 W hW=>by have h_:=wf_any P A W cpa gpa spa opa hpa tpa cca gca sca oca hca tca (fun b hb=>Nat.lt_of_lt_of_le (HAA.out b hb) hW.sz) (HP.out.kept hW) (by have h_:=small_le (hsa.trans h1);omega);rw [hoa] at h_;exact h_)
 have HWB:Hid (sb=true→∀W,Grew w W→Calls Tryz.prog 19 #[pgv Q cpb gpb spb opb hpb tpb ccb gcb scb ocb hcb tcb] W fun e w'=>e=.returned (.bool ob)∧Grew W w'):=Lib.hid (fun h1 W hW=>by have h_:=wf_any Q B W cpb gpb spb opb hpb tpb ccb gcb scb ocb hcb tcb (fun b hb=>Nat.lt_of_lt_of_le (HBB.out b hb) hW.sz) (HQ.out.kept hW) (by have h_:=small_le (hsb.trans h1);omega);rw [hob] at h_;exact h_)
 have HFA:Hid (sa=true→oa=true→∀W,Grew w W→Calls Tryz.prog 13 #[pgv P cpa gpa spa opa hpa tpa cca gca sca oca hca tca] W fun e w'=>e=.returned (.string da)∧Grew W w'):=Lib.hid (fun h1 h2 W hW=>by have h_:=fmtP_any P A W cpa gpa spa opa hpa tpa cca gca sca oca hca tca (fun b hb=>Nat.lt_of_lt_of_le (HAA.out b hb) hW.sz) (HP.out.kept hW) (HE.out.grew hW) (hsa.trans h1);rw [if_pos (hoa.trans h2),hda] at h_;exact h_)
 have HFB:Hid (sb=true→ob=true→∀W,Grew w W→Calls Tryz.prog 13 #[pgv Q cpb gpb spb opb hpb tpb ccb gcb scb ocb hcb tcb] W fun e w'=>e=.returned (.string db)∧Grew W w'):=Lib.hid (fun h1 h2 W hW=>by have h_:=fmtP_any Q B W cpb gpb spb opb hpb tpb ccb gcb scb ocb hcb tcb (fun b hb=>Nat.lt_of_lt_of_le (HBB.out b hb) hW.sz) (HQ.out.kept hW) (HE.out.grew hW) (hsb.trans h1);rw [if_pos (hob.trans h2),hdb] at h_;exact h_)
 have HEC:Hid (∀W,Grew w W→Calls Tryz.prog 20 #[pgv P cpa gpa spa opa hpa tpa cca gca sca oca hca tca,pgv Q cpb gpb spb opb hpb tpb ccb gcb scb ocb hcb tcb] W fun e w'=>e=.returned (.bool ec)∧Grew W w'):=Lib.hid (fun W hW=>by have h_:=eqPP_any P Q A B W cpa gpa spa opa hpa tpa cca gca sca oca hca tca cpb gpb spb opb hpb tpb ccb gcb scb ocb hcb tcb (HP.out.kept hW) (HQ.out.kept hW);rw [hec] at h_;exact h_)
 clear hA hB hE hp hq hnP hnQ hsa hsb hoa hob hec hda hdb HAA HBB HE HP HQ
 obtain ⟨csa,gsa,ssa,osa,hsa,tsa⟩:=P
 obtain ⟨csb,gsb,ssb,osb,hsb,tsb⟩:=Q
 dsimp only at hcaps HSA HSB HWA HWB HFA HFB HEC
 show Calls Tryz.prog 10 #[.agg #[.slice cpa csa.length cca,.slice gpa gsa.length gca,.slice spa ssa.length sca,.slice opa osa.length oca,.slice hpa hsa.length hca,.slice tpa tsa.length tca],.agg #[.slice cpb csb.length ccb,.slice gpb gsb.length gcb,.slice spb ssb.length scb,.slice opb osb.length ocb,.slice hpb hsb.length hcb,.slice tpb tsb.length tcb]] w fun e w'=>e=.returned (.bool true)∧Grew w w'
 cases sa with
 | false =>
   clear HWA HWB HFA HFB HEC HTD HSB
   go_enter Tryz.func10,Tryz.ntmps10
   go_upto_region 1 with fail
   have hb1:Blk w.heap.size [.slice cpa csa.length cca,.slice gpa gsa.length gca,.slice spa ssa.length sca,.slice opa osa.length oca,.slice hpa hsa.length hca,.slice tpa tsa.length tca] 28 (w.alloc (Obj.cells #[.slice cpa csa.length cca,.slice gpa gsa.length gca,.slice spa ssa.length sca,.slice opa osa.length oca,.slice hpa hsa.length hca,.slice tpa tsa.length tca] 28)):=Blk.new w _ _
   have hb2:Blk (w.alloc (Obj.cells #[.slice cpa csa.length cca,.slice gpa gsa.length gca,.slice spa ssa.length sca,.slice opa osa.length oca,.slice hpa hsa.length hca,.slice tpa tsa.length tca] 28)).heap.size [.slice cpb csb.length ccb,.slice gpb gsb.length gcb,.slice spb ssb.length scb,.slice opb osb.length ocb,.slice hpb hsb.length hcb,.slice tpb tsb.length tcb] 28 ((w.alloc (Obj.cells #[.slice cpa csa.length cca,.slice gpa gsa.length gca,.slice spa ssa.length sca,.slice opa osa.length oca,.slice hpa hsa.length hca,.slice tpa tsa.length tca] 28)).alloc (Obj.cells #[.slice cpb csb.length ccb,.slice gpb gsb.length gcb,.slice spb ssb.length scb,.slice opb osb.length ocb,.slice hpb hsb.length hcb,.slice tpb tsb.length tcb] 28)):=Blk.new _ _ _
   have hb3:=hb1.grew ((Grew.refl _).alloc (Obj.cells #[.slice cpb csb.length ccb,.slice gpb gsb.length gcb,.slice spb ssb.length scb,.slice opb osb.length ocb,.slice hpb hsb.length hcb,.slice tpb tsb.length tcb] 28))
   have hgV:Grew w ((w.alloc (Obj.cells #[.slice cpa csa.length cca,.slice gpa gsa.length gca,.slice spa ssa.length sca,.slice opa osa.length oca,.slice hpa hsa.length hca,.slice tpa tsa.length tca] 28)).alloc (Obj.cells #[.slice cpb csb.length ccb,.slice gpb gsb.length gcb,.slice spb ssb.length scb,.slice opb osb.length ocb,.slice hpb hsb.length hcb,.slice tpb tsb.length tcb] 28)):=((Grew.refl w).alloc _).alloc _
   rw [alloc_sz] at hb2
   try rw [alloc_sz]
   generalize ((w.alloc (Obj.cells #[.slice cpa csa.length cca,.slice gpa gsa.length gca,.slice spa ssa.length sca,.slice opa osa.length oca,.slice hpa hsa.length hca,.slice tpa tsa.length tca] 28)).alloc (Obj.cells #[.slice cpb csb.length ccb,.slice gpb gsb.length gcb,.slice spb ssb.length scb,.slice opb osb.length ocb,.slice hpb hsb.length hcb,.slice tpb tsb.length tcb] 28))=V0 at hb2 hb3 hgV ⊢
   generalize w.heap.size+1=U at hb2 ⊢
   generalize w.heap.size=T at hb3 ⊢
   have HG1:=Lib.hid hgV
   have HA1:=Lib.hid hb3
   have HB1:=Lib.hid hb2
   clear hb1 hb2 hb3 hgV
   go_wp2_with (first
    | (go_at_call 11;(with_reducible refine(HAW.out _ HG1.out).mono ?_);rintro e w1 ⟨rfl,g⟩;have HG2:=Lib.hid (HG1.out.trans g);have HA2:=Lib.hid (HA1.out.grew g);have HB2:=Lib.hid (HB1.out.grew g);clear g;have qa0:w1.cell? ⟨T,0,none⟩=some (.slice cpa csa.length cca):=HA2.out.cell 0;have qa1:w1.cell? ⟨T,1,none⟩=some (.slice gpa gsa.length gca):=HA2.out.cell 1;have qa2:w1.cell? ⟨T,2,none⟩=some (.slice spa ssa.length sca):=HA2.out.cell 2;have qa3:w1.cell? ⟨T,3,none⟩=some (.slice opa osa.length oca):=HA2.out.cell 3;have qa4:w1.cell? ⟨T,4,none⟩=some (.slice hpa hsa.length hca):=HA2.out.cell 4;have qa5:w1.cell? ⟨T,5,none⟩=some (.slice tpa tsa.length tca):=HA2.out.cell 5;have qb0:w1.cell? ⟨U,0,none⟩=some (.slice cpb csb.length ccb):=HB2.out.cell 0;have qb1:w1.cell? ⟨U,1,none⟩=some (.slice gpb gsb.length gcb):=HB2.out.cell 1;have qb2:w1.cell? ⟨U,2,none⟩=some (.slice spb ssb.length scb):=HB2.out.cell 2;have qb3:w1.cell? ⟨U,3,none⟩=some (.slice opb osb.length ocb):=HB2.out.cell 3;have qb4:w1.cell? ⟨U,4,none⟩=some (.slice hpb hsb.length hcb):=HB2.out.cell 4;have qb5:w1.cell? ⟨U,5,none⟩=some (.slice tpb tsb.length tcb):=HB2.out.cell 5)
    | (go_at_call 12;(with_reducible refine(HSA.out _ HG2.out).mono ?_);rintro e w2 ⟨rfl,g⟩;have HG3:=Lib.hid (HG2.out.trans g);have HA3:=Lib.hid (HA2.out.grew g);have HB3:=Lib.hid (HB2.out.grew g);clear g;have qa0:w2.cell? ⟨T,0,none⟩=some (.slice cpa csa.length cca):=HA3.out.cell 0;have qa1:w2.cell? ⟨T,1,none⟩=some (.slice gpa gsa.length gca):=HA3.out.cell 1;have qa2:w2.cell? ⟨T,2,none⟩=some (.slice spa ssa.length sca):=HA3.out.cell 2;have qa3:w2.cell? ⟨T,3,none⟩=some (.slice opa osa.length oca):=HA3.out.cell 3;have qa4:w2.cell? ⟨T,4,none⟩=some (.slice hpa hsa.length hca):=HA3.out.cell 4;have qa5:w2.cell? ⟨T,5,none⟩=some (.slice tpa tsa.length tca):=HA3.out.cell 5;have qb0:w2.cell? ⟨U,0,none⟩=some (.slice cpb csb.length ccb):=HB3.out.cell 0;have qb1:w2.cell? ⟨U,1,none⟩=some (.slice gpb gsb.length gcb):=HB3.out.cell 1;have qb2:w2.cell? ⟨U,2,none⟩=some (.slice spb ssb.length scb):=HB3.out.cell 2;have qb3:w2.cell? ⟨U,3,none⟩=some (.slice opb osb.length ocb):=HB3.out.cell 3;have qb4:w2.cell? ⟨U,4,none⟩=some (.slice hpb hsb.length hcb):=HB3.out.cell 4;have qb5:w2.cell? ⟨U,5,none⟩=some (.slice tpb tsb.length tcb):=HB3.out.cell 5)
    )
   go_ret
   exact⟨rfl,HG3.out⟩
 | true =>
   replace HWA:=Lib.hid (HWA.out rfl)
   replace HFA:=Lib.hid (HFA.out rfl)
   cases sb with
   | false =>
     clear HWA HWB HFA HFB HEC HTD
     go_enter Tryz.func10,Tryz.ntmps10
     go_upto_region 1 with fail
     have hb1:Blk w.heap.size [.slice cpa csa.length cca,.slice gpa gsa.length gca,.slice spa ssa.length sca,.slice opa osa.length oca,.slice hpa hsa.length hca,.slice tpa tsa.length tca] 28 (w.alloc (Obj.cells #[.slice cpa csa.length cca,.slice gpa gsa.length gca,.slice spa ssa.length sca,.slice opa osa.length oca,.slice hpa hsa.length hca,.slice tpa tsa.length tca] 28)):=Blk.new w _ _
     have hb2:Blk (w.alloc (Obj.cells #[.slice cpa csa.length cca,.slice gpa gsa.length gca,.slice spa ssa.length sca,.slice opa osa.length oca,.slice hpa hsa.length hca,.slice tpa tsa.length tca] 28)).heap.size [.slice cpb csb.length ccb,.slice gpb gsb.length gcb,.slice spb ssb.length scb,.slice opb osb.length ocb,.slice hpb hsb.length hcb,.slice tpb tsb.length tcb] 28 ((w.alloc (Obj.cells #[.slice cpa csa.length cca,.slice gpa gsa.length gca,.slice spa ssa.length sca,.slice opa osa.length oca,.slice hpa hsa.length hca,.slice tpa tsa.length tca] 28)).alloc (Obj.cells #[.slice cpb csb.length ccb,.slice gpb gsb.length gcb,.slice spb ssb.length scb,.slice opb osb.length ocb,.slice hpb hsb.length hcb,.slice tpb tsb.length tcb] 28)):=Blk.new _ _ _
     have hb3:=hb1.grew ((Grew.refl _).alloc (Obj.cells #[.slice cpb csb.length ccb,.slice gpb gsb.length gcb,.slice spb ssb.length scb,.slice opb osb.length ocb,.slice hpb hsb.length hcb,.slice tpb tsb.length tcb] 28))
     have hgV:Grew w ((w.alloc (Obj.cells #[.slice cpa csa.length cca,.slice gpa gsa.length gca,.slice spa ssa.length sca,.slice opa osa.length oca,.slice hpa hsa.length hca,.slice tpa tsa.length tca] 28)).alloc (Obj.cells #[.slice cpb csb.length ccb,.slice gpb gsb.length gcb,.slice spb ssb.length scb,.slice opb osb.length ocb,.slice hpb hsb.length hcb,.slice tpb tsb.length tcb] 28)):=((Grew.refl w).alloc _).alloc _
     rw [alloc_sz] at hb2
     try rw [alloc_sz]
     generalize ((w.alloc (Obj.cells #[.slice cpa csa.length cca,.slice gpa gsa.length gca,.slice spa ssa.length sca,.slice opa osa.length oca,.slice hpa hsa.length hca,.slice tpa tsa.length tca] 28)).alloc (Obj.cells #[.slice cpb csb.length ccb,.slice gpb gsb.length gcb,.slice spb ssb.length scb,.slice opb osb.length ocb,.slice hpb hsb.length hcb,.slice tpb tsb.length tcb] 28))=V0 at hb2 hb3 hgV ⊢
     generalize w.heap.size+1=U at hb2 ⊢
     generalize w.heap.size=T at hb3 ⊢
     have HG1:=Lib.hid hgV
     have HA1:=Lib.hid hb3
     have HB1:=Lib.hid hb2
     clear hb1 hb2 hb3 hgV
     go_wp2_with (first
      | (go_at_call 11;(with_reducible refine(HAW.out _ HG1.out).mono ?_);rintro e w1 ⟨rfl,g⟩;have HG2:=Lib.hid (HG1.out.trans g);have HA2:=Lib.hid (HA1.out.grew g);have HB2:=Lib.hid (HB1.out.grew g);clear g;have qa0:w1.cell? ⟨T,0,none⟩=some (.slice cpa csa.length cca):=HA2.out.cell 0;have qa1:w1.cell? ⟨T,1,none⟩=some (.slice gpa gsa.length gca):=HA2.out.cell 1;have qa2:w1.cell? ⟨T,2,none⟩=some (.slice spa ssa.length sca):=HA2.out.cell 2;have qa3:w1.cell? ⟨T,3,none⟩=some (.slice opa osa.length oca):=HA2.out.cell 3;have qa4:w1.cell? ⟨T,4,none⟩=some (.slice hpa hsa.length hca):=HA2.out.cell 4;have qa5:w1.cell? ⟨T,5,none⟩=some (.slice tpa tsa.length tca):=HA2.out.cell 5;have qb0:w1.cell? ⟨U,0,none⟩=some (.slice cpb csb.length ccb):=HB2.out.cell 0;have qb1:w1.cell? ⟨U,1,none⟩=some (.slice gpb gsb.length gcb):=HB2.out.cell 1;have qb2:w1.cell? ⟨U,2,none⟩=some (.slice spb ssb.length scb):=HB2.out.cell 2;have qb3:w1.cell? ⟨U,3,none⟩=some (.slice opb osb.length ocb):=HB2.out.cell 3;have qb4:w1.cell? ⟨U,4,none⟩=some (.slice hpb hsb.length hcb):=HB2.out.cell 4;have qb5:w1.cell? ⟨U,5,none⟩=some (.slice tpb tsb.length tcb):=HB2.out.cell 5)
      | (go_at_call 12;(with_reducible refine(HSA.out _ HG2.out).mono ?_);rintro e w2 ⟨rfl,g⟩;have HG3:=Lib.hid (HG2.out.trans g);have HA3:=Lib.hid (HA2.out.grew g);have HB3:=Lib.hid (HB2.out.grew g);clear g;have qa0:w2.cell? ⟨T,0,none⟩=some (.slice cpa csa.length cca):=HA3.out.cell 0;have qa1:w2.cell? ⟨T,1,none⟩=some (.slice gpa gsa.length gca):=HA3.out.cell 1;have qa2:w2.cell? ⟨T,2,none⟩=some (.slice spa ssa.length sca):=HA3.out.cell 2;have qa3:w2.cell? ⟨T,3,none⟩=some (.slice opa osa.length oca):=HA3.out.cell 3;have qa4:w2.cell? ⟨T,4,none⟩=some (.slice hpa hsa.length hca):=HA3.out.cell 4;have qa5:w2.cell? ⟨T,5,none⟩=some (.slice tpa tsa.length tca):=HA3.out.cell 5;have qb0:w2.cell? ⟨U,0,none⟩=some (.slice cpb csb.length ccb):=HB3.out.cell 0;have qb1:w2.cell? ⟨U,1,none⟩=some (.slice gpb gsb.length gcb):=HB3.out.cell 1;have qb2:w2.cell? ⟨U,2,none⟩=some (.slice spb ssb.length scb):=HB3.out.cell 2;have qb3:w2.cell? ⟨U,3,none⟩=some (.slice opb osb.length ocb):=HB3.out.cell 3;have qb4:w2.cell? ⟨U,4,none⟩=some (.slice hpb hsb.length hcb):=HB3.out.cell 4;have qb5:w2.cell? ⟨U,5,none⟩=some (.slice tpb tsb.length tcb):=HB3.out.cell 5)
      | (go_at_call 12;(with_reducible refine(HSB.out _ HG3.out).mono ?_);rintro e w3 ⟨rfl,g⟩;have HG4:=Lib.hid (HG3.out.trans g);have HA4:=Lib.hid (HA3.out.grew g);have HB4:=Lib.hid (HB3.out.grew g);clear g;have qa0:w3.cell? ⟨T,0,none⟩=some (.slice cpa csa.length cca):=HA4.out.cell 0;have qa1:w3.cell? ⟨T,1,none⟩=some (.slice gpa gsa.length gca):=HA4.out.cell 1;have qa2:w3.cell? ⟨T,2,none⟩=some (.slice spa ssa.length sca):=HA4.out.cell 2;have qa3:w3.cell? ⟨T,3,none⟩=some (.slice opa osa.length oca):=HA4.out.cell 3;have qa4:w3.cell? ⟨T,4,none⟩=some (.slice hpa hsa.length hca):=HA4.out.cell 4;have qa5:w3.cell? ⟨T,5,none⟩=some (.slice tpa tsa.length tca):=HA4.out.cell 5;have qb0:w3.cell? ⟨U,0,none⟩=some (.slice cpb csb.length ccb):=HB4.out.cell 0;have qb1:w3.cell? ⟨U,1,none⟩=some (.slice gpb gsb.length gcb):=HB4.out.cell 1;have qb2:w3.cell? ⟨U,2,none⟩=some (.slice spb ssb.length scb):=HB4.out.cell 2;have qb3:w3.cell? ⟨U,3,none⟩=some (.slice opb osb.length ocb):=HB4.out.cell 3;have qb4:w3.cell? ⟨U,4,none⟩=some (.slice hpb hsb.length hcb):=HB4.out.cell 4;have qb5:w3.cell? ⟨U,5,none⟩=some (.slice tpb tsb.length tcb):=HB4.out.cell 5)
      )
     go_ret
     exact⟨rfl,HG4.out⟩
   | true =>
     replace HWB:=Lib.hid (HWB.out rfl)
     replace HFB:=Lib.hid (HFB.out rfl)
     cases oa with
     | false =>
       clear HWB HFA HFB HEC HTD
       go_enter Tryz.func10,Tryz.ntmps10
       go_upto_region 1 with fail
       have hb1:Blk w.heap.size [.slice cpa csa.length cca,.slice gpa gsa.length gca,.slice spa ssa.length sca,.slice opa osa.length oca,.slice hpa hsa.length hca,.slice tpa tsa.length tca] 28 (w.alloc (Obj.cells #[.slice cpa csa.length cca,.slice gpa gsa.length gca,.slice spa ssa.length sca,.slice opa osa.length oca,.slice hpa hsa.length hca,.slice tpa tsa.length tca] 28)):=Blk.new w _ _
       have hb2:Blk (w.alloc (Obj.cells #[.slice cpa csa.length cca,.slice gpa gsa.length gca,.slice spa ssa.length sca,.slice opa osa.length oca,.slice hpa hsa.length hca,.slice tpa tsa.length tca] 28)).heap.size [.slice cpb csb.length ccb,.slice gpb gsb.length gcb,.slice spb ssb.length scb,.slice opb osb.length ocb,.slice hpb hsb.length hcb,.slice tpb tsb.length tcb] 28 ((w.alloc (Obj.cells #[.slice cpa csa.length cca,.slice gpa gsa.length gca,.slice spa ssa.length sca,.slice opa osa.length oca,.slice hpa hsa.length hca,.slice tpa tsa.length tca] 28)).alloc (Obj.cells #[.slice cpb csb.length ccb,.slice gpb gsb.length gcb,.slice spb ssb.length scb,.slice opb osb.length ocb,.slice hpb hsb.length hcb,.slice tpb tsb.length tcb] 28)):=Blk.new _ _ _
       have hb3:=hb1.grew ((Grew.refl _).alloc (Obj.cells #[.slice cpb csb.length ccb,.slice gpb gsb.length gcb,.slice spb ssb.length scb,.slice opb osb.length ocb,.slice hpb hsb.length hcb,.slice tpb tsb.length tcb] 28))
       have hgV:Grew w ((w.alloc (Obj.cells #[.slice cpa csa.length cca,.slice gpa gsa.length gca,.slice spa ssa.length sca,.slice opa osa.length oca,.slice hpa hsa.length hca,.slice tpa tsa.length tca] 28)).alloc (Obj.cells #[.slice cpb csb.length ccb,.slice gpb gsb.length gcb,.slice spb ssb.length scb,.slice opb osb.length ocb,.slice hpb hsb.length hcb,.slice tpb tsb.length tcb] 28)):=((Grew.refl w).alloc _).alloc _
       rw [alloc_sz] at hb2
       try rw [alloc_sz]
       generalize ((w.alloc (Obj.cells #[.slice cpa csa.length cca,.slice gpa gsa.length gca,.slice spa ssa.length sca,.slice opa osa.length oca,.slice hpa hsa.length hca,.slice tpa tsa.length tca] 28)).alloc (Obj.cells #[.slice cpb csb.length ccb,.slice gpb gsb.length gcb,.slice spb ssb.length scb,.slice opb osb.length ocb,.slice hpb hsb.length hcb,.slice tpb tsb.length tcb] 28))=V0 at hb2 hb3 hgV ⊢
       generalize w.heap.size+1=U at hb2 ⊢
       generalize w.heap.size=T at hb3 ⊢
       have HG1:=Lib.hid hgV
       have HA1:=Lib.hid hb3
       have HB1:=Lib.hid hb2
       clear hb1 hb2 hb3 hgV
       go_wp2_with (first
        | (go_at_call 11;(with_reducible refine(HAW.out _ HG1.out).mono ?_);rintro e w1 ⟨rfl,g⟩;have HG2:=Lib.hid (HG1.out.trans g);have HA2:=Lib.hid (HA1.out.grew g);have HB2:=Lib.hid (HB1.out.grew g);clear g;have qa0:w1.cell? ⟨T,0,none⟩=some (.slice cpa csa.length cca):=HA2.out.cell 0;have qa1:w1.cell? ⟨T,1,none⟩=some (.slice gpa gsa.length gca):=HA2.out.cell 1;have qa2:w1.cell? ⟨T,2,none⟩=some (.slice spa ssa.length sca):=HA2.out.cell 2;have qa3:w1.cell? ⟨T,3,none⟩=some (.slice opa osa.length oca):=HA2.out.cell 3;have qa4:w1.cell? ⟨T,4,none⟩=some (.slice hpa hsa.length hca):=HA2.out.cell 4;have qa5:w1.cell? ⟨T,5,none⟩=some (.slice tpa tsa.length tca):=HA2.out.cell 5;have qb0:w1.cell? ⟨U,0,none⟩=some (.slice cpb csb.length ccb):=HB2.out.cell 0;have qb1:w1.cell? ⟨U,1,none⟩=some (.slice gpb gsb.length gcb):=HB2.out.cell 1;have qb2:w1.cell? ⟨U,2,none⟩=some (.slice spb ssb.length scb):=HB2.out.cell 2;have qb3:w1.cell? ⟨U,3,none⟩=some (.slice opb osb.length ocb):=HB2.out.cell 3;have qb4:w1.cell? ⟨U,4,none⟩=some (.slice hpb hsb.length hcb):=HB2.out.cell 4;have qb5:w1.cell? ⟨U,5,none⟩=some (.slice tpb tsb.length tcb):=HB2.out.cell 5)
        | (go_at_call 12;(with_reducible refine(HSA.out _ HG2.out).mono ?_);rintro e w2 ⟨rfl,g⟩;have HG3:=Lib.hid (HG2.out.trans g);have HA3:=Lib.hid (HA2.out.grew g);have HB3:=Lib.hid (HB2.out.grew g);clear g;have qa0:w2.cell? ⟨T,0,none⟩=some (.slice cpa csa.length cca):=HA3.out.cell 0;have qa1:w2.cell? ⟨T,1,none⟩=some (.slice gpa gsa.length gca):=HA3.out.cell 1;have qa2:w2.cell? ⟨T,2,none⟩=some (.slice spa ssa.length sca):=HA3.out.cell 2;have qa3:w2.cell? ⟨T,3,none⟩=some (.slice opa osa.length oca):=HA3.out.cell 3;have qa4:w2.cell? ⟨T,4,none⟩=some (.slice hpa hsa.length hca):=HA3.out.cell 4;have qa5:w2.cell? ⟨T,5,none⟩=some (.slice tpa tsa.length tca):=HA3.out.cell 5;have qb0:w2.cell? ⟨U,0,none⟩=some (.slice cpb csb.length ccb):=HB3.out.cell 0;have qb1:w2.cell? ⟨U,1,none⟩=some (.slice gpb gsb.length gcb):=HB3.out.cell 1;have qb2:w2.cell? ⟨U,2,none⟩=some (.slice spb ssb.length scb):=HB3.out.cell 2;have qb3:w2.cell? ⟨U,3,none⟩=some (.slice opb osb.length ocb):=HB3.out.cell 3;have qb4:w2.cell? ⟨U,4,none⟩=some (.slice hpb hsb.length hcb):=HB3.out.cell 4;have qb5:w2.cell? ⟨U,5,none⟩=some (.slice tpb tsb.length tcb):=HB3.out.cell 5)
        | (go_at_call 12;(with_reducible refine(HSB.out _ HG3.out).mono ?_);rintro e w3 ⟨rfl,g⟩;have HG4:=Lib.hid (HG3.out.trans g);have HA4:=Lib.hid (HA3.out.grew g);have HB4:=Lib.hid (HB3.out.grew g);clear g;have qa0:w3.cell? ⟨T,0,none⟩=some (.slice cpa csa.length cca):=HA4.out.cell 0;have qa1:w3.cell? ⟨T,1,none⟩=some (.slice gpa gsa.length gca):=HA4.out.cell 1;have qa2:w3.cell? ⟨T,2,none⟩=some (.slice spa ssa.length sca):=HA4.out.cell 2;have qa3:w3.cell? ⟨T,3,none⟩=some (.slice opa osa.length oca):=HA4.out.cell 3;have qa4:w3.cell? ⟨T,4,none⟩=some (.slice hpa hsa.length hca):=HA4.out.cell 4;have qa5:w3.cell? ⟨T,5,none⟩=some (.slice tpa tsa.length tca):=HA4.out.cell 5;have qb0:w3.cell? ⟨U,0,none⟩=some (.slice cpb csb.length ccb):=HB4.out.cell 0;have qb1:w3.cell? ⟨U,1,none⟩=some (.slice gpb gsb.length gcb):=HB4.out.cell 1;have qb2:w3.cell? ⟨U,2,none⟩=some (.slice spb ssb.length scb):=HB4.out.cell 2;have qb3:w3.cell? ⟨U,3,none⟩=some (.slice opb osb.length ocb):=HB4.out.cell 3;have qb4:w3.cell? ⟨U,4,none⟩=some (.slice hpb hsb.length hcb):=HB4.out.cell 4;have qb5:w3.cell? ⟨U,5,none⟩=some (.slice tpb tsb.length tcb):=HB4.out.cell 5)
        | (go_at_call 19;(with_reducible refine(HWA.out _ HG4.out).mono ?_);rintro e w4 ⟨rfl,g⟩;have HG5:=Lib.hid (HG4.out.trans g);have HA5:=Lib.hid (HA4.out.grew g);have HB5:=Lib.hid (HB4.out.grew g);clear g;have qa0:w4.cell? ⟨T,0,none⟩=some (.slice cpa csa.length cca):=HA5.out.cell 0;have qa1:w4.cell? ⟨T,1,none⟩=some (.slice gpa gsa.length gca):=HA5.out.cell 1;have qa2:w4.cell? ⟨T,2,none⟩=some (.slice spa ssa.length sca):=HA5.out.cell 2;have qa3:w4.cell? ⟨T,3,none⟩=some (.slice opa osa.length oca):=HA5.out.cell 3;have qa4:w4.cell? ⟨T,4,none⟩=some (.slice hpa hsa.length hca):=HA5.out.cell 4;have qa5:w4.cell? ⟨T,5,none⟩=some (.slice tpa tsa.length tca):=HA5.out.cell 5;have qb0:w4.cell? ⟨U,0,none⟩=some (.slice cpb csb.length ccb):=HB5.out.cell 0;have qb1:w4.cell? ⟨U,1,none⟩=some (.slice gpb gsb.length gcb):=HB5.out.cell 1;have qb2:w4.cell? ⟨U,2,none⟩=some (.slice spb ssb.length scb):=HB5.out.cell 2;have qb3:w4.cell? ⟨U,3,none⟩=some (.slice opb osb.length ocb):=HB5.out.cell 3;have qb4:w4.cell? ⟨U,4,none⟩=some (.slice hpb hsb.length hcb):=HB5.out.cell 4;have qb5:w4.cell? ⟨U,5,none⟩=some (.slice tpb tsb.length tcb):=HB5.out.cell 5)
        )
       go_ret
       exact⟨rfl,HG5.out⟩
     | true =>
       replace HFA:=Lib.hid (HFA.out rfl)
       cases ob with
       | false =>
         clear HFA HFB HEC HTD
         go_enter Tryz.func10,Tryz.ntmps10
         go_upto_region 1 with fail
         have hb1:Blk w.heap.size [.slice cpa csa.length cca,.slice gpa gsa.length gca,.slice spa ssa.length sca,.slice opa osa.length oca,.slice hpa hsa.length hca,.slice tpa tsa.length tca] 28 (w.alloc (Obj.cells #[.slice cpa csa.length cca,.slice gpa gsa.length gca,.slice spa ssa.length sca,.slice opa osa.length oca,.slice hpa hsa.length hca,.slice tpa tsa.length tca] 28)):=Blk.new w _ _
         have hb2:Blk (w.alloc (Obj.cells #[.slice cpa csa.length cca,.slice gpa gsa.length gca,.slice spa ssa.length sca,.slice opa osa.length oca,.slice hpa hsa.length hca,.slice tpa tsa.length tca] 28)).heap.size [.slice cpb csb.length ccb,.slice gpb gsb.length gcb,.slice spb ssb.length scb,.slice opb osb.length ocb,.slice hpb hsb.length hcb,.slice tpb tsb.length tcb] 28 ((w.alloc (Obj.cells #[.slice cpa csa.length cca,.slice gpa gsa.length gca,.slice spa ssa.length sca,.slice opa osa.length oca,.slice hpa hsa.length hca,.slice tpa tsa.length tca] 28)).alloc (Obj.cells #[.slice cpb csb.length ccb,.slice gpb gsb.length gcb,.slice spb ssb.length scb,.slice opb osb.length ocb,.slice hpb hsb.length hcb,.slice tpb tsb.length tcb] 28)):=Blk.new _ _ _
         have hb3:=hb1.grew ((Grew.refl _).alloc (Obj.cells #[.slice cpb csb.length ccb,.slice gpb gsb.length gcb,.slice spb ssb.length scb,.slice opb osb.length ocb,.slice hpb hsb.length hcb,.slice tpb tsb.length tcb] 28))
         have hgV:Grew w ((w.alloc (Obj.cells #[.slice cpa csa.length cca,.slice gpa gsa.length gca,.slice spa ssa.length sca,.slice opa osa.length oca,.slice hpa hsa.length hca,.slice tpa tsa.length tca] 28)).alloc (Obj.cells #[.slice cpb csb.length ccb,.slice gpb gsb.length gcb,.slice spb ssb.length scb,.slice opb osb.length ocb,.slice hpb hsb.length hcb,.slice tpb tsb.length tcb] 28)):=((Grew.refl w).alloc _).alloc _
         rw [alloc_sz] at hb2
         try rw [alloc_sz]
         generalize ((w.alloc (Obj.cells #[.slice cpa csa.length cca,.slice gpa gsa.length gca,.slice spa ssa.length sca,.slice opa osa.length oca,.slice hpa hsa.length hca,.slice tpa tsa.length tca] 28)).alloc (Obj.cells #[.slice cpb csb.length ccb,.slice gpb gsb.length gcb,.slice spb ssb.length scb,.slice opb osb.length ocb,.slice hpb hsb.length hcb,.slice tpb tsb.length tcb] 28))=V0 at hb2 hb3 hgV ⊢
         generalize w.heap.size+1=U at hb2 ⊢
         generalize w.heap.size=T at hb3 ⊢
         have HG1:=Lib.hid hgV
         have HA1:=Lib.hid hb3
         have HB1:=Lib.hid hb2
         clear hb1 hb2 hb3 hgV
         go_wp2_with (first
          | (go_at_call 11;(with_reducible refine(HAW.out _ HG1.out).mono ?_);rintro e w1 ⟨rfl,g⟩;have HG2:=Lib.hid (HG1.out.trans g);have HA2:=Lib.hid (HA1.out.grew g);have HB2:=Lib.hid (HB1.out.grew g);clear g;have qa0:w1.cell? ⟨T,0,none⟩=some (.slice cpa csa.length cca):=HA2.out.cell 0;have qa1:w1.cell? ⟨T,1,none⟩=some (.slice gpa gsa.length gca):=HA2.out.cell 1;have qa2:w1.cell? ⟨T,2,none⟩=some (.slice spa ssa.length sca):=HA2.out.cell 2;have qa3:w1.cell? ⟨T,3,none⟩=some (.slice opa osa.length oca):=HA2.out.cell 3;have qa4:w1.cell? ⟨T,4,none⟩=some (.slice hpa hsa.length hca):=HA2.out.cell 4;have qa5:w1.cell? ⟨T,5,none⟩=some (.slice tpa tsa.length tca):=HA2.out.cell 5;have qb0:w1.cell? ⟨U,0,none⟩=some (.slice cpb csb.length ccb):=HB2.out.cell 0;have qb1:w1.cell? ⟨U,1,none⟩=some (.slice gpb gsb.length gcb):=HB2.out.cell 1;have qb2:w1.cell? ⟨U,2,none⟩=some (.slice spb ssb.length scb):=HB2.out.cell 2;have qb3:w1.cell? ⟨U,3,none⟩=some (.slice opb osb.length ocb):=HB2.out.cell 3;have qb4:w1.cell? ⟨U,4,none⟩=some (.slice hpb hsb.length hcb):=HB2.out.cell 4;have qb5:w1.cell? ⟨U,5,none⟩=some (.slice tpb tsb.length tcb):=HB2.out.cell 5)
          | (go_at_call 12;(with_reducible refine(HSA.out _ HG2.out).mono ?_);rintro e w2 ⟨rfl,g⟩;have HG3:=Lib.hid (HG2.out.trans g);have HA3:=Lib.hid (HA2.out.grew g);have HB3:=Lib.hid (HB2.out.grew g);clear g;have qa0:w2.cell? ⟨T,0,none⟩=some (.slice cpa csa.length cca):=HA3.out.cell 0;have qa1:w2.cell? ⟨T,1,none⟩=some (.slice gpa gsa.length gca):=HA3.out.cell 1;have qa2:w2.cell? ⟨T,2,none⟩=some (.slice spa ssa.length sca):=HA3.out.cell 2;have qa3:w2.cell? ⟨T,3,none⟩=some (.slice opa osa.length oca):=HA3.out.cell 3;have qa4:w2.cell? ⟨T,4,none⟩=some (.slice hpa hsa.length hca):=HA3.out.cell 4;have qa5:w2.cell? ⟨T,5,none⟩=some (.slice tpa tsa.length tca):=HA3.out.cell 5;have qb0:w2.cell? ⟨U,0,none⟩=some (.slice cpb csb.length ccb):=HB3.out.cell 0;have qb1:w2.cell? ⟨U,1,none⟩=some (.slice gpb gsb.length gcb):=HB3.out.cell 1;have qb2:w2.cell? ⟨U,2,none⟩=some (.slice spb ssb.length scb):=HB3.out.cell 2;have qb3:w2.cell? ⟨U,3,none⟩=some (.slice opb osb.length ocb):=HB3.out.cell 3;have qb4:w2.cell? ⟨U,4,none⟩=some (.slice hpb hsb.length hcb):=HB3.out.cell 4;have qb5:w2.cell? ⟨U,5,none⟩=some (.slice tpb tsb.length tcb):=HB3.out.cell 5)
          | (go_at_call 12;(with_reducible refine(HSB.out _ HG3.out).mono ?_);rintro e w3 ⟨rfl,g⟩;have HG4:=Lib.hid (HG3.out.trans g);have HA4:=Lib.hid (HA3.out.grew g);have HB4:=Lib.hid (HB3.out.grew g);clear g;have qa0:w3.cell? ⟨T,0,none⟩=some (.slice cpa csa.length cca):=HA4.out.cell 0;have qa1:w3.cell? ⟨T,1,none⟩=some (.slice gpa gsa.length gca):=HA4.out.cell 1;have qa2:w3.cell? ⟨T,2,none⟩=some (.slice spa ssa.length sca):=HA4.out.cell 2;have qa3:w3.cell? ⟨T,3,none⟩=some (.slice opa osa.length oca):=HA4.out.cell 3;have qa4:w3.cell? ⟨T,4,none⟩=some (.slice hpa hsa.length hca):=HA4.out.cell 4;have qa5:w3.cell? ⟨T,5,none⟩=some (.slice tpa tsa.length tca):=HA4.out.cell 5;have qb0:w3.cell? ⟨U,0,none⟩=some (.slice cpb csb.length ccb):=HB4.out.cell 0;have qb1:w3.cell? ⟨U,1,none⟩=some (.slice gpb gsb.length gcb):=HB4.out.cell 1;have qb2:w3.cell? ⟨U,2,none⟩=some (.slice spb ssb.length scb):=HB4.out.cell 2;have qb3:w3.cell? ⟨U,3,none⟩=some (.slice opb osb.length ocb):=HB4.out.cell 3;have qb4:w3.cell? ⟨U,4,none⟩=some (.slice hpb hsb.length hcb):=HB4.out.cell 4;have qb5:w3.cell? ⟨U,5,none⟩=some (.slice tpb tsb.length tcb):=HB4.out.cell 5)
          | (go_at_call 19;(with_reducible refine(HWA.out _ HG4.out).mono ?_);rintro e w4 ⟨rfl,g⟩;have HG5:=Lib.hid (HG4.out.trans g);have HA5:=Lib.hid (HA4.out.grew g);have HB5:=Lib.hid (HB4.out.grew g);clear g;have qa0:w4.cell? ⟨T,0,none⟩=some (.slice cpa csa.length cca):=HA5.out.cell 0;have qa1:w4.cell? ⟨T,1,none⟩=some (.slice gpa gsa.length gca):=HA5.out.cell 1;have qa2:w4.cell? ⟨T,2,none⟩=some (.slice spa ssa.length sca):=HA5.out.cell 2;have qa3:w4.cell? ⟨T,3,none⟩=some (.slice opa osa.length oca):=HA5.out.cell 3;have qa4:w4.cell? ⟨T,4,none⟩=some (.slice hpa hsa.length hca):=HA5.out.cell 4;have qa5:w4.cell? ⟨T,5,none⟩=some (.slice tpa tsa.length tca):=HA5.out.cell 5;have qb0:w4.cell? ⟨U,0,none⟩=some (.slice cpb csb.length ccb):=HB5.out.cell 0;have qb1:w4.cell? ⟨U,1,none⟩=some (.slice gpb gsb.length gcb):=HB5.out.cell 1;have qb2:w4.cell? ⟨U,2,none⟩=some (.slice spb ssb.length scb):=HB5.out.cell 2;have qb3:w4.cell? ⟨U,3,none⟩=some (.slice opb osb.length ocb):=HB5.out.cell 3;have qb4:w4.cell? ⟨U,4,none⟩=some (.slice hpb hsb.length hcb):=HB5.out.cell 4;have qb5:w4.cell? ⟨U,5,none⟩=some (.slice tpb tsb.length tcb):=HB5.out.cell 5)
          | (go_at_call 19;(with_reducible refine(HWB.out _ HG5.out).mono ?_);rintro e V ⟨rfl,g⟩;have HG6:=Lib.hid (HG5.out.trans g);have HA6:=Lib.hid (HA5.out.grew g);have HB6:=Lib.hid (HB5.out.grew g);clear g;have qa0:V.cell? ⟨T,0,none⟩=some (.slice cpa csa.length cca):=HA6.out.cell 0;have qa1:V.cell? ⟨T,1,none⟩=some (.slice gpa gsa.length gca):=HA6.out.cell 1;have qa2:V.cell? ⟨T,2,none⟩=some (.slice spa ssa.length sca):=HA6.out.cell 2;have qa3:V.cell? ⟨T,3,none⟩=some (.slice opa osa.length oca):=HA6.out.cell 3;have qa4:V.cell? ⟨T,4,none⟩=some (.slice hpa hsa.length hca):=HA6.out.cell 4;have qa5:V.cell? ⟨T,5,none⟩=some (.slice tpa tsa.length tca):=HA6.out.cell 5;have qb0:V.cell? ⟨U,0,none⟩=some (.slice cpb csb.length ccb):=HB6.out.cell 0;have qb1:V.cell? ⟨U,1,none⟩=some (.slice gpb gsb.length gcb):=HB6.out.cell 1;have qb2:V.cell? ⟨U,2,none⟩=some (.slice spb ssb.length scb):=HB6.out.cell 2;have qb3:V.cell? ⟨U,3,none⟩=some (.slice opb osb.length ocb):=HB6.out.cell 3;have qb4:V.cell? ⟨U,4,none⟩=some (.slice hpb hsb.length hcb):=HB6.out.cell 4;have qb5:V.cell? ⟨U,5,none⟩=some (.slice tpb tsb.length tcb):=HB6.out.cell 5)
          )
         go_ret
         exact⟨rfl,HG6.out⟩
       | true =>
         replace HFB:=Lib.hid (HFB.out rfl)
         replace HTD:=Lib.hid (HTD.out rfl rfl)
         go_enter Tryz.func10,Tryz.ntmps10
         go_upto_region 1 with fail
         have hb1:Blk w.heap.size [.slice cpa csa.length cca,.slice gpa gsa.length gca,.slice spa ssa.length sca,.slice opa osa.length oca,.slice hpa hsa.length hca,.slice tpa tsa.length tca] 28 (w.alloc (Obj.cells #[.slice cpa csa.length cca,.slice gpa gsa.length gca,.slice spa ssa.length sca,.slice opa osa.length oca,.slice hpa hsa.length hca,.slice tpa tsa.length tca] 28)):=Blk.new w _ _
         have hb2:Blk (w.alloc (Obj.cells #[.slice cpa csa.length cca,.slice gpa gsa.length gca,.slice spa ssa.length sca,.slice opa osa.length oca,.slice hpa hsa.length hca,.slice tpa tsa.length tca] 28)).heap.size [.slice cpb csb.length ccb,.slice gpb gsb.length gcb,.slice spb ssb.length scb,.slice opb osb.length ocb,.slice hpb hsb.length hcb,.slice tpb tsb.length tcb] 28 ((w.alloc (Obj.cells #[.slice cpa csa.length cca,.slice gpa gsa.length gca,.slice spa ssa.length sca,.slice opa osa.length oca,.slice hpa hsa.length hca,.slice tpa tsa.length tca] 28)).alloc (Obj.cells #[.slice cpb csb.length ccb,.slice gpb gsb.length gcb,.slice spb ssb.length scb,.slice opb osb.length ocb,.slice hpb hsb.length hcb,.slice tpb tsb.length tcb] 28)):=Blk.new _ _ _
         have hb3:=hb1.grew ((Grew.refl _).alloc (Obj.cells #[.slice cpb csb.length ccb,.slice gpb gsb.length gcb,.slice spb ssb.length scb,.slice opb osb.length ocb,.slice hpb hsb.length hcb,.slice tpb tsb.length tcb] 28))
         have hgV:Grew w ((w.alloc (Obj.cells #[.slice cpa csa.length cca,.slice gpa gsa.length gca,.slice spa ssa.length sca,.slice opa osa.length oca,.slice hpa hsa.length hca,.slice tpa tsa.length tca] 28)).alloc (Obj.cells #[.slice cpb csb.length ccb,.slice gpb gsb.length gcb,.slice spb ssb.length scb,.slice opb osb.length ocb,.slice hpb hsb.length hcb,.slice tpb tsb.length tcb] 28)):=((Grew.refl w).alloc _).alloc _
         rw [alloc_sz] at hb2
         try rw [alloc_sz]
         generalize ((w.alloc (Obj.cells #[.slice cpa csa.length cca,.slice gpa gsa.length gca,.slice spa ssa.length sca,.slice opa osa.length oca,.slice hpa hsa.length hca,.slice tpa tsa.length tca] 28)).alloc (Obj.cells #[.slice cpb csb.length ccb,.slice gpb gsb.length gcb,.slice spb ssb.length scb,.slice opb osb.length ocb,.slice hpb hsb.length hcb,.slice tpb tsb.length tcb] 28))=V0 at hb2 hb3 hgV ⊢
         generalize w.heap.size+1=U at hb2 ⊢
         generalize w.heap.size=T at hb3 ⊢
         have HG1:=Lib.hid hgV
         have HA1:=Lib.hid hb3
         have HB1:=Lib.hid hb2
         clear hb1 hb2 hb3 hgV
         go_upto_region 5 with (first
          | (go_at_call 11;(with_reducible refine(HAW.out _ HG1.out).mono ?_);rintro e w1 ⟨rfl,g⟩;have HG2:=Lib.hid (HG1.out.trans g);have HA2:=Lib.hid (HA1.out.grew g);have HB2:=Lib.hid (HB1.out.grew g);clear g;have qa0:w1.cell? ⟨T,0,none⟩=some (.slice cpa csa.length cca):=HA2.out.cell 0;have qa1:w1.cell? ⟨T,1,none⟩=some (.slice gpa gsa.length gca):=HA2.out.cell 1;have qa2:w1.cell? ⟨T,2,none⟩=some (.slice spa ssa.length sca):=HA2.out.cell 2;have qa3:w1.cell? ⟨T,3,none⟩=some (.slice opa osa.length oca):=HA2.out.cell 3;have qa4:w1.cell? ⟨T,4,none⟩=some (.slice hpa hsa.length hca):=HA2.out.cell 4;have qa5:w1.cell? ⟨T,5,none⟩=some (.slice tpa tsa.length tca):=HA2.out.cell 5;have qb0:w1.cell? ⟨U,0,none⟩=some (.slice cpb csb.length ccb):=HB2.out.cell 0;have qb1:w1.cell? ⟨U,1,none⟩=some (.slice gpb gsb.length gcb):=HB2.out.cell 1;have qb2:w1.cell? ⟨U,2,none⟩=some (.slice spb ssb.length scb):=HB2.out.cell 2;have qb3:w1.cell? ⟨U,3,none⟩=some (.slice opb osb.length ocb):=HB2.out.cell 3;have qb4:w1.cell? ⟨U,4,none⟩=some (.slice hpb hsb.length hcb):=HB2.out.cell 4;have qb5:w1.cell? ⟨U,5,none⟩=some (.slice tpb tsb.length tcb):=HB2.out.cell 5)
          | (go_at_call 12;(with_reducible refine(HSA.out _ HG2.out).mono ?_);rintro e w2 ⟨rfl,g⟩;have HG3:=Lib.hid (HG2.out.trans g);have HA3:=Lib.hid (HA2.out.grew g);have HB3:=Lib.hid (HB2.out.grew g);clear g;have qa0:w2.cell? ⟨T,0,none⟩=some (.slice cpa csa.length cca):=HA3.out.cell 0;have qa1:w2.cell? ⟨T,1,none⟩=some (.slice gpa gsa.length gca):=HA3.out.cell 1;have qa2:w2.cell? ⟨T,2,none⟩=some (.slice spa ssa.length sca):=HA3.out.cell 2;have qa3:w2.cell? ⟨T,3,none⟩=some (.slice opa osa.length oca):=HA3.out.cell 3;have qa4:w2.cell? ⟨T,4,none⟩=some (.slice hpa hsa.length hca):=HA3.out.cell 4;have qa5:w2.cell? ⟨T,5,none⟩=some (.slice tpa tsa.length tca):=HA3.out.cell 5;have qb0:w2.cell? ⟨U,0,none⟩=some (.slice cpb csb.length ccb):=HB3.out.cell 0;have qb1:w2.cell? ⟨U,1,none⟩=some (.slice gpb gsb.length gcb):=HB3.out.cell 1;have qb2:w2.cell? ⟨U,2,none⟩=some (.slice spb ssb.length scb):=HB3.out.cell 2;have qb3:w2.cell? ⟨U,3,none⟩=some (.slice opb osb.length ocb):=HB3.out.cell 3;have qb4:w2.cell? ⟨U,4,none⟩=some (.slice hpb hsb.length hcb):=HB3.out.cell 4;have qb5:w2.cell? ⟨U,5,none⟩=some (.slice tpb tsb.length tcb):=HB3.out.cell 5)
          | (go_at_call 12;(with_reducible refine(HSB.out _ HG3.out).mono ?_);rintro e w3 ⟨rfl,g⟩;have HG4:=Lib.hid (HG3.out.trans g);have HA4:=Lib.hid (HA3.out.grew g);have HB4:=Lib.hid (HB3.out.grew g);clear g;have qa0:w3.cell? ⟨T,0,none⟩=some (.slice cpa csa.length cca):=HA4.out.cell 0;have qa1:w3.cell? ⟨T,1,none⟩=some (.slice gpa gsa.length gca):=HA4.out.cell 1;have qa2:w3.cell? ⟨T,2,none⟩=some (.slice spa ssa.length sca):=HA4.out.cell 2;have qa3:w3.cell? ⟨T,3,none⟩=some (.slice opa osa.length oca):=HA4.out.cell 3;have qa4:w3.cell? ⟨T,4,none⟩=some (.slice hpa hsa.length hca):=HA4.out.cell 4;have qa5:w3.cell? ⟨T,5,none⟩=some (.slice tpa tsa.length tca):=HA4.out.cell 5;have qb0:w3.cell? ⟨U,0,none⟩=some (.slice cpb csb.length ccb):=HB4.out.cell 0;have qb1:w3.cell? ⟨U,1,none⟩=some (.slice gpb gsb.length gcb):=HB4.out.cell 1;have qb2:w3.cell? ⟨U,2,none⟩=some (.slice spb ssb.length scb):=HB4.out.cell 2;have qb3:w3.cell? ⟨U,3,none⟩=some (.slice opb osb.length ocb):=HB4.out.cell 3;have qb4:w3.cell? ⟨U,4,none⟩=some (.slice hpb hsb.length hcb):=HB4.out.cell 4;have qb5:w3.cell? ⟨U,5,none⟩=some (.slice tpb tsb.length tcb):=HB4.out.cell 5)
          | (go_at_call 19;(with_reducible refine(HWA.out _ HG4.out).mono ?_);rintro e w4 ⟨rfl,g⟩;have HG5:=Lib.hid (HG4.out.trans g);have HA5:=Lib.hid (HA4.out.grew g);have HB5:=Lib.hid (HB4.out.grew g);clear g;have qa0:w4.cell? ⟨T,0,none⟩=some (.slice cpa csa.length cca):=HA5.out.cell 0;have qa1:w4.cell? ⟨T,1,none⟩=some (.slice gpa gsa.length gca):=HA5.out.cell 1;have qa2:w4.cell? ⟨T,2,none⟩=some (.slice spa ssa.length sca):=HA5.out.cell 2;have qa3:w4.cell? ⟨T,3,none⟩=some (.slice opa osa.length oca):=HA5.out.cell 3;have qa4:w4.cell? ⟨T,4,none⟩=some (.slice hpa hsa.length hca):=HA5.out.cell 4;have qa5:w4.cell? ⟨T,5,none⟩=some (.slice tpa tsa.length tca):=HA5.out.cell 5;have qb0:w4.cell? ⟨U,0,none⟩=some (.slice cpb csb.length ccb):=HB5.out.cell 0;have qb1:w4.cell? ⟨U,1,none⟩=some (.slice gpb gsb.length gcb):=HB5.out.cell 1;have qb2:w4.cell? ⟨U,2,none⟩=some (.slice spb ssb.length scb):=HB5.out.cell 2;have qb3:w4.cell? ⟨U,3,none⟩=some (.slice opb osb.length ocb):=HB5.out.cell 3;have qb4:w4.cell? ⟨U,4,none⟩=some (.slice hpb hsb.length hcb):=HB5.out.cell 4;have qb5:w4.cell? ⟨U,5,none⟩=some (.slice tpb tsb.length tcb):=HB5.out.cell 5)
          | (go_at_call 19;(with_reducible refine(HWB.out _ HG5.out).mono ?_);rintro e V ⟨rfl,g⟩;have HG6:=Lib.hid (HG5.out.trans g);have HA6:=Lib.hid (HA5.out.grew g);have HB6:=Lib.hid (HB5.out.grew g);clear g;have qa0:V.cell? ⟨T,0,none⟩=some (.slice cpa csa.length cca):=HA6.out.cell 0;have qa1:V.cell? ⟨T,1,none⟩=some (.slice gpa gsa.length gca):=HA6.out.cell 1;have qa2:V.cell? ⟨T,2,none⟩=some (.slice spa ssa.length sca):=HA6.out.cell 2;have qa3:V.cell? ⟨T,3,none⟩=some (.slice opa osa.length oca):=HA6.out.cell 3;have qa4:V.cell? ⟨T,4,none⟩=some (.slice hpa hsa.length hca):=HA6.out.cell 4;have qa5:V.cell? ⟨T,5,none⟩=some (.slice tpa tsa.length tca):=HA6.out.cell 5;have qb0:V.cell? ⟨U,0,none⟩=some (.slice cpb csb.length ccb):=HB6.out.cell 0;have qb1:V.cell? ⟨U,1,none⟩=some (.slice gpb gsb.length gcb):=HB6.out.cell 1;have qb2:V.cell? ⟨U,2,none⟩=some (.slice spb ssb.length scb):=HB6.out.cell 2;have qb3:V.cell? ⟨U,3,none⟩=some (.slice opb osb.length ocb):=HB6.out.cell 3;have qb4:V.cell? ⟨U,4,none⟩=some (.slice hpb hsb.length hcb):=HB6.out.cell 4;have qb5:V.cell? ⟨U,5,none⟩=some (.slice tpb tsb.length tcb):=HB6.out.cell 5)
          )
         have hb1:=HA6.out
         have hb2:=HB6.out
         have HGV:=HG6
         have d0:Atv ⟨T,0,none⟩ (.slice cpa csa.length cca) V.drew:=(hb1.grew (Grew.refl _).drw).atv 0 rfl
         have d1:Atv ⟨T,1,none⟩ (.slice gpa gsa.length gca) V.drew:=(hb1.grew (Grew.refl _).drw).atv 1 rfl
         have d2:Atv ⟨T,2,none⟩ (.slice spa ssa.length sca) V.drew:=(hb1.grew (Grew.refl _).drw).atv 2 rfl
         have d3:Atv ⟨T,3,none⟩ (.slice opa osa.length oca) V.drew:=(hb1.grew (Grew.refl _).drw).atv 3 rfl
         have d4:Atv ⟨T,4,none⟩ (.slice hpa hsa.length hca) V.drew:=(hb1.grew (Grew.refl _).drw).atv 4 rfl
         have d5:Atv ⟨T,5,none⟩ (.slice tpa tsa.length tca) V.drew:=(hb1.grew (Grew.refl _).drw).atv 5 rfl
         have e0:Atv ⟨U,0,none⟩ (.slice cpb csb.length ccb) V.drew:=(hb2.grew (Grew.refl _).drw).atv 0 rfl
         have e1:Atv ⟨U,1,none⟩ (.slice gpb gsb.length gcb) V.drew:=(hb2.grew (Grew.refl _).drw).atv 1 rfl
         have e2:Atv ⟨U,2,none⟩ (.slice spb ssb.length scb) V.drew:=(hb2.grew (Grew.refl _).drw).atv 2 rfl
         have e3:Atv ⟨U,3,none⟩ (.slice opb osb.length ocb) V.drew:=(hb2.grew (Grew.refl _).drw).atv 3 rfl
         have e4:Atv ⟨U,4,none⟩ (.slice hpb hsb.length hcb) V.drew:=(hb2.grew (Grew.refl _).drw).atv 4 rfl
         have e5:Atv ⟨U,5,none⟩ (.slice tpb tsb.length tcb) V.drew:=(hb2.grew (Grew.refl _).drw).atv 5 rfl
         clear hb1 hb2 HG1 HG2 HG3 HG4 HG5 HA1 HA2 HA3 HA4 HA5 HA6 HB1 HB2 HB3 HB4 HB5 HB6 HAW HSA HSB HWA HWB qa0 qb0 qa1 qb1 qa2 qb2 qa3 qb3 qa4 qb4 qa5 qb5
         refine wp_posts [some 25,some 26,some 27,some 28,some 29,some 30,some 31,some 32,some 33,some 4] [Zf,Zf,Zf,Zf,Zt,Zf,Zf,Zf,Zf,Zf,Zf,Zf,Zf,Zf,Zf,Zf,Zf,Zf,Zf,Zf,Zf,Zf,Zf,Zf,Zf,Zt,Zt,Zt,Zt,Zt,Zt,Zt,Zt,Zt] [fun v _=>v=.agg #[.slice cpa (csa.length) (cca),.slice gpa (gsa.length) (gca),.slice spa (ssa.length) (sca),.slice opa (osa.length) (oca),.slice hpa (hsa.length) (hca),.slice tpa (tsa.length) (tca)],fun v _=>v=.string da,fun v _=>v=.agg #[.slice cpb (csb.length) (ccb),.slice gpb (gsb.length) (gcb),.slice spb (ssb.length) (scb),.slice opb (osb.length) (ocb),.slice hpb (hsb.length) (hcb),.slice tpb (tsb.length) (tcb)],fun v _=>v=.string db,fun v _=>v=.bool (decide ((da)=(db))),fun v _=>v=.agg #[.slice cpa (csa.length) (cca),.slice gpa (gsa.length) (gca),.slice spa (ssa.length) (sca),.slice opa (osa.length) (oca),.slice hpa (hsa.length) (hca),.slice tpa (tsa.length) (tca)],fun v _=>v=.agg #[.slice cpb (csb.length) (ccb),.slice gpb (gsb.length) (gcb),.slice spb (ssb.length) (scb),.slice opb (osb.length) (ocb),.slice hpb (hsb.length) (hcb),.slice tpb (tsb.length) (tcb)],fun v _=>v=.bool (ec),fun v _=>v=.bool ((decide ((da)=(db)))==(ec)),fun v _=>v=.bool ((decide ((da)=(db)))==(ec))] (by kernel_rfl) (by kernel_rfl) rfl ?_ ⟨?_,?_,?_,?_,?_,?_,?_,?_,?_,?_,trivial⟩ ?_
         ·exact⟨Zi,Zi,Zi,Zi,Zi,Zi,Zi,Zi,Zi,Zi,trivial⟩
         ·intro u w hR hd;exact rn_ld_28 (ev rfl) (d0.kept hR) (d1.kept hR) (d2.kept hR) (d3.kept hR) (d4.kept hR) (d5.kept hR) Zr
         ·intro u w hR hd;exact runs_c1 en_l7 (ev (hd.1 rfl)) (callp (fun _ e=>e) (HFA.out _ (HGV.out.trans ((Grew.refl _).drw.trans hR))))
         ·intro u w hR hd;exact rn_ld_28 (ev rfl) (e0.kept hR) (e1.kept hR) (e2.kept hR) (e3.kept hR) (e4.kept hR) (e5.kept hR) Zr
         ·intro u w hR hd;exact runs_c1 en_l7 (ev (hd.1 rfl)) (callp (fun _ e=>e) (HFB.out _ (HGV.out.trans ((Grew.refl _).drw.trans hR))))
         ·intro u w hR hd;exact rn_eqs_9 (ev (hd.1 rfl)) (ev (hd.2.1 rfl)) Zr
         ·intro u w hR hd;exact rn_ld_28 (ev rfl) (d0.kept hR) (d1.kept hR) (d2.kept hR) (d3.kept hR) (d4.kept hR) (d5.kept hR) Zr
         ·intro u w hR hd;exact rn_ld_28 (ev rfl) (e0.kept hR) (e1.kept hR) (e2.kept hR) (e3.kept hR) (e4.kept hR) (e5.kept hR) Zr
         ·intro u w hR hd;exact runs_c2 en_l11 (ev (hd.1 rfl)) (ev (hd.2.1 rfl)) (callp (fun _ e=>e) (HEC.out _ (HGV.out.trans ((Grew.refl _).drw.trans hR))))
         ·intro u w hR hd;exact rn_eql_4 (ev (hd.1 rfl)) (ev (hd.2.1 rfl)) Zr
         ·intro u w hR hd;exact runs_mva (ev (hd.1 rfl)) Zr
         ·intro u w4 hR hh_
          have he:u 4=.bool ((decide ((da)=(db)))==(ec)):=hh_ 9 (by decide)
          have HZ:((decide ((da)=(db)))==(ec))=true:=by
           have h_:=HTD.out
           first | (rw [h_];cases ec <;> rfl) | (rw [h_];simp)
          rw [HZ] at he
          simp only [mixA,mixL,zz9,zz0,he]
          have HG7:Hid (Grew w w4):=Lib.hid (HGV.out.trans ((Grew.refl V).drw.trans hR))
          clear hh_ he hR HGV HZ
          go_wp2
          go_ret
          exact⟨rfl,HG7.out⟩
end Go.Proofs.YtcknpcbkofgdoaaGreatDoor
