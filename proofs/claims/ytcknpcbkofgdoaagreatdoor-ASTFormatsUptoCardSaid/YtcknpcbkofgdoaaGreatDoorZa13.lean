/-
  LAYER 16 (ast), THE LAWS: Measures, WellFormed, Formats.
-/
import Derived.Test.YtcknpcbkofgdoaaGreatDoorZaShort
import Derived.Test.YtcknpcbkofgdoaaGreatDoorZa12
import Derived.Test.YtcknpcbkofgdoaaGreatDoorZa04
import Derived.Test.YtcknpcbkofgdoaaGreatDoorZa01
import Derived.Test.YtcknpcbkofgdoaaGreatDoorZa03
import Derived.Test.YtcknpcbkofgdoaaGreatDoorZa00
import Derived.Deep.LoopGhost
import Derived.Deep.Cut
import Derived.Shelf.Abstract
namespace Go.Proofs.YtcknpcbkofgdoaaGreatDoor
open Go Go.RowKit Go.IntWalk
set_option linter.unusedSimpArgs false
set_option linter.unusedVariables false
set_option maxRecDepth 8000
section
variable {dst:Option Tmp}{ty:TypeId}{pos:String}{after:Array Edge}{g:Option (Nat × Bool)}{a:Act}{w:World}{T:Value→World→Prop}
theorem rn_ld_28 {x:Operand}{S o:Nat}{v0 v1 v2 v3 v4 v5:Value}(hx:a.eval x=.pointer (some ⟨S,o,none⟩)) (h0:w.cell? ⟨S,o,none⟩=some v0) (h1:w.cell? ⟨S,o+1,none⟩=some v1) (h2:w.cell? ⟨S,o+2,none⟩=some v2) (h3:w.cell? ⟨S,o+3,none⟩=some v3) (h4:w.cell? ⟨S,o+4,none⟩=some v4) (h5:w.cell? ⟨S,o+5,none⟩=some v5) (h:T (.agg #[v0,v1,v2,v3,v4,v5]) w):Runs Tryz.prog ⟨dst,.load 28 x,ty,pos,after,g⟩ a w T:=by
 refine Runs.value (v:=.agg #[v0,v1,v2,v3,v4,v5]) (w':=w) ?_ h
 simp only [execOp,hx]
 go_simp
theorem rn_eql_4 {o1 o2:Operand}{b c:Bool}(hx:a.eval o1=.bool b) (hy:a.eval o2=.bool c) (h:T (.bool (b==c)) w):Runs Tryz.prog ⟨dst,.binOp .eql 4 o1 o2 4,ty,pos,after,g⟩ a w T:=by
 refine Runs.value (v:=.bool (b==c)) (w':=w) ?_ h
 simp only [execOp,hx,hy]
 go_simp
 all_goals (cases b <;> cases c <;> rfl)
end
theorem en_l1:Enters Tryz.prog 31:=fun args w=>by go_simp
theorem en_l2:Enters Tryz.prog 32:=fun args w=>by go_simp
theorem en_l3:Enters Tryz.prog 33:=fun args w=>by go_simp
theorem en_l4:Enters Tryz.prog 34:=fun args w=>by go_simp
theorem en_l5:Enters Tryz.prog 18:=fun args w=>by go_simp
theorem en_l6:Enters Tryz.prog 19:=fun args w=>by go_simp
theorem en_l7:Enters Tryz.prog 13:=fun args w=>by go_simp
theorem en_l8:Enters Tryz.prog 14:=fun args w=>by go_simp
theorem en_l9:Enters Tryz.prog 16:=fun args w=>by go_simp
theorem en_l10:Enters Tryz.prog 17:=fun args w=>by go_simp
set_option maxHeartbeats 8000000 in
theorem measures_walk (P:Pg) (B:Nat→Prop) (w:World) (cp gp sp op hp tp:Option Addr) (cc gc sc oc hc tc:Nat) (hB:∀b,B b→b < w.heap.size) (hpg:PgIn B w P cp gp sp op hp tp cc gc sc oc hc tc) (hE:Env w) (hn:zT P.ts≤1048576) :
 Calls Tryz.prog 8 #[pgv P cp gp sp op hp tp cc gc sc oc hc tc] w fun e w'=>e=.returned (.bool true)∧Grew w w':=by
 obtain ⟨hcaps,hmaxs⟩:=hpg.caps
 have HBB:=Lib.hid hB
 have HE:=Lib.hid hE
 have HPG:=Lib.hid hpg
 have HN:=Lib.hid hn
 have HAW:=Lib.hid (fun W (hW:Grew w W)=>awake_any W (HE.out.grew hW))
 have HSM:=Lib.hid (fun W (hW:Grew w W)=>small_any P B W cp gp sp op hp tp cc gc sc oc hc tc (fun b hb=>Nat.lt_of_lt_of_le (hB b hb) hW.sz) (hpg.kept hW) hn)
 obtain ⟨b,hb⟩:∃b,smallP P=b:=⟨_,rfl⟩
 have HSP:=Lib.hid hb
 rw [hb] at HSM
 clear hb
 have HC1:Hid (∀W,Grew w W→Calls Tryz.prog 31 #[pgv P cp gp sp op hp tp cc gc sc oc hc tc] W fun e w'=>e=.returned (.int .i64 ((zT P.ts:Nat):Int))∧Grew W w'):=Lib.hid (fun W hW=>psize_any P B W cp gp sp op hp tp cc gc sc oc hc tc (HPG.out.kept hW) hn)
 have HC2:Hid (∀W,Grew w W→Calls Tryz.prog 32 #[pgv P cp gp sp op hp tp cc gc sc oc hc tc] W fun e w'=>e=.returned (.int .i64 ((zT P.ts:Nat):Int))∧Grew W w'):=Lib.hid (fun W hW=>size_any P B W cp gp sp op hp tp cc gc sc oc hc tc (fun b hb=>Nat.lt_of_lt_of_le (HBB.out b hb) hW.sz) (HPG.out.kept hW) hn)
 have HC3:Hid (∀W,Grew w W→Calls Tryz.prog 33 #[pgv P cp gp sp op hp tp cc gc sc oc hc tc] W fun e w'=>e=.returned (.int .i64 ((dT P.ts:Nat):Int))∧Grew W w'):=Lib.hid (fun W hW=>pdepth_any P B W cp gp sp op hp tp cc gc sc oc hc tc (HPG.out.kept hW) hn)
 have HC4:Hid (∀W,Grew w W→Calls Tryz.prog 34 #[pgv P cp gp sp op hp tp cc gc sc oc hc tc] W fun e w'=>e=.returned (.int .i64 ((dT P.ts:Nat):Int))∧Grew W w'):=Lib.hid (fun W hW=>depth_any P B W cp gp sp op hp tp cc gc sc oc hc tc (HPG.out.kept hW) hn)
 obtain ⟨cs,gs,ss,os,hs,ts⟩:=P
 dsimp only at hcaps HSM HC1 HC2 HC3 HC4
 generalize zT ts=n1 at HC1 HC2
 generalize dT ts=n2 at HC3 HC4
 have HG1:=Lib.hid ((Grew.refl w).alloc (Obj.cells #[.slice cp cs.length cc,.slice gp gs.length gc,.slice sp ss.length sc,.slice op os.length oc,.slice hp hs.length hc,.slice tp ts.length tc] 28))
 clear hB hpg hE hn HBB HPG HN HE
 show Calls Tryz.prog 8 #[.agg #[.slice cp cs.length cc,.slice gp gs.length gc,.slice sp ss.length sc,.slice op os.length oc,.slice hp hs.length hc,.slice tp ts.length tc]] w fun e w'=>e=.returned (.bool true)∧Grew w w'
 cases b with
 | false =>
   go_enter Tryz.func8,Tryz.ntmps8
   go_wp2_with (first
    | (go_at_call 11;(with_reducible refine(HAW.out _ HG1.out).mono ?_);rintro e w1 ⟨rfl,g⟩;have HG2:=Lib.hid (HG1.out.trans g);have hbx:=(Blk.new w [.slice cp cs.length cc,.slice gp gs.length gc,.slice sp ss.length sc,.slice op os.length oc,.slice hp hs.length hc,.slice tp ts.length tc] 28).grew g;have q0:w1.cell? ⟨w.heap.size,0,none⟩=some (.slice cp cs.length cc):=hbx.cell 0;have q1:w1.cell? ⟨w.heap.size,1,none⟩=some (.slice gp gs.length gc):=hbx.cell 1;have q2:w1.cell? ⟨w.heap.size,2,none⟩=some (.slice sp ss.length sc):=hbx.cell 2;have q3:w1.cell? ⟨w.heap.size,3,none⟩=some (.slice op os.length oc):=hbx.cell 3;have q4:w1.cell? ⟨w.heap.size,4,none⟩=some (.slice hp hs.length hc):=hbx.cell 4;have q5:w1.cell? ⟨w.heap.size,5,none⟩=some (.slice tp ts.length tc):=hbx.cell 5;clear g hbx)
    | (go_at_call 12;(with_reducible refine(HSM.out _ HG2.out).mono ?_);rintro e w2 ⟨rfl,g⟩;have HG3:=Lib.hid (HG2.out.trans g);clear g))
   go_ret
   exact⟨rfl,HG3.out⟩
 | true =>
   go_enter Tryz.func8,Tryz.ntmps8
   go_upto_region 5 with (first
    | (go_at_call 11;(with_reducible refine(HAW.out _ HG1.out).mono ?_);rintro e w1 ⟨rfl,g⟩;have HG2:=Lib.hid (HG1.out.trans g);have HBX:=Lib.hid ((Blk.new w [.slice cp cs.length cc,.slice gp gs.length gc,.slice sp ss.length sc,.slice op os.length oc,.slice hp hs.length hc,.slice tp ts.length tc] 28).grew g);have q0:w1.cell? ⟨w.heap.size,0,none⟩=some (.slice cp cs.length cc):=HBX.out.cell 0;have q1:w1.cell? ⟨w.heap.size,1,none⟩=some (.slice gp gs.length gc):=HBX.out.cell 1;have q2:w1.cell? ⟨w.heap.size,2,none⟩=some (.slice sp ss.length sc):=HBX.out.cell 2;have q3:w1.cell? ⟨w.heap.size,3,none⟩=some (.slice op os.length oc):=HBX.out.cell 3;have q4:w1.cell? ⟨w.heap.size,4,none⟩=some (.slice hp hs.length hc):=HBX.out.cell 4;have q5:w1.cell? ⟨w.heap.size,5,none⟩=some (.slice tp ts.length tc):=HBX.out.cell 5;clear g)
    | (go_at_call 12;(with_reducible refine(HSM.out _ HG2.out).mono ?_);rintro e V ⟨rfl,g⟩;have HGV:=Lib.hid (HG2.out.trans g);have HBV:=Lib.hid (HBX.out.grew g);clear g))
   have hb1:=HBV.out
   generalize w.heap.size=T at hb1 ⊢
   have d0:Atv ⟨T,0,none⟩ (.slice cp cs.length cc) V.drew:=(hb1.grew (Grew.refl _).drw).atv 0 rfl
   have d1:Atv ⟨T,1,none⟩ (.slice gp gs.length gc) V.drew:=(hb1.grew (Grew.refl _).drw).atv 1 rfl
   have d2:Atv ⟨T,2,none⟩ (.slice sp ss.length sc) V.drew:=(hb1.grew (Grew.refl _).drw).atv 2 rfl
   have d3:Atv ⟨T,3,none⟩ (.slice op os.length oc) V.drew:=(hb1.grew (Grew.refl _).drw).atv 3 rfl
   have d4:Atv ⟨T,4,none⟩ (.slice hp hs.length hc) V.drew:=(hb1.grew (Grew.refl _).drw).atv 4 rfl
   have d5:Atv ⟨T,5,none⟩ (.slice tp ts.length tc) V.drew:=(hb1.grew (Grew.refl _).drw).atv 5 rfl
   clear hb1 HBV HBX HG2 HG1 HAW HSM q0 q1 q2 q3 q4 q5
   refine wp_posts [some 8,some 9,some 10,some 11,some 12,some 13,some 14,some 15,some 16,some 17,some 18,some 19,some 2] [Zf,Zf,Zt,Zf,Zf,Zf,Zf,Zf,Zt,Zt,Zt,Zt,Zt,Zt,Zt,Zt,Zt,Zt,Zt,Zt] [fun v _=>v=.agg #[.slice cp (cs.length) (cc),.slice gp (gs.length) (gc),.slice sp (ss.length) (sc),.slice op (os.length) (oc),.slice hp (hs.length) (hc),.slice tp (ts.length) (tc)],fun v _=>v=.int .i64 ((n1:Int)),fun v _=>v=.agg #[.slice cp (cs.length) (cc),.slice gp (gs.length) (gc),.slice sp (ss.length) (sc),.slice op (os.length) (oc),.slice hp (hs.length) (hc),.slice tp (ts.length) (tc)],fun v _=>v=.int .i64 ((n1:Int)),fun v _=>v=.bool (((n1:Int))==((n1:Int))),fun v _=>v=.bool (((n1:Int))==((n1:Int))),fun v _=>(((((n1:Int))==((n1:Int)))=true)→v=.agg #[.slice cp (cs.length) (cc),.slice gp (gs.length) (gc),.slice sp (ss.length) (sc),.slice op (os.length) (oc),.slice hp (hs.length) (hc),.slice tp (ts.length) (tc)])∧(¬ ((((n1:Int))==((n1:Int)))=true)→v=undef),fun v _=>(((((n1:Int))==((n1:Int)))=true)→v=.int .i64 ((n2:Int)))∧(¬ ((((n1:Int))==((n1:Int)))=true)→v=undef),fun v _=>(((((n1:Int))==((n1:Int)))=true)→v=.agg #[.slice cp (cs.length) (cc),.slice gp (gs.length) (gc),.slice sp (ss.length) (sc),.slice op (os.length) (oc),.slice hp (hs.length) (hc),.slice tp (ts.length) (tc)])∧(¬ ((((n1:Int))==((n1:Int)))=true)→v=undef),fun v _=>(((((n1:Int))==((n1:Int)))=true)→v=.int .i64 ((n2:Int)))∧(¬ ((((n1:Int))==((n1:Int)))=true)→v=undef),fun v _=>(((((n1:Int))==((n1:Int)))=true)→v=.bool (((n2:Int))==((n2:Int))))∧(¬ ((((n1:Int))==((n1:Int)))=true)→v=undef),fun v _=>v=.bool ((((n1:Int))==((n1:Int)))&&(((n2:Int))==((n2:Int)))),fun v _=>v=.bool ((((n1:Int))==((n1:Int)))&&(((n2:Int))==((n2:Int))))] (by kernel_rfl) (by kernel_rfl) rfl ?_ ⟨?_,?_,?_,?_,?_,?_,?_,?_,?_,?_,?_,?_,?_,trivial⟩ ?_
   ·exact⟨Zi,Zi,Zi,Zi,Zi,Zi,Zi,Zi,Zi,Zi,Zi,Zi,Zi,trivial⟩
   ·intro u w hR hd;exact rn_ld_28 (ev rfl) (d0.kept hR) (d1.kept hR) (d2.kept hR) (d3.kept hR) (d4.kept hR) (d5.kept hR) Zr
   ·intro u w hR hd;exact runs_c1 en_l1 (ev (hd.1 rfl)) (callp (fun _ e=>e) (HC1.out _ (HGV.out.trans ((Grew.refl _).drw.trans hR))))
   ·intro u w hR hd;exact rn_ld_28 (ev rfl) (d0.kept hR) (d1.kept hR) (d2.kept hR) (d3.kept hR) (d4.kept hR) (d5.kept hR) Zr
   ·intro u w hR hd;exact runs_c1 en_l2 (ev (hd.1 rfl)) (callp (fun _ e=>e) (HC2.out _ (HGV.out.trans ((Grew.refl _).drw.trans hR))))
   ·intro u w hR hd;exact rn_eql_3 (ev (hd.1 rfl)) (ev (hd.2.1 rfl)) Zr
   ·intro u w hR hd;exact runs_mv (ev (hd.1 rfl)) Zr
   ·intro u w hR hd;exact⟨fun hg=>have hG:((((n1:Int))==((n1:Int)))=true):=Value.bool.inj ((hd.1 rfl).symm.trans hg);rn_ld_28 (ev rfl) (d0.kept hR) (d1.kept hR) (d2.kept hR) (d3.kept hR) (d4.kept hR) (d5.kept hR) (Zs hG),Zn (hd.1 rfl)⟩
   ·intro u w hR hd;exact⟨fun hg=>have hG:((((n1:Int))==((n1:Int)))=true):=Value.bool.inj ((hd.2.1 rfl).symm.trans hg);runs_c1 en_l3 (ev ((hd.1 rfl).1 hG)) (callp (fun _ e=>⟨fun _=>e,fun hn=>absurd hG hn⟩) (HC3.out _ (HGV.out.trans ((Grew.refl _).drw.trans hR)))),Zn (hd.2.1 rfl)⟩
   ·intro u w hR hd;exact⟨fun hg=>have hG:((((n1:Int))==((n1:Int)))=true):=Value.bool.inj ((hd.1 rfl).symm.trans hg);rn_ld_28 (ev rfl) (d0.kept hR) (d1.kept hR) (d2.kept hR) (d3.kept hR) (d4.kept hR) (d5.kept hR) (Zs hG),Zn (hd.1 rfl)⟩
   ·intro u w hR hd;exact⟨fun hg=>have hG:((((n1:Int))==((n1:Int)))=true):=Value.bool.inj ((hd.2.2.1 rfl).symm.trans hg);runs_c1 en_l4 (ev ((hd.1 rfl).1 hG)) (callp (fun _ e=>⟨fun _=>e,fun hn=>absurd hG hn⟩) (HC4.out _ (HGV.out.trans ((Grew.refl _).drw.trans hR)))),Zn (hd.2.2.1 rfl)⟩
   ·intro u w hR hd;exact⟨fun hg=>have hG:((((n1:Int))==((n1:Int)))=true):=Value.bool.inj ((hd.2.2.1 rfl).symm.trans hg);rn_eql_3 (ev ((hd.1 rfl).1 hG)) (ev ((hd.2.1 rfl).1 hG)) (Zs hG),Zn (hd.2.2.1 rfl)⟩
   ·intro u w hR hd;exact runs_an (ev (hd.1 rfl)) (fun hb=>ev ((hd.2.1 rfl).1 hb)) Zr
   ·intro u w hR hd;exact runs_mva (ev (hd.1 rfl)) Zr
   ·intro u w4 hR hh_
    have he:u 2=.bool ((((n1:Int))==((n1:Int)))&&(((n2:Int))==((n2:Int)))):=hh_ 12 (by decide)
    have HZ:((((n1:Int))==((n1:Int)))&&(((n2:Int))==((n2:Int))))=true:=by simp
    rw [HZ] at he
    simp only [mixA,mixL,zz9,zz0,he]
    have HG4:Hid (Grew w w4):=Lib.hid (HGV.out.trans ((Grew.refl V).drw.trans hR))
    clear hh_ he hR HGV HZ
    go_wp2
    go_ret
    exact⟨rfl,HG4.out⟩
set_option maxHeartbeats 8000000 in
theorem wellformed_walk (P:Pg) (B:Nat→Prop) (w:World) (cp gp sp op hp tp:Option Addr) (cc gc sc oc hc tc:Nat) (hB:∀b,B b→b < w.heap.size) (hpg:PgIn B w P cp gp sp op hp tp cc gc sc oc hc tc) (hE:Env w) (hn:zT P.ts≤1048576) :
 Calls Tryz.prog 5 #[pgv P cp gp sp op hp tp cc gc sc oc hc tc] w fun e w'=>e=.returned (.bool true)∧Grew w w':=by
 obtain ⟨hcaps,hmaxs⟩:=hpg.caps
 have HBB:=Lib.hid hB
 have HE:=Lib.hid hE
 have HPG:=Lib.hid hpg
 have HN:=Lib.hid hn
 have HAW:=Lib.hid (fun W (hW:Grew w W)=>awake_any W (HE.out.grew hW))
 have HSM:=Lib.hid (fun W (hW:Grew w W)=>small_any P B W cp gp sp op hp tp cc gc sc oc hc tc (fun b hb=>Nat.lt_of_lt_of_le (hB b hb) hW.sz) (hpg.kept hW) hn)
 obtain ⟨b,hb⟩:∃b,smallP P=b:=⟨_,rfl⟩
 have HSP:=Lib.hid hb
 rw [hb] at HSM
 clear hb
 have HC1:Hid (∀W,Grew w W→Calls Tryz.prog 18 #[pgv P cp gp sp op hp tp cc gc sc oc hc tc] W fun e w'=>e=.returned (.bool (okP P))∧Grew W w'):=Lib.hid (fun W hW=>form_any P B W cp gp sp op hp tp cc gc sc oc hc tc (HPG.out.kept hW) (HE.out.grew hW))
 have HC2:Hid (b=true→∀W,Grew w W→Calls Tryz.prog 19 #[pgv P cp gp sp op hp tp cc gc sc oc hc tc] W fun e w'=>e=.returned (.bool (okP P))∧Grew W w'):=Lib.hid (fun hb W hW=>wf_any P B W cp gp sp op hp tp cc gc sc oc hc tc (fun b hb=>Nat.lt_of_lt_of_le (HBB.out b hb) hW.sz) (HPG.out.kept hW) (by have h_:=small_le (HSP.out.trans hb);omega))
 obtain ⟨cs,gs,ss,os,hs,ts⟩:=P
 dsimp only at hcaps HSM HC1 HC2
 generalize okP ⟨cs,gs,ss,os,hs,ts⟩=d at HC1 HC2
 have HG1:=Lib.hid ((Grew.refl w).alloc (Obj.cells #[.slice cp cs.length cc,.slice gp gs.length gc,.slice sp ss.length sc,.slice op os.length oc,.slice hp hs.length hc,.slice tp ts.length tc] 28))
 clear hB hpg hE hn HBB HPG HN HE
 show Calls Tryz.prog 5 #[.agg #[.slice cp cs.length cc,.slice gp gs.length gc,.slice sp ss.length sc,.slice op os.length oc,.slice hp hs.length hc,.slice tp ts.length tc]] w fun e w'=>e=.returned (.bool true)∧Grew w w'
 cases b with
 | false =>
   go_enter Tryz.func5,Tryz.ntmps5
   go_wp2_with (first
    | (go_at_call 11;(with_reducible refine(HAW.out _ HG1.out).mono ?_);rintro e w1 ⟨rfl,g⟩;have HG2:=Lib.hid (HG1.out.trans g);have hbx:=(Blk.new w [.slice cp cs.length cc,.slice gp gs.length gc,.slice sp ss.length sc,.slice op os.length oc,.slice hp hs.length hc,.slice tp ts.length tc] 28).grew g;have q0:w1.cell? ⟨w.heap.size,0,none⟩=some (.slice cp cs.length cc):=hbx.cell 0;have q1:w1.cell? ⟨w.heap.size,1,none⟩=some (.slice gp gs.length gc):=hbx.cell 1;have q2:w1.cell? ⟨w.heap.size,2,none⟩=some (.slice sp ss.length sc):=hbx.cell 2;have q3:w1.cell? ⟨w.heap.size,3,none⟩=some (.slice op os.length oc):=hbx.cell 3;have q4:w1.cell? ⟨w.heap.size,4,none⟩=some (.slice hp hs.length hc):=hbx.cell 4;have q5:w1.cell? ⟨w.heap.size,5,none⟩=some (.slice tp ts.length tc):=hbx.cell 5;clear g hbx)
    | (go_at_call 12;(with_reducible refine(HSM.out _ HG2.out).mono ?_);rintro e w2 ⟨rfl,g⟩;have HG3:=Lib.hid (HG2.out.trans g);clear g))
   go_ret
   exact⟨rfl,HG3.out⟩
 | true =>
   go_enter Tryz.func5,Tryz.ntmps5
   go_upto_region 5 with (first
    | (go_at_call 11;(with_reducible refine(HAW.out _ HG1.out).mono ?_);rintro e w1 ⟨rfl,g⟩;have HG2:=Lib.hid (HG1.out.trans g);have HBX:=Lib.hid ((Blk.new w [.slice cp cs.length cc,.slice gp gs.length gc,.slice sp ss.length sc,.slice op os.length oc,.slice hp hs.length hc,.slice tp ts.length tc] 28).grew g);have q0:w1.cell? ⟨w.heap.size,0,none⟩=some (.slice cp cs.length cc):=HBX.out.cell 0;have q1:w1.cell? ⟨w.heap.size,1,none⟩=some (.slice gp gs.length gc):=HBX.out.cell 1;have q2:w1.cell? ⟨w.heap.size,2,none⟩=some (.slice sp ss.length sc):=HBX.out.cell 2;have q3:w1.cell? ⟨w.heap.size,3,none⟩=some (.slice op os.length oc):=HBX.out.cell 3;have q4:w1.cell? ⟨w.heap.size,4,none⟩=some (.slice hp hs.length hc):=HBX.out.cell 4;have q5:w1.cell? ⟨w.heap.size,5,none⟩=some (.slice tp ts.length tc):=HBX.out.cell 5;clear g)
    | (go_at_call 12;(with_reducible refine(HSM.out _ HG2.out).mono ?_);rintro e V ⟨rfl,g⟩;have HGV:=Lib.hid (HG2.out.trans g);have HBV:=Lib.hid (HBX.out.grew g);clear g))
   have hb1:=HBV.out
   generalize w.heap.size=T at hb1 ⊢
   have d0:Atv ⟨T,0,none⟩ (.slice cp cs.length cc) V.drew:=(hb1.grew (Grew.refl _).drw).atv 0 rfl
   have d1:Atv ⟨T,1,none⟩ (.slice gp gs.length gc) V.drew:=(hb1.grew (Grew.refl _).drw).atv 1 rfl
   have d2:Atv ⟨T,2,none⟩ (.slice sp ss.length sc) V.drew:=(hb1.grew (Grew.refl _).drw).atv 2 rfl
   have d3:Atv ⟨T,3,none⟩ (.slice op os.length oc) V.drew:=(hb1.grew (Grew.refl _).drw).atv 3 rfl
   have d4:Atv ⟨T,4,none⟩ (.slice hp hs.length hc) V.drew:=(hb1.grew (Grew.refl _).drw).atv 4 rfl
   have d5:Atv ⟨T,5,none⟩ (.slice tp ts.length tc) V.drew:=(hb1.grew (Grew.refl _).drw).atv 5 rfl
   clear hb1 HBV HBX HG2 HG1 HAW HSM q0 q1 q2 q3 q4 q5
   have HC2:=Lib.hid (HC2.out (by first | rfl | trivial))
   refine wp_posts [some 8,some 9,some 10,some 11,some 12,some 2] [Zf,Zf,Zt,Zf,Zf,Zf,Zf,Zf,Zt,Zt,Zt,Zt,Zt] [fun v _=>v=.agg #[.slice cp (cs.length) (cc),.slice gp (gs.length) (gc),.slice sp (ss.length) (sc),.slice op (os.length) (oc),.slice hp (hs.length) (hc),.slice tp (ts.length) (tc)],fun v _=>v=.bool (d),fun v _=>v=.agg #[.slice cp (cs.length) (cc),.slice gp (gs.length) (gc),.slice sp (ss.length) (sc),.slice op (os.length) (oc),.slice hp (hs.length) (hc),.slice tp (ts.length) (tc)],fun v _=>v=.bool (d),fun v _=>v=.bool ((d)==(d)),fun v _=>v=.bool ((d)==(d))] (by kernel_rfl) (by kernel_rfl) rfl ?_ ⟨?_,?_,?_,?_,?_,?_,trivial⟩ ?_
   ·exact⟨Zi,Zi,Zi,Zi,Zi,Zi,trivial⟩
   ·intro u w hR hd;exact rn_ld_28 (ev rfl) (d0.kept hR) (d1.kept hR) (d2.kept hR) (d3.kept hR) (d4.kept hR) (d5.kept hR) Zr
   ·intro u w hR hd;exact runs_c1 en_l5 (ev (hd.1 rfl)) (callp (fun _ e=>e) (HC1.out _ (HGV.out.trans ((Grew.refl _).drw.trans hR))))
   ·intro u w hR hd;exact rn_ld_28 (ev rfl) (d0.kept hR) (d1.kept hR) (d2.kept hR) (d3.kept hR) (d4.kept hR) (d5.kept hR) Zr
   ·intro u w hR hd;exact runs_c1 en_l6 (ev (hd.1 rfl)) (callp (fun _ e=>e) (HC2.out _ (HGV.out.trans ((Grew.refl _).drw.trans hR))))
   ·intro u w hR hd;exact rn_eql_4 (ev (hd.1 rfl)) (ev (hd.2.1 rfl)) Zr
   ·intro u w hR hd;exact runs_mva (ev (hd.1 rfl)) Zr
   ·intro u w4 hR hh_
    have he:u 2=.bool ((d)==(d)):=hh_ 5 (by decide)
    have HZ:((d)==(d))=true:=by cases d <;> rfl
    rw [HZ] at he
    simp only [mixA,mixL,zz9,zz0,he]
    have HG4:Hid (Grew w w4):=Lib.hid (HGV.out.trans ((Grew.refl V).drw.trans hR))
    clear hh_ he hR HGV HZ
    go_wp2
    go_ret
    exact⟨rfl,HG4.out⟩
set_option maxHeartbeats 8000000 in
theorem formats_walk (P:Pg) (B:Nat→Prop) (w:World) (cp gp sp op hp tp:Option Addr) (cc gc sc oc hc tc:Nat) (hB:∀b,B b→b < w.heap.size) (hpg:PgIn B w P cp gp sp op hp tp cc gc sc oc hc tc) (hE:Env w) (hn:zT P.ts≤1048576) :
 Calls Tryz.prog 3 #[pgv P cp gp sp op hp tp cc gc sc oc hc tc] w fun e w'=>e=.returned (.bool true)∧Grew w w':=by
 obtain ⟨hcaps,hmaxs⟩:=hpg.caps
 have HBB:=Lib.hid hB
 have HE:=Lib.hid hE
 have HPG:=Lib.hid hpg
 have HN:=Lib.hid hn
 have HAW:=Lib.hid (fun W (hW:Grew w W)=>awake_any W (HE.out.grew hW))
 have HSM:=Lib.hid (fun W (hW:Grew w W)=>small_any P B W cp gp sp op hp tp cc gc sc oc hc tc (fun b hb=>Nat.lt_of_lt_of_le (hB b hb) hW.sz) (hpg.kept hW) hn)
 obtain ⟨b,hb⟩:∃b,smallP P=b:=⟨_,rfl⟩
 have HSP:=Lib.hid hb
 rw [hb] at HSM
 clear hb
 have HC1:Hid (b=true→∀W,Grew w W→Calls Tryz.prog 13 #[pgv P cp gp sp op hp tp cc gc sc oc hc tc] W fun e w'=>e=.returned (.string (if okP P=true then ⟨(fmT P).toArray⟩ else ⟨#[]⟩))∧Grew W w'):=Lib.hid (fun hb W hW=>fmtP_any P B W cp gp sp op hp tp cc gc sc oc hc tc (fun b hb=>Nat.lt_of_lt_of_le (HBB.out b hb) hW.sz) (HPG.out.kept hW) (HE.out.grew hW) (HSP.out.trans hb))
 have HC2:Hid (b=true→∀W,Grew w W→Calls Tryz.prog 14 #[pgv P cp gp sp op hp tp cc gc sc oc hc tc] W fun e w'=>e=.returned (.string (if okP P=true then ⟨(fmT P).toArray⟩ else ⟨#[]⟩))∧Grew W w'):=Lib.hid (fun hb W hW=>format_any P B W cp gp sp op hp tp cc gc sc oc hc tc (fun b hb=>Nat.lt_of_lt_of_le (HBB.out b hb) hW.sz) (HPG.out.kept hW) (HSP.out.trans hb))
 obtain ⟨cs,gs,ss,os,hs,ts⟩:=P
 dsimp only at hcaps HSM HC1 HC2
 generalize (if okP ⟨cs,gs,ss,os,hs,ts⟩=true then (⟨(fmT ⟨cs,gs,ss,os,hs,ts⟩).toArray⟩:ByteArray) else ⟨#[]⟩)=d at HC1 HC2
 have HG1:=Lib.hid ((Grew.refl w).alloc (Obj.cells #[.slice cp cs.length cc,.slice gp gs.length gc,.slice sp ss.length sc,.slice op os.length oc,.slice hp hs.length hc,.slice tp ts.length tc] 28))
 clear hB hpg hE hn HBB HPG HN HE
 show Calls Tryz.prog 3 #[.agg #[.slice cp cs.length cc,.slice gp gs.length gc,.slice sp ss.length sc,.slice op os.length oc,.slice hp hs.length hc,.slice tp ts.length tc]] w fun e w'=>e=.returned (.bool true)∧Grew w w'
 cases b with
 | false =>
   go_enter Tryz.func3,Tryz.ntmps3
   go_wp2_with (first
    | (go_at_call 11;(with_reducible refine(HAW.out _ HG1.out).mono ?_);rintro e w1 ⟨rfl,g⟩;have HG2:=Lib.hid (HG1.out.trans g);have hbx:=(Blk.new w [.slice cp cs.length cc,.slice gp gs.length gc,.slice sp ss.length sc,.slice op os.length oc,.slice hp hs.length hc,.slice tp ts.length tc] 28).grew g;have q0:w1.cell? ⟨w.heap.size,0,none⟩=some (.slice cp cs.length cc):=hbx.cell 0;have q1:w1.cell? ⟨w.heap.size,1,none⟩=some (.slice gp gs.length gc):=hbx.cell 1;have q2:w1.cell? ⟨w.heap.size,2,none⟩=some (.slice sp ss.length sc):=hbx.cell 2;have q3:w1.cell? ⟨w.heap.size,3,none⟩=some (.slice op os.length oc):=hbx.cell 3;have q4:w1.cell? ⟨w.heap.size,4,none⟩=some (.slice hp hs.length hc):=hbx.cell 4;have q5:w1.cell? ⟨w.heap.size,5,none⟩=some (.slice tp ts.length tc):=hbx.cell 5;clear g hbx)
    | (go_at_call 12;(with_reducible refine(HSM.out _ HG2.out).mono ?_);rintro e w2 ⟨rfl,g⟩;have HG3:=Lib.hid (HG2.out.trans g);clear g))
   go_ret
   exact⟨rfl,HG3.out⟩
 | true =>
   go_enter Tryz.func3,Tryz.ntmps3
   go_upto_region 5 with (first
    | (go_at_call 11;(with_reducible refine(HAW.out _ HG1.out).mono ?_);rintro e w1 ⟨rfl,g⟩;have HG2:=Lib.hid (HG1.out.trans g);have HBX:=Lib.hid ((Blk.new w [.slice cp cs.length cc,.slice gp gs.length gc,.slice sp ss.length sc,.slice op os.length oc,.slice hp hs.length hc,.slice tp ts.length tc] 28).grew g);have q0:w1.cell? ⟨w.heap.size,0,none⟩=some (.slice cp cs.length cc):=HBX.out.cell 0;have q1:w1.cell? ⟨w.heap.size,1,none⟩=some (.slice gp gs.length gc):=HBX.out.cell 1;have q2:w1.cell? ⟨w.heap.size,2,none⟩=some (.slice sp ss.length sc):=HBX.out.cell 2;have q3:w1.cell? ⟨w.heap.size,3,none⟩=some (.slice op os.length oc):=HBX.out.cell 3;have q4:w1.cell? ⟨w.heap.size,4,none⟩=some (.slice hp hs.length hc):=HBX.out.cell 4;have q5:w1.cell? ⟨w.heap.size,5,none⟩=some (.slice tp ts.length tc):=HBX.out.cell 5;clear g)
    | (go_at_call 12;(with_reducible refine(HSM.out _ HG2.out).mono ?_);rintro e V ⟨rfl,g⟩;have HGV:=Lib.hid (HG2.out.trans g);have HBV:=Lib.hid (HBX.out.grew g);clear g))
   have hb1:=HBV.out
   generalize w.heap.size=T at hb1 ⊢
   have d0:Atv ⟨T,0,none⟩ (.slice cp cs.length cc) V.drew:=(hb1.grew (Grew.refl _).drw).atv 0 rfl
   have d1:Atv ⟨T,1,none⟩ (.slice gp gs.length gc) V.drew:=(hb1.grew (Grew.refl _).drw).atv 1 rfl
   have d2:Atv ⟨T,2,none⟩ (.slice sp ss.length sc) V.drew:=(hb1.grew (Grew.refl _).drw).atv 2 rfl
   have d3:Atv ⟨T,3,none⟩ (.slice op os.length oc) V.drew:=(hb1.grew (Grew.refl _).drw).atv 3 rfl
   have d4:Atv ⟨T,4,none⟩ (.slice hp hs.length hc) V.drew:=(hb1.grew (Grew.refl _).drw).atv 4 rfl
   have d5:Atv ⟨T,5,none⟩ (.slice tp ts.length tc) V.drew:=(hb1.grew (Grew.refl _).drw).atv 5 rfl
   clear hb1 HBV HBX HG2 HG1 HAW HSM q0 q1 q2 q3 q4 q5
   have HC1:=Lib.hid (HC1.out (by first | rfl | trivial))
   have HC2:=Lib.hid (HC2.out (by first | rfl | trivial))
   refine wp_posts [some 8,some 9,some 10,some 11,some 12,some 2] [Zf,Zf,Zt,Zf,Zf,Zf,Zf,Zf,Zt,Zt,Zt,Zt,Zt] [fun v _=>v=.agg #[.slice cp (cs.length) (cc),.slice gp (gs.length) (gc),.slice sp (ss.length) (sc),.slice op (os.length) (oc),.slice hp (hs.length) (hc),.slice tp (ts.length) (tc)],fun v _=>v=.string d,fun v _=>v=.agg #[.slice cp (cs.length) (cc),.slice gp (gs.length) (gc),.slice sp (ss.length) (sc),.slice op (os.length) (oc),.slice hp (hs.length) (hc),.slice tp (ts.length) (tc)],fun v _=>v=.string d,fun v _=>v=.bool (decide ((d)=(d))),fun v _=>v=.bool (decide ((d)=(d)))] (by kernel_rfl) (by kernel_rfl) rfl ?_ ⟨?_,?_,?_,?_,?_,?_,trivial⟩ ?_
   ·exact⟨Zi,Zi,Zi,Zi,Zi,Zi,trivial⟩
   ·intro u w hR hd;exact rn_ld_28 (ev rfl) (d0.kept hR) (d1.kept hR) (d2.kept hR) (d3.kept hR) (d4.kept hR) (d5.kept hR) Zr
   ·intro u w hR hd;exact runs_c1 en_l7 (ev (hd.1 rfl)) (callp (fun _ e=>e) (HC1.out _ (HGV.out.trans ((Grew.refl _).drw.trans hR))))
   ·intro u w hR hd;exact rn_ld_28 (ev rfl) (d0.kept hR) (d1.kept hR) (d2.kept hR) (d3.kept hR) (d4.kept hR) (d5.kept hR) Zr
   ·intro u w hR hd;exact runs_c1 en_l8 (ev (hd.1 rfl)) (callp (fun _ e=>e) (HC2.out _ (HGV.out.trans ((Grew.refl _).drw.trans hR))))
   ·intro u w hR hd;exact rn_eqs_9 (ev (hd.1 rfl)) (ev (hd.2.1 rfl)) Zr
   ·intro u w hR hd;exact runs_mva (ev (hd.1 rfl)) Zr
   ·intro u w4 hR hh_
    have he:u 2=.bool (decide ((d)=(d))):=hh_ 5 (by decide)
    have HZ:(decide ((d)=(d)))=true:=decide_eq_true rfl
    rw [HZ] at he
    simp only [mixA,mixL,zz9,zz0,he]
    have HG4:Hid (Grew w w4):=Lib.hid (HGV.out.trans ((Grew.refl V).drw.trans hR))
    clear hh_ he hR HGV HZ
    go_wp2
    go_ret
    exact⟨rfl,HG4.out⟩
end Go.Proofs.YtcknpcbkofgdoaaGreatDoor
