/-
  THE STATEMENTS Saves, Restores OF LAYER 12 (cpu), WALKED.
-/
import Derived.Test.YtbhglpiiabpdjaaDoorCpuRest
namespace Go.Proofs.YtbhglpiiabpdjaaDoor
open Go Go.RowKit Go.IntWalk Go.WideShapes
set_option linter.unusedSimpArgs false
set_option linter.unusedVariables false
set_option maxRecDepth 8000
section
variable {dst : Option Tmp} {ty : TypeId} {pos : String} {after : Array Edge} {g : Option (Nat × Bool)} {a : Act} {w : World} {T : Value → World → Prop}
theorem rn_ld_61 {x : Operand} {S o : Nat} {v0 v1 : Value} (hx : a.eval x = .pointer (some ⟨S, o, none⟩)) (h0 : w.cell? ⟨S, o, none⟩ = some v0) (h1 : w.cell? ⟨S, o + 1, none⟩ = some v1) (h : T (.agg #[v0, v1]) w) : Runs Tryd.prog ⟨dst, .load 61 x, ty, pos, after, g⟩ a w T := by
  refine Runs.value (v := .agg #[v0, v1]) (w' := w) ?_ h
  simp only [execOp, hx]
  go_simp
theorem rn_eql_66 {o1 o2 : Operand} {b c : Int} (hx : a.eval o1 = .int .i64 b) (hy : a.eval o2 = .int .i64 c) (h : T (.bool (b == c)) w) : Runs Tryd.prog ⟨dst, .binOp .eql 66 o1 o2 66, ty, pos, after, g⟩ a w T := by
  refine Runs.value (v := .bool (b == c)) (w' := w) ?_ h
  simp only [execOp, hx, hy]
  go_simp
end
theorem en_aw : Enters Tryd.prog 10 := fun args w => by go_simp
theorem en_own : Enters Tryd.prog 13 := fun args w => by go_simp
theorem en_same : Enters Tryd.prog 16 := fun args w => by go_simp
theorem en_sav : Enters Tryd.prog 21 := fun args w => by go_simp
theorem en_rsv : Enters Tryd.prog 22 := fun args w => by go_simp
theorem en_rsm : Enters Tryd.prog 20 := fun args w => by go_simp
theorem en_rst : Enters Tryd.prog 23 := fun args w => by go_simp
theorem en_rrs : Enters Tryd.prog 24 := fun args w => by go_simp
set_option maxHeartbeats 4000000 in
theorem saves_law (s : St) (hs : s.Ok) (st : Int) (lp : Option Addr) (lc : Nat) (live : List Int) (w : World) (h : RdL 1 iv w lp lc live) (he : EnvN w.heap.size w) :
    Calls Tryd.prog 7 #[.agg (stv s).toArray, .agg #[.int .i64 st, .slice lp live.length lc]] w fun e w' => e = .returned (.bool true) ∧ Grew w w' := by
  have HS := Lib.hid hs
  have HX := Lib.hid h
  have HE := Lib.hid he
  obtain ⟨M, hM⟩ : ∃ M, M = w.heap.size := ⟨_, rfl⟩
  rw [← hM] at HE
  have HM := Lib.hid (Nat.le_of_eq hM)
  clear hs h he hM
  go_enter Tryd.func7, Tryd.ntmps7
  go_upto_region 0 with fail
  refine wp_region_list ?_
  refine wpList_box_whole rfl _ _ rfl (stv s) rfl fun w1 hB1 g1 => ?_
  simp only [List.getElem_toArray, List.getElem_cons_zero, List.getElem_cons_succ, Act.put, mixA, mixL, cond_true, cond_false, List.setIfInBounds_toArray, List.set_cons_zero, List.set_cons_succ]
  refine wpList_box_whole rfl _ _ rfl [.int .i64 st, .slice lp live.length lc] rfl fun V bx g2 => ?_
  simp only [List.getElem_toArray, List.getElem_cons_zero, List.getElem_cons_succ, Act.put, mixA, mixL, cond_true, cond_false, List.setIfInBounds_toArray, List.set_cons_zero, List.set_cons_succ]
  have HG := Lib.hid (g1.trans g2)
  have HSB := Lib.hid (hB1.grew g2)
  generalize w1.heap.size = X at bx ⊢
  generalize w.heap.size = B at HSB ⊢
  clear g1 g2 hB1
  have x0 := bx.cell 0
  have x1 := bx.cell 1
  simp only [List.getElem?_cons_zero, List.getElem?_cons_succ] at x0 x1
  have HEV := Lib.hid (HE.out.grew HG.out)
  by_cases hll : live.length ≤ 100
  case neg =>
    have hb : (100 : Int) < (live.length : Int) := by omega
    go_wp2_with (go_at_call 10; (with_reducible refine (awake_any M _ HEV.out (Nat.le_trans HM.out HG.out.sz)).mono ?_); rintro e w3 ⟨rfl, g3⟩; clear x0 x1; replace bx := bx.grew g3; have x0 := bx.cell 0; have x1 := bx.cell 1; simp only [List.getElem?_cons_zero, List.getElem?_cons_succ] at x0 x1; replace HSB := Lib.hid (HSB.out.grew g3); replace HG := Lib.hid (HG.out.trans g3); clear g3 HEV)
    go_ret
    exact ⟨rfl, HG.out⟩
  have hb : ¬ (100 : Int) < (live.length : Int) := by omega
  go_upto_region 5 with (go_at_call 10; (with_reducible refine (awake_any M _ HEV.out (Nat.le_trans HM.out HG.out.sz)).mono ?_); rintro e w3 ⟨rfl, g3⟩; clear x0 x1; replace bx := bx.grew g3; have x0 := bx.cell 0; have x1 := bx.cell 1; simp only [List.getElem?_cons_zero, List.getElem?_cons_succ] at x0 x1; replace HSB := Lib.hid (HSB.out.grew g3); replace HG := Lib.hid (HG.out.trans g3); clear g3 HEV)
  refine wp_region_list ?_
  refine load_st Tryd.underlying33 sizeS rfl (.tmp 2) rfl B rfl s HS.out HSB.out ?_
  simp only [List.getElem_toArray, List.getElem_cons_zero, List.getElem_cons_succ, Act.put, mixA, mixL, cond_true, cond_false, List.setIfInBounds_toArray, List.set_cons_zero, List.set_cons_succ]
  refine wpList_runs rfl (some 13) rfl (runs_c1 en_own (ev rfl) ((own_any s HS.out _).mono ?_))
  rintro e w4 ⟨rfl, g4⟩
  refine ⟨_, rfl, ?_⟩
  simp only [List.getElem_toArray, List.getElem_cons_zero, List.getElem_cons_succ, Act.put, mixA, mixL, cond_true, cond_false, List.setIfInBounds_toArray, List.set_cons_zero, List.set_cons_succ]
  refine alloc_cpu rfl rfl fun w5 hC5 g5 => ?_
  simp only [List.getElem_toArray, List.getElem_cons_zero, List.getElem_cons_succ, Act.put, mixA, mixL, cond_true, cond_false, List.setIfInBounds_toArray, List.set_cons_zero, List.set_cons_succ]
  refine store_st sizeC rfl (.tmp 5) (.tmp 13) rfl w4.heap.size rfl s zst HS.out zst_ok rfl hC5 fun w6 hC6 c6 => ?_
  simp only [List.getElem_toArray, List.getElem_cons_zero, List.getElem_cons_succ, Act.put, mixA, mixL, cond_true, cond_false, List.setIfInBounds_toArray, List.set_cons_zero, List.set_cons_succ]
  have g6 : Grew w3 w6 := g4.trans (grew_lift g5 c6 fun k hk => by have e : k = w4.heap.size := hk; omega)
  clear x0 x1
  replace bx := bx.grew g6
  have x0 := bx.cell 0
  have x1 := bx.cell 1
  simp only [List.getElem?_cons_zero, List.getElem?_cons_succ] at x0 x1
  replace HSB := Lib.hid (HSB.out.grew g6)
  have HCL : Hid (w.heap.size ≤ w4.heap.size) := Lib.hid (HG.out.trans g4).sz
  replace HG := Lib.hid (HG.out.trans g6)
  have HC := Lib.hid hC6
  generalize w4.heap.size = C at HC HCL hC5 c6 ⊢
  clear g4 hC5 g5 hC6 c6 g6
  go_upto_region 6 with fail
  have HXD := (HX.out.kept HG.out).kept (Grew.refl w6).drw
  have HSD := HSB.out.grew (Grew.refl w6).drw
  have HCD := HC.out.grew (Grew.refl w6).drw
  have x0 : Atv ⟨X, 0, none⟩ (.int .i64 st) w6.drew := (bx.grew (Grew.refl _).drw).atv 0 rfl
  have x1 : Atv ⟨X, 1, none⟩ (.slice lp live.length lc) w6.drew := (bx.grew (Grew.refl _).drw).atv 1 rfl
  refine wp_posts [some 14, some 15, some 16, some 17, some 18, some 19, some 20, some 21, some 22, some 23, some 24, some 4] [false, false, false, false, true, false, false, false, false, false, false, false, false, false, true, true, true, true, true, true, true, true, true, true, true] [fun v _ => v = .agg #[.int .i64 (st), .slice lp live.length lc], fun v w => ∃ p cc, v = .slice p (saves s live).length cc ∧ RdL 1 h16 w p cc (saves s live), fun v _ => v = .agg (stv s).toArray, fun v _ => v = .agg #[.int .i64 (st), .slice lp live.length lc], fun v w => ∃ p cc, v = .slice p (saves s live).length cc ∧ RdL 1 h16 w p cc (saves s live), fun v _ => v = .bool true, fun v _ => v = .bool (true), fun v _ => v = .agg (stv s).toArray, fun v _ => v = .agg (stv s).toArray, fun v _ => v = .bool true, fun v _ => v = .bool (true), fun v _ => v = .bool (true)] (by kernel_rfl) (by kernel_rfl) rfl ?_ ⟨?_, ?_, ?_, ?_, ?_, ?_, ?_, ?_, ?_, ?_, ?_, ?_, trivial⟩ ?_
  · exact ⟨fun _ _ _ _ h => h, fun _ _ _ hg ⟨p, cc, h1, h2⟩ => ⟨p, cc, h1, h2.kept hg⟩, fun _ _ _ _ h => h, fun _ _ _ _ h => h, fun _ _ _ hg ⟨p, cc, h1, h2⟩ => ⟨p, cc, h1, h2.kept hg⟩, fun _ _ _ _ h => h, fun _ _ _ _ h => h, fun _ _ _ _ h => h, fun _ _ _ _ h => h, fun _ _ _ _ h => h, fun _ _ _ _ h => h, fun _ _ _ _ h => h, trivial⟩
  · intro u w hR hd; exact rn_ld_61 (ev rfl) (x0.kept hR) (x1.kept hR) ⟨Grew.refl _, rfl⟩
  · intro u w hR hd; exact runs_c2 en_sav (ev rfl) (ev (hd.1 rfl)) ((save_any C s HS.out st lp lc live hll _ (HCD.grew hR) (HXD.kept hR)).mono fun e w9 ⟨p, cc, h1, h2, h3⟩ => ⟨_, h1, h3, p, cc, rfl, h2⟩)
  · intro u w hR hd; exact runs_ldm 33 (ev rfl) ((HSD.grew hR).range) Tryd.underlying33 rfl (by rw [sizeS, stv_len HS.out]) ⟨Grew.refl _, rfl⟩
  · intro u w hR hd; exact rn_ld_61 (ev rfl) (x0.kept hR) (x1.kept hR) ⟨Grew.refl _, rfl⟩
  · intro u w hR hd; exact runs_c2 en_rsv (ev (hd.1 rfl)) (ev (hd.2.1 rfl)) ((rsave_any s HS.out st lp lc live hll _ (HXD.kept hR)).mono fun e w9 ⟨p, cc, h1, h2, h3⟩ => ⟨_, h1, h3, p, cc, rfl, h2⟩)
  · intro u w hR hd; exact (by obtain ⟨p, cc, hv, hr⟩ := (hd.1 rfl); obtain ⟨q, cd, hv2, hr2⟩ := (hd.2.1 rfl); exact runs_c2 en_rsm (ev hv) (ev hv2) (callp (fun _ e => e) (rsame_self p q cc cd _ _ hr hr2)))
  · intro u w hR hd; exact runs_mv (ev (hd.1 rfl)) ⟨Grew.refl _, rfl⟩
  · intro u w hR hd; exact ⟨fun _ => runs_ldm 43 (ev rfl) ((HCD.grew hR).range) Tryd.underlying43 rfl (by rw [sizeC, stv_len HS.out]) ⟨Grew.refl _, rfl⟩, fun hn => absurd (hd.1 rfl) hn⟩
  · intro u w hR hd; exact ⟨fun _ => runs_ldm 33 (ev rfl) ((HSD.grew hR).range) Tryd.underlying33 rfl (by rw [sizeS, stv_len HS.out]) ⟨Grew.refl _, rfl⟩, fun hn => absurd (hd.1 rfl) hn⟩
  · intro u w hR hd; exact ⟨fun _ => runs_c2 en_same (ev (hd.1 rfl)) (ev (hd.2.1 rfl)) (callp (fun _ e => e) (same_self s HS.out _)), fun hn => absurd (hd.2.2.1 rfl) hn⟩
  · intro u w hR hd; exact runs_an (ev (hd.1 rfl)) (fun hb => ev ((hd.2.1 rfl))) ⟨Grew.refl _, rfl⟩
  · intro u w hR hd; exact runs_mva (ev (hd.1 rfl)) ⟨Grew.refl _, rfl⟩
  · intro u w7 hR h
    have he : u 4 = .bool true := h 11 (by decide)
    simp only [mixA, mixL, cond_true, cond_false]
    rw [he]
    have HG7 := Lib.hid ((HG.out.drw).trans hR)
    clear h he x0 x1 HXD HSD HCD
    go_wp2
    go_ret
    exact ⟨rfl, HG7.out⟩
set_option maxHeartbeats 4000000 in
theorem restores_law (s : St) (hs : s.Ok) (st : Int) (lp : Option Addr) (lc : Nat) (live : List Int) (vp : Option Addr) (vc : Nat) (vals : List Int) (hav : All16 vals) (w : World) (h : RdL 1 iv w lp lc live) (hv : RdL 1 h16 w vp vc vals) (he : EnvN w.heap.size w) :
    Calls Tryd.prog 8 #[.agg (stv s).toArray, .agg #[.int .i64 st, .slice lp live.length lc], .slice vp vals.length vc] w fun e w' => e = .returned (.bool true) ∧ Grew w w' := by
  have HS := Lib.hid hs
  have HX := Lib.hid h
  have HVL := Lib.hid hv
  have HAV := Lib.hid hav
  have HE := Lib.hid he
  obtain ⟨M, hM⟩ : ∃ M, M = w.heap.size := ⟨_, rfl⟩
  rw [← hM] at HE
  have HM := Lib.hid (Nat.le_of_eq hM)
  clear hs h hv hav he hM
  go_enter Tryd.func8, Tryd.ntmps8
  go_upto_region 0 with fail
  refine wp_region_list ?_
  refine wpList_box_whole rfl _ _ rfl (stv s) rfl fun w1 hB1 g1 => ?_
  simp only [List.getElem_toArray, List.getElem_cons_zero, List.getElem_cons_succ, Act.put, mixA, mixL, cond_true, cond_false, List.setIfInBounds_toArray, List.set_cons_zero, List.set_cons_succ]
  refine wpList_box_whole rfl _ _ rfl [.int .i64 st, .slice lp live.length lc] rfl fun V bx g2 => ?_
  simp only [List.getElem_toArray, List.getElem_cons_zero, List.getElem_cons_succ, Act.put, mixA, mixL, cond_true, cond_false, List.setIfInBounds_toArray, List.set_cons_zero, List.set_cons_succ]
  have HG := Lib.hid (g1.trans g2)
  have HSB := Lib.hid (hB1.grew g2)
  generalize w1.heap.size = X at bx ⊢
  generalize w.heap.size = B at HSB ⊢
  clear g1 g2 hB1
  have x0 := bx.cell 0
  have x1 := bx.cell 1
  simp only [List.getElem?_cons_zero, List.getElem?_cons_succ] at x0 x1
  have HEV := Lib.hid (HE.out.grew HG.out)
  by_cases hll : live.length ≤ 100
  case neg =>
    have hb : (100 : Int) < (live.length : Int) := by omega
    go_wp2_with (go_at_call 10; (with_reducible refine (awake_any M _ HEV.out (Nat.le_trans HM.out HG.out.sz)).mono ?_); rintro e w3 ⟨rfl, g3⟩; clear x0 x1; replace bx := bx.grew g3; have x0 := bx.cell 0; have x1 := bx.cell 1; simp only [List.getElem?_cons_zero, List.getElem?_cons_succ] at x0 x1; replace HSB := Lib.hid (HSB.out.grew g3); replace HG := Lib.hid (HG.out.trans g3); clear g3 HEV)
    go_ret
    exact ⟨rfl, HG.out⟩
  have hb : ¬ (100 : Int) < (live.length : Int) := by omega
  by_cases hlv : vals.length ≤ 100
  case neg =>
    have hb2 : (100 : Int) < (vals.length : Int) := by omega
    go_wp2_with (go_at_call 10; (with_reducible refine (awake_any M _ HEV.out (Nat.le_trans HM.out HG.out.sz)).mono ?_); rintro e w3 ⟨rfl, g3⟩; clear x0 x1; replace bx := bx.grew g3; have x0 := bx.cell 0; have x1 := bx.cell 1; simp only [List.getElem?_cons_zero, List.getElem?_cons_succ] at x0 x1; replace HSB := Lib.hid (HSB.out.grew g3); replace HG := Lib.hid (HG.out.trans g3); clear g3 HEV)
    go_ret
    exact ⟨rfl, HG.out⟩
  have hb2 : ¬ (100 : Int) < (vals.length : Int) := by omega
  go_upto_region 5 with (go_at_call 10; (with_reducible refine (awake_any M _ HEV.out (Nat.le_trans HM.out HG.out.sz)).mono ?_); rintro e w3 ⟨rfl, g3⟩; clear x0 x1; replace bx := bx.grew g3; have x0 := bx.cell 0; have x1 := bx.cell 1; simp only [List.getElem?_cons_zero, List.getElem?_cons_succ] at x0 x1; replace HSB := Lib.hid (HSB.out.grew g3); replace HG := Lib.hid (HG.out.trans g3); clear g3 HEV)
  refine wp_region_list ?_
  refine load_st Tryd.underlying33 sizeS rfl (.tmp 3) rfl B rfl s HS.out HSB.out ?_
  simp only [List.getElem_toArray, List.getElem_cons_zero, List.getElem_cons_succ, Act.put, mixA, mixL, cond_true, cond_false, List.setIfInBounds_toArray, List.set_cons_zero, List.set_cons_succ]
  refine wpList_runs rfl (some 23) rfl (runs_c1 en_own (ev rfl) ((own_any s HS.out _).mono ?_))
  rintro e w4 ⟨rfl, g4⟩
  refine ⟨_, rfl, ?_⟩
  simp only [List.getElem_toArray, List.getElem_cons_zero, List.getElem_cons_succ, Act.put, mixA, mixL, cond_true, cond_false, List.setIfInBounds_toArray, List.set_cons_zero, List.set_cons_succ]
  refine alloc_cpu rfl rfl fun w5 hC5 g5 => ?_
  simp only [List.getElem_toArray, List.getElem_cons_zero, List.getElem_cons_succ, Act.put, mixA, mixL, cond_true, cond_false, List.setIfInBounds_toArray, List.set_cons_zero, List.set_cons_succ]
  refine store_st sizeC rfl (.tmp 7) (.tmp 23) rfl w4.heap.size rfl s zst HS.out zst_ok rfl hC5 fun w6 hC6 c6 => ?_
  simp only [List.getElem_toArray, List.getElem_cons_zero, List.getElem_cons_succ, Act.put, mixA, mixL, cond_true, cond_false, List.setIfInBounds_toArray, List.set_cons_zero, List.set_cons_succ]
  have g6 : Grew w3 w6 := g4.trans (grew_lift g5 c6 fun k hk => by have e : k = w4.heap.size := hk; omega)
  clear x0 x1
  replace bx := bx.grew g6
  have x0 := bx.cell 0
  have x1 := bx.cell 1
  simp only [List.getElem?_cons_zero, List.getElem?_cons_succ] at x0 x1
  replace HSB := Lib.hid (HSB.out.grew g6)
  have HCL : Hid (w.heap.size ≤ w4.heap.size) := Lib.hid (HG.out.trans g4).sz
  replace HG := Lib.hid (HG.out.trans g6)
  have HC := Lib.hid hC6
  generalize w4.heap.size = C at HC HCL hC5 c6 ⊢
  clear g4 hC5 g5 hC6 c6 g6
  have HXC : Hid (X ≠ C) := Lib.hid (bx.ne HC.out (by decide))
  have HBC : Hid (B ≠ C) := Lib.hid (HSB.out.ne HC.out (by decide))
  go_upto_region 7 with (go_at_call 23; (with_reducible refine (rest_any C s HS.out st lp lc live hll vp vc vals (by omega) HAV.out _ HC.out (HX.out.kept HG.out) (HVL.out.kept HG.out)).mono ?_); rintro e w8 ⟨rfl, hC8, c8⟩; clear x0 x1; have HBX := Lib.hid (bx.chg c8 (fun e => HXC.out e)); replace HSB := Lib.hid (HSB.out.chg c8 (fun e => HBC.out e)); replace HG := Lib.hid (grew_lift HG.out c8 (fun k hk => (by have e : k = C := hk; have := HCL.out; omega))); replace HC := Lib.hid hC8; clear bx; have bx := HBX.out; have x0 := bx.cell 0; have x1 := bx.cell 1; simp only [List.getElem?_cons_zero, List.getElem?_cons_succ] at x0 x1; clear hC8 c8)
  have HRO := Lib.hid (rest_ok HS.out st live HAV.out)
  refine wp_region_list ?_
  refine load_st Tryd.underlying33 sizeS rfl (.tmp 3) rfl B rfl s HS.out HSB.out ?_
  simp only [List.getElem_toArray, List.getElem_cons_zero, List.getElem_cons_succ, Act.put, mixA, mixL, cond_true, cond_false, List.setIfInBounds_toArray, List.set_cons_zero, List.set_cons_succ]
  refine wpList_runs rfl (some 29) rfl (rn_ld_61 (ev rfl) x0 x1 ?_)
  simp only [List.getElem_toArray, List.getElem_cons_zero, List.getElem_cons_succ, Act.put, mixA, mixL, cond_true, cond_false, List.setIfInBounds_toArray, List.set_cons_zero, List.set_cons_succ]
  refine wpList_runs rfl (some 30) rfl (runs_mv (ev rfl) ?_)
  simp only [List.getElem_toArray, List.getElem_cons_zero, List.getElem_cons_succ, Act.put, mixA, mixL, cond_true, cond_false, List.setIfInBounds_toArray, List.set_cons_zero, List.set_cons_succ]
  refine wpList_runs rfl (some 31) rfl (runs_c3 en_rrs (ev rfl) (ev rfl) (ev rfl) ((rrest_any s HS.out st lp lc live hll vp vc vals (by omega) HAV.out _ (HX.out.kept HG.out) (HVL.out.kept HG.out)).mono ?_))
  rintro e wa ⟨rfl, ga⟩
  refine ⟨_, rfl, ?_⟩
  simp only [List.getElem_toArray, List.getElem_cons_zero, List.getElem_cons_succ, Act.put, mixA, mixL, cond_true, cond_false, List.setIfInBounds_toArray, List.set_cons_zero, List.set_cons_succ]
  refine wpList_runs rfl (some 27) rfl (runs_mv (ev rfl) ?_)
  simp only [List.getElem_toArray, List.getElem_cons_zero, List.getElem_cons_succ, Act.put, mixA, mixL, cond_true, cond_false, List.setIfInBounds_toArray, List.set_cons_zero, List.set_cons_succ]
  refine wpList_runs rfl (some 32) rfl (rn_ext (ev rfl) rfl ?_)
  simp only [List.getElem_toArray, List.getElem_cons_zero, List.getElem_cons_succ, Act.put, mixA, mixL, cond_true, cond_false, List.setIfInBounds_toArray, List.set_cons_zero, List.set_cons_succ]
  refine wpList_runs rfl (some 33) rfl (rn_ext (ev rfl) rfl ?_)
  simp only [List.getElem_toArray, List.getElem_cons_zero, List.getElem_cons_succ, Act.put, mixA, mixL, cond_true, cond_false, List.setIfInBounds_toArray, List.set_cons_zero, List.set_cons_succ]
  refine alloc_st rfl rfl fun wb hDb gb => ?_
  simp only [List.getElem_toArray, List.getElem_cons_zero, List.getElem_cons_succ, Act.put, mixA, mixL, cond_true, cond_false, List.setIfInBounds_toArray, List.set_cons_zero, List.set_cons_succ]
  refine store_st sizeS rfl (.tmp 9) (.tmp 32) rfl wa.heap.size rfl (rest s st live vals).1 zst HRO.out zst_ok rfl hDb fun wc hDc cc => ?_
  simp only [List.getElem_toArray, List.getElem_cons_zero, List.getElem_cons_succ, Act.put, mixA, mixL, cond_true, cond_false, List.setIfInBounds_toArray, List.set_cons_zero, List.set_cons_succ]
  refine wpList_runs rfl (some 10) rfl (runs_mva (ev rfl) ?_)
  simp only [List.getElem_toArray, List.getElem_cons_zero, List.getElem_cons_succ, Act.put, mixA, mixL, cond_true, cond_false, List.setIfInBounds_toArray, List.set_cons_zero, List.set_cons_succ]
  have gc : Grew w8 wc := ga.trans (grew_lift gb cc fun k hk => by have e : k = wa.heap.size := hk; omega)
  have HD := Lib.hid hDc
  replace HC := Lib.hid (HC.out.grew gc)
  replace HG := Lib.hid (HG.out.trans gc)
  generalize wa.heap.size = D at HD hDb hDc cc ⊢
  clear x0 x1 bx HBX gc ga hDb gb hDc cc HXC HBC HSB
  go_upto_region 8 with fail
  refine wp_region_list ?_
  refine wpList_runs rfl (some 34) rfl (runs_mv (ev rfl) ?_)
  simp only [List.getElem_toArray, List.getElem_cons_zero, List.getElem_cons_succ, Act.put, mixA, mixL, cond_true, cond_false, List.setIfInBounds_toArray, List.set_cons_zero, List.set_cons_succ]
  refine wpList_runs rfl (some 35) rfl (runs_mv (ev rfl) ?_)
  simp only [List.getElem_toArray, List.getElem_cons_zero, List.getElem_cons_succ, Act.put, mixA, mixL, cond_true, cond_false, List.setIfInBounds_toArray, List.set_cons_zero, List.set_cons_succ]
  refine wpList_runs rfl (some 36) rfl (runs_to (v := .bool (((rest s st live vals).2) == ((rest s st live vals).2))) (u := .bool (true)) (rn_eql_66 (ev rfl) (ev rfl) ⟨rfl, rfl⟩) (congrArg Value.bool (by simp)) ?_)
  simp only [List.getElem_toArray, List.getElem_cons_zero, List.getElem_cons_succ, Act.put, mixA, mixL, cond_true, cond_false, List.setIfInBounds_toArray, List.set_cons_zero, List.set_cons_succ]
  refine wpList_runs rfl (some 37) rfl (runs_mv (ev rfl) ?_)
  simp only [List.getElem_toArray, List.getElem_cons_zero, List.getElem_cons_succ, Act.put, mixA, mixL, cond_true, cond_false, List.setIfInBounds_toArray, List.set_cons_zero, List.set_cons_succ]
  refine wpList_taken rfl (some 38) rfl (runs_ldm 43 (ev rfl) HC.out.range Tryd.underlying43 rfl (by rw [sizeC, stv_len HRO.out]) ?_)
  simp only [List.getElem_toArray, List.getElem_cons_zero, List.getElem_cons_succ, Act.put, mixA, mixL, cond_true, cond_false, List.setIfInBounds_toArray, List.set_cons_zero, List.set_cons_succ]
  refine wpList_taken rfl (some 39) rfl (runs_ldm 33 (ev rfl) HD.out.range Tryd.underlying33 rfl (by rw [sizeS, stv_len HRO.out]) ?_)
  simp only [List.getElem_toArray, List.getElem_cons_zero, List.getElem_cons_succ, Act.put, mixA, mixL, cond_true, cond_false, List.setIfInBounds_toArray, List.set_cons_zero, List.set_cons_succ]
  refine wpList_taken rfl (some 40) rfl (runs_c2 en_same (ev rfl) (ev rfl) ((same_self (rest s st live vals).1 HRO.out _).mono ?_))
  rintro e w9 ⟨rfl, g9⟩
  refine ⟨_, rfl, ?_⟩
  have HG9 := Lib.hid (HG.out.trans g9)
  simp only [List.getElem_toArray, List.getElem_cons_zero, List.getElem_cons_succ, Act.put, mixA, mixL, cond_true, cond_false, List.setIfInBounds_toArray, List.set_cons_zero, List.set_cons_succ]
  refine wpList_runs rfl (some 41) rfl (runs_an (ev rfl) (fun hb => ev (rfl)) ?_)
  simp only [List.getElem_toArray, List.getElem_cons_zero, List.getElem_cons_succ, Act.put, mixA, mixL, cond_true, cond_false, List.setIfInBounds_toArray, List.set_cons_zero, List.set_cons_succ]
  refine wpList_runs rfl (some 6) rfl (runs_mva (ev rfl) ?_)
  simp only [List.getElem_toArray, List.getElem_cons_zero, List.getElem_cons_succ, Act.put, mixA, mixL, cond_true, cond_false, List.setIfInBounds_toArray, List.set_cons_zero, List.set_cons_succ]
  go_wp2
  go_ret
  exact ⟨rfl, HG9.out⟩
end Go.Proofs.YtbhglpiiabpdjaaDoor
