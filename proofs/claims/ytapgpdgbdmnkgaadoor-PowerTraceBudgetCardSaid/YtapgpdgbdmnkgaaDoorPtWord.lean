/-
  CONTRACTS OF LAYER 13 (powertrace): parsePeriod.
-/
import Derived.Test.YtapgpdgbdmnkgaaDoorPtText
namespace Go.Proofs.YtapgpdgbdmnkgaaDoor
open Go Go.RowKit Go.IntWalk
open Go.Lib (itoa)
set_option linter.unusedSimpArgs false
set_option linter.unusedVariables false
set_option maxRecDepth 8000

section
variable {dst : Option Tmp} {ty : TypeId} {pos : String} {after : Array Edge} {g : Option (Nat × Bool)} {a : Act} {w : World} {T : Value → World → Prop}
theorem rn_ret_c52_t {fn : Func} {p0 p1 : Tmp} (h : fn.results = #[.cell p0 52, .tmp p1]) {tmps : Array Value} {w : World} {S0 : Nat} {v0_0 v0_1 : Value} {v1 : Value} {R : Ending → World → Prop} (hp0 : tmps.getD p0 undef = .pointer (some ⟨S0, 0, none⟩)) (h0_0 : w.cell? ⟨S0, 0, none⟩ = some v0_0) (h0_1 : w.cell? ⟨S0, 1, none⟩ = some v0_1) (hp1 : tmps.getD p1 undef = v1) (hR : R (.returned (.tuple #[.agg #[v0_0, v0_1], v1])) w) : bodyPost Tryd.prog fn R .ret { tmps := tmps, defers := [] } w := by
  refine bodyPost_ret (v := .tuple #[.agg #[v0_0, v0_1], v1]) ?_ rfl hR
  rw [Array.getD_eq_getD_getElem?] at hp0 hp1
  simp [results, h, hp0, h0_0, h0_1, hp1, go_sem]
end
theorem word_parses {l c1 c2 : List UInt8} {b : Bool} {x : It} (hx : okP x = true) (e : l = wordT x) (hc : Lib.cut l [64] = (c1, c2, b)) : Lib.atoiAll c1 = .ok x.1 ∧ Lib.parseIntB 64 c2 = .ok x.2 := by
  subst e
  obtain ⟨h1, h2⟩ := okP_bd hx
  rcases cut_one (wordT x) 64 with ⟨hn, _⟩ | ⟨p, q, hpq, hp, hq⟩
  · exact absurd (by unfold wordT; simp) hn
  · rw [hq] at hc
    obtain ⟨rfl, rfl, _⟩ : p = c1 ∧ q = c2 ∧ true = b := by simpa using hc
    obtain ⟨e1, e2⟩ := split_one hpq (itoa_no64 _) hp
    rw [← e1, ← e2]
    exact ⟨atoi_itoa x.1 h1.1 (by omega), parse_itoa 64 (by decide) x.2 (by show -9223372036854775808 ≤ x.2; omega) (by show x.2 < 9223372036854775808; omega)⟩
/-- What a word gives: its period, or none. -/
def Word (l : List UInt8) (w : World) (e : Ending) (w' : World) : Prop := ∃ (c : It) (ok : Bool), e = .returned (.tuple #[itv c, .bool ok]) ∧ (ok = true → readW l = some c) ∧ (ok = false → readW l = none) ∧ Grew w w'
set_option maxHeartbeats 1000000 in
theorem pper_nn (l c1 c2 : List UInt8) (b : Bool) (hl : l.length ≤ 100000) (hc : Lib.cut l [64] = (c1, c2, b)) (l1 : c1.length ≤ 100000) (l2 : c2.length ≤ 100000) (h1 : ∀ v, Lib.atoiAll c1 ≠ .ok v) (h2 : ∀ v, Lib.parseIntB 64 c2 ≠ .ok v) (w : World) (he : Env w) :
    Calls Tryd.prog 38 #[.string ⟨l.toArray⟩] w (Word l w) := by
  have HC := Lib.hid (fun (W : World) (hE : Env W) => cut_any l [64] hl W hE)
  rw [hc] at HC
  obtain ⟨z1, P1⟩ := atoi_no c1 l1 h1
  replace P1 := Lib.hid P1
  obtain ⟨z2, P2⟩ := pint64_no c2 l2 h2
  replace P2 := Lib.hid P2
  have HN : Hid (readW l = none) := Lib.hid (readW_none.2 fun x hx e => by
    obtain ⟨q1, q2⟩ := word_parses hx e hc
    exact h1 _ q1)
  have HE := Lib.hid he
  clear he hc h1 h2
  go_enter Tryd.func38, Tryd.ntmps38
  go_wp2_with (first
    | (go_at_call 37; generalize hW : World.alloc _ _ = V; have hB : Blk w.heap.size (itc (0, 0)) 52 V := (by subst hW; exact Blk.new w _ _); have hg : Grew w V := (by subst hW; exact (Grew.refl _).alloc _); clear hW; (with_reducible refine (HC.out _ (HE.out.grew hg)).mono ?_); rintro e w1 ⟨rfl, g1⟩; have HB1 := Lib.hid (hB.grew g1); have HG1 := Lib.hid (hg.trans g1); clear hg g1 hB)
    | (go_at_call 47; (with_reducible refine (P1.out _ (HE.out.grew HG1.out)).mono ?_); rintro e w2 ⟨N2, rfl, g2⟩; have HB2 := Lib.hid (HB1.out.grew g2); have HG2 := Lib.hid (HG1.out.trans g2); clear g2)
    | (go_at_call 48; (with_reducible refine (P2.out _ (HE.out.grew HG2.out)).mono ?_); rintro e w3 ⟨N3, rfl, g3⟩; have HB3 := Lib.hid (HB2.out.grew g3); have HG3 := Lib.hid (HG2.out.trans g3); clear g3; have b0 := HB3.out.cell 0; have b1 := HB3.out.cell 1; have bf := HB3.out.free; have bl := HB3.out.lt; simp only [List.getElem?_cons_zero, List.getElem?_cons_succ] at b0 b1))
  refine rn_ret_c52_t Tryd.results38 (S0 := w.heap.size) (v0_0 := .int .i64 0) (v0_1 := .int .i64 0) (v1 := .bool false) rfl (by go_simp) (by go_simp) rfl ⟨(0, 0), false, rfl, (fun h => by cases h), fun _ => HN.out, ?_⟩
  exact (HG3.out.sc (Nat.le_refl _) _ _).sc (Nat.le_refl _) _ _
set_option maxHeartbeats 1000000 in
theorem pper_yn (l c1 c2 : List UInt8) (b : Bool) (hl : l.length ≤ 100000) (hc : Lib.cut l [64] = (c1, c2, b)) (l1 : c1.length ≤ 100000) (l2 : c2.length ≤ 100000) (e : Int) (h1 : Lib.atoiAll c1 = .ok e) (h2 : ∀ v, Lib.parseIntB 64 c2 ≠ .ok v) (w : World) (he : Env w) :
    Calls Tryd.prog 38 #[.string ⟨l.toArray⟩] w (Word l w) := by
  have HC := Lib.hid (fun (W : World) (hE : Env W) => cut_any l [64] hl W hE)
  rw [hc] at HC
  have P1 := Lib.hid (fun w => atoi_ok c1 l1 e h1 w)
  obtain ⟨z2, P2⟩ := pint64_no c2 l2 h2
  replace P2 := Lib.hid P2
  have HN : Hid (readW l = none) := Lib.hid (readW_none.2 fun x hx e => by
    obtain ⟨q1, q2⟩ := word_parses hx e hc
    exact h2 _ q2)
  have HE := Lib.hid he
  clear he hc h1 h2
  go_enter Tryd.func38, Tryd.ntmps38
  go_wp2_with (first
    | (go_at_call 37; generalize hW : World.alloc _ _ = V; have hB : Blk w.heap.size (itc (0, 0)) 52 V := (by subst hW; exact Blk.new w _ _); have hg : Grew w V := (by subst hW; exact (Grew.refl _).alloc _); clear hW; (with_reducible refine (HC.out _ (HE.out.grew hg)).mono ?_); rintro e w1 ⟨rfl, g1⟩; have HB1 := Lib.hid (hB.grew g1); have HG1 := Lib.hid (hg.trans g1); clear hg g1 hB)
    | (go_at_call 47; (with_reducible refine (P1.out _).mono ?_); rintro e w2 ⟨rfl, g2⟩; have HB2 := Lib.hid (HB1.out.grew g2); have HG2 := Lib.hid (HG1.out.trans g2); clear g2)
    | (go_at_call 48; (with_reducible refine (P2.out _ (HE.out.grew HG2.out)).mono ?_); rintro e w3 ⟨N3, rfl, g3⟩; have HB3 := Lib.hid (HB2.out.grew g3); have HG3 := Lib.hid (HG2.out.trans g3); clear g3; have b0 := HB3.out.cell 0; have b1 := HB3.out.cell 1; have bf := HB3.out.free; have bl := HB3.out.lt; simp only [List.getElem?_cons_zero, List.getElem?_cons_succ] at b0 b1))
  refine rn_ret_c52_t Tryd.results38 (S0 := w.heap.size) (v0_0 := .int .i64 0) (v0_1 := .int .i64 0) (v1 := .bool false) rfl (by go_simp) (by go_simp) rfl ⟨(0, 0), false, rfl, (fun h => by cases h), fun _ => HN.out, ?_⟩
  exact (HG3.out.sc (Nat.le_refl _) _ _).sc (Nat.le_refl _) _ _
set_option maxHeartbeats 1000000 in
theorem pper_ny (l c1 c2 : List UInt8) (b : Bool) (hl : l.length ≤ 100000) (hc : Lib.cut l [64] = (c1, c2, b)) (l1 : c1.length ≤ 100000) (l2 : c2.length ≤ 100000) (h1 : ∀ v, Lib.atoiAll c1 ≠ .ok v) (z : Int) (h2 : Lib.parseIntB 64 c2 = .ok z) (w : World) (he : Env w) :
    Calls Tryd.prog 38 #[.string ⟨l.toArray⟩] w (Word l w) := by
  have HC := Lib.hid (fun (W : World) (hE : Env W) => cut_any l [64] hl W hE)
  rw [hc] at HC
  obtain ⟨z1, P1⟩ := atoi_no c1 l1 h1
  replace P1 := Lib.hid P1
  have P2 := Lib.hid (fun w => pint64_ok c2 l2 z h2 w)
  have HN : Hid (readW l = none) := Lib.hid (readW_none.2 fun x hx e => by
    obtain ⟨q1, q2⟩ := word_parses hx e hc
    exact h1 _ q1)
  have HE := Lib.hid he
  clear he hc h1 h2
  go_enter Tryd.func38, Tryd.ntmps38
  go_wp2_with (first
    | (go_at_call 37; generalize hW : World.alloc _ _ = V; have hB : Blk w.heap.size (itc (0, 0)) 52 V := (by subst hW; exact Blk.new w _ _); have hg : Grew w V := (by subst hW; exact (Grew.refl _).alloc _); clear hW; (with_reducible refine (HC.out _ (HE.out.grew hg)).mono ?_); rintro e w1 ⟨rfl, g1⟩; have HB1 := Lib.hid (hB.grew g1); have HG1 := Lib.hid (hg.trans g1); clear hg g1 hB)
    | (go_at_call 47; (with_reducible refine (P1.out _ (HE.out.grew HG1.out)).mono ?_); rintro e w2 ⟨N2, rfl, g2⟩; have HB2 := Lib.hid (HB1.out.grew g2); have HG2 := Lib.hid (HG1.out.trans g2); clear g2)
    | (go_at_call 48; (with_reducible refine (P2.out _).mono ?_); rintro e w3 ⟨rfl, g3⟩; have HB3 := Lib.hid (HB2.out.grew g3); have HG3 := Lib.hid (HG2.out.trans g3); clear g3; have b0 := HB3.out.cell 0; have b1 := HB3.out.cell 1; have bf := HB3.out.free; have bl := HB3.out.lt; simp only [List.getElem?_cons_zero, List.getElem?_cons_succ] at b0 b1))
  refine rn_ret_c52_t Tryd.results38 (S0 := w.heap.size) (v0_0 := .int .i64 0) (v0_1 := .int .i64 0) (v1 := .bool false) rfl (by go_simp) (by go_simp) rfl ⟨(0, 0), false, rfl, (fun h => by cases h), fun _ => HN.out, ?_⟩
  exact (HG3.out.sc (Nat.le_refl _) _ _).sc (Nat.le_refl _) _ _
set_option maxHeartbeats 1000000 in
theorem pper_yy (l c1 c2 : List UInt8) (b : Bool) (hl : l.length ≤ 100000) (hc : Lib.cut l [64] = (c1, c2, b)) (l1 : c1.length ≤ 100000) (l2 : c2.length ≤ 100000) (e : Int) (h1 : Lib.atoiAll c1 = .ok e) (z : Int) (h2 : Lib.parseIntB 64 c2 = .ok z) (w : World) (he : Env w) :
    Calls Tryd.prog 38 #[.string ⟨l.toArray⟩] w (Word l w) := by
  have HC := Lib.hid (fun (W : World) (hE : Env W) => cut_any l [64] hl W hE)
  rw [hc] at HC
  have P1 := Lib.hid (fun w => atoi_ok c1 l1 e h1 w)
  have P2 := Lib.hid (fun w => pint64_ok c2 l2 z h2 w)
  have ht := Lib.atoiAll_bounds h1
  have hV := parsed_bd h2
  simp only [Nat.reducePow, Nat.reduceSub] at hV
  replace hV : -9223372036854775808 ≤ z ∧ z ≤ 9223372036854775807 := by omega
  have HL := Lib.hid (fun (x : It) (hx : okP x = true) (he : l = wordT x) => show x = (e, z) by
    obtain ⟨q1, q2⟩ := word_parses hx he hc
    rw [h1] at q1; rw [h2] at q2
    injection q1 with q1
    injection q2 with q2
    exact Prod.ext q1.symm q2.symm)
  have HE := Lib.hid he
  have HA := Lib.hid (fun W hE => appper_new (e, z) W ht hV hE)
  clear he hc h1 h2
  cases hok : okP (e, z) with
  | false =>
    have HV := Lib.hid (fun W => vperiod_any (e, z) W)
    rw [hok] at HV
    have HN : Hid (readW l = none) := Lib.hid (readW_none.2 fun x hx he => by
      rw [HL.out x hx he, hok] at hx
      cases hx)
    clear hok
    go_enter Tryd.func38, Tryd.ntmps38
    go_wp2_with (first
      | (go_at_call 37; generalize hW : World.alloc _ _ = V; have hB : Blk w.heap.size (itc (0, 0)) 52 V := (by subst hW; exact Blk.new w _ _); have hg : Grew w V := (by subst hW; exact (Grew.refl _).alloc _); clear hW; (with_reducible refine (HC.out _ (HE.out.grew hg)).mono ?_); rintro e w1 ⟨rfl, g1⟩; have HB1 := Lib.hid (hB.grew g1); have HG1 := Lib.hid (hg.trans g1); clear hg g1 hB)
      | (go_at_call 47; (with_reducible refine (P1.out _).mono ?_); rintro e w2 ⟨rfl, g2⟩; have HB2 := Lib.hid (HB1.out.grew g2); have HG2 := Lib.hid (HG1.out.trans g2); clear g2)
      | (go_at_call 48; (with_reducible refine (P2.out _).mono ?_); rintro e w3 ⟨rfl, g3⟩; have HB3 := Lib.hid (HB2.out.grew g3); have HG3 := Lib.hid (HG2.out.trans g3); clear g3; have b0 := HB3.out.cell 0; have b1 := HB3.out.cell 1; have bf := HB3.out.free; have bl := HB3.out.lt; simp only [List.getElem?_cons_zero, List.getElem?_cons_succ] at b0 b1)
      | (go_at_call 34; generalize hW : World.alloc _ _ = V; have hA : Blk w3.heap.size (itc (e, z)) 52 V := (by subst hW; exact Blk.new w3 _ _); have hg : Grew w3 V := (by subst hW; exact (Grew.refl _).alloc _); clear hW; (with_reducible refine (HV.out _).mono ?_); rintro e4 w4 ⟨rfl, g4⟩; have HB4 := Lib.hid ((HB3.out.grew hg).grew g4); have HA4 := Lib.hid (hA.grew g4); have HG4 := Lib.hid ((HG3.out.trans hg).trans g4); clear b0 b1 bf bl; have b0 := HB4.out.cell 0; have b1 := HB4.out.cell 1; have bf := HB4.out.free; have bl := HB4.out.lt; have a0 := HA4.out.cell 0; have a1 := HA4.out.cell 1; simp only [List.getElem?_cons_zero, List.getElem?_cons_succ] at b0 b1 a0 a1; clear hg g4 hA))
    refine rn_ret_c52_t Tryd.results38 (S0 := w.heap.size) (v0_0 := .int .i64 0) (v0_1 := .int .i64 0) (v1 := .bool false) rfl (by go_simp) (by go_simp) rfl ⟨(0, 0), false, rfl, (fun h => by cases h), fun _ => HN.out, ?_⟩
    exact (HG4.out.sc (Nat.le_refl _) _ _).sc (Nat.le_refl _) _ _
  | true =>
    have HV := Lib.hid (fun W => vperiod_any (e, z) W)
    rw [hok] at HV
    by_cases hw : l = wordT (e, z)
    · have HR : Hid (readW l = some (e, z)) := Lib.hid (readW_some.2 ⟨hok, hw⟩)
      have hcmp : (wordT (e, z) == l) = true := by rw [hw]; simp
      have hcm2 : (wordT (e, z) != l) = false := by rw [hw]; simp
      clear hok hw
      go_enter Tryd.func38, Tryd.ntmps38
      go_wp2_with (first
        | (go_at_call 37; generalize hW : World.alloc _ _ = V; have hB : Blk w.heap.size (itc (0, 0)) 52 V := (by subst hW; exact Blk.new w _ _); have hg : Grew w V := (by subst hW; exact (Grew.refl _).alloc _); clear hW; (with_reducible refine (HC.out _ (HE.out.grew hg)).mono ?_); rintro e w1 ⟨rfl, g1⟩; have HB1 := Lib.hid (hB.grew g1); have HG1 := Lib.hid (hg.trans g1); clear hg g1 hB)
        | (go_at_call 47; (with_reducible refine (P1.out _).mono ?_); rintro e w2 ⟨rfl, g2⟩; have HB2 := Lib.hid (HB1.out.grew g2); have HG2 := Lib.hid (HG1.out.trans g2); clear g2)
        | (go_at_call 48; (with_reducible refine (P2.out _).mono ?_); rintro e w3 ⟨rfl, g3⟩; have HB3 := Lib.hid (HB2.out.grew g3); have HG3 := Lib.hid (HG2.out.trans g3); clear g3; have b0 := HB3.out.cell 0; have b1 := HB3.out.cell 1; have bf := HB3.out.free; have bl := HB3.out.lt; simp only [List.getElem?_cons_zero, List.getElem?_cons_succ] at b0 b1)
        | (go_at_call 34; generalize hW : World.alloc _ _ = V; have hA : Blk w3.heap.size (itc (e, z)) 52 V := (by subst hW; exact Blk.new w3 _ _); have hg : Grew w3 V := (by subst hW; exact (Grew.refl _).alloc _); clear hW; (with_reducible refine (HV.out _).mono ?_); rintro e4 w4 ⟨rfl, g4⟩; have HB4 := Lib.hid ((HB3.out.grew hg).grew g4); have HA4 := Lib.hid (hA.grew g4); have HG4 := Lib.hid ((HG3.out.trans hg).trans g4); clear b0 b1 bf bl; have b0 := HB4.out.cell 0; have b1 := HB4.out.cell 1; have bf := HB4.out.free; have bl := HB4.out.lt; have a0 := HA4.out.cell 0; have a1 := HA4.out.cell 1; simp only [List.getElem?_cons_zero, List.getElem?_cons_succ] at b0 b1 a0 a1; clear hg g4 hA)
        | (go_at_call 33; (with_reducible refine (HA.out _ (HE.out.grew HG4.out)).mono ?_); rintro e5 w5 ⟨r5, j5, rfl, ho5, g5⟩; have HB5 := Lib.hid (HB4.out.grew g5); have HA5 := Lib.hid (HA4.out.grew g5); have HG5 := Lib.hid (HG4.out.trans g5); clear b0 b1 bf bl a0 a1; have b0 := HB5.out.cell 0; have b1 := HB5.out.cell 1; have bf := HB5.out.free; have bl := HB5.out.lt; have a0 := HA5.out.cell 0; have a1 := HA5.out.cell 1; simp only [List.getElem?_cons_zero, List.getElem?_cons_succ] at b0 b1 a0 a1; have hcv := (ho5.bin.2).convert (wordT (e, z)).length rfl 61 9 5 Tryd.underlying61 Tryd.underlying5 Tryd.underlying9; clear ho5 g5))
      refine rn_ret_c52_t Tryd.results38 (S0 := w.heap.size) (v0_0 := .int .i64 e) (v0_1 := .int .i64 z) (v1 := .bool true) rfl (by go_simp) (by go_simp) rfl ⟨(e, z), true, rfl, (fun _ => HR.out), (fun h => by cases h), ?_⟩
      exact (HG5.out.sc (Nat.le_refl _) _ _).sc (Nat.le_refl _) _ _
    · have HN : Hid (readW l = none) := Lib.hid (readW_none.2 fun x hx he => hw (by rw [he, HL.out x hx he]))
      have hcmp : (wordT (e, z) == l) = false := by rw [beq_eq_false_iff_ne]; exact fun h => hw h.symm
      have hcm2 : (wordT (e, z) != l) = true := by rw [bne_iff_ne]; exact fun h => hw h.symm
      clear hok hw
      go_enter Tryd.func38, Tryd.ntmps38
      go_wp2_with (first
        | (go_at_call 37; generalize hW : World.alloc _ _ = V; have hB : Blk w.heap.size (itc (0, 0)) 52 V := (by subst hW; exact Blk.new w _ _); have hg : Grew w V := (by subst hW; exact (Grew.refl _).alloc _); clear hW; (with_reducible refine (HC.out _ (HE.out.grew hg)).mono ?_); rintro e w1 ⟨rfl, g1⟩; have HB1 := Lib.hid (hB.grew g1); have HG1 := Lib.hid (hg.trans g1); clear hg g1 hB)
        | (go_at_call 47; (with_reducible refine (P1.out _).mono ?_); rintro e w2 ⟨rfl, g2⟩; have HB2 := Lib.hid (HB1.out.grew g2); have HG2 := Lib.hid (HG1.out.trans g2); clear g2)
        | (go_at_call 48; (with_reducible refine (P2.out _).mono ?_); rintro e w3 ⟨rfl, g3⟩; have HB3 := Lib.hid (HB2.out.grew g3); have HG3 := Lib.hid (HG2.out.trans g3); clear g3; have b0 := HB3.out.cell 0; have b1 := HB3.out.cell 1; have bf := HB3.out.free; have bl := HB3.out.lt; simp only [List.getElem?_cons_zero, List.getElem?_cons_succ] at b0 b1)
        | (go_at_call 34; generalize hW : World.alloc _ _ = V; have hA : Blk w3.heap.size (itc (e, z)) 52 V := (by subst hW; exact Blk.new w3 _ _); have hg : Grew w3 V := (by subst hW; exact (Grew.refl _).alloc _); clear hW; (with_reducible refine (HV.out _).mono ?_); rintro e4 w4 ⟨rfl, g4⟩; have HB4 := Lib.hid ((HB3.out.grew hg).grew g4); have HA4 := Lib.hid (hA.grew g4); have HG4 := Lib.hid ((HG3.out.trans hg).trans g4); clear b0 b1 bf bl; have b0 := HB4.out.cell 0; have b1 := HB4.out.cell 1; have bf := HB4.out.free; have bl := HB4.out.lt; have a0 := HA4.out.cell 0; have a1 := HA4.out.cell 1; simp only [List.getElem?_cons_zero, List.getElem?_cons_succ] at b0 b1 a0 a1; clear hg g4 hA)
        | (go_at_call 33; (with_reducible refine (HA.out _ (HE.out.grew HG4.out)).mono ?_); rintro e5 w5 ⟨r5, j5, rfl, ho5, g5⟩; have HB5 := Lib.hid (HB4.out.grew g5); have HA5 := Lib.hid (HA4.out.grew g5); have HG5 := Lib.hid (HG4.out.trans g5); clear b0 b1 bf bl a0 a1; have b0 := HB5.out.cell 0; have b1 := HB5.out.cell 1; have bf := HB5.out.free; have bl := HB5.out.lt; have a0 := HA5.out.cell 0; have a1 := HA5.out.cell 1; simp only [List.getElem?_cons_zero, List.getElem?_cons_succ] at b0 b1 a0 a1; have hcv := (ho5.bin.2).convert (wordT (e, z)).length rfl 61 9 5 Tryd.underlying61 Tryd.underlying5 Tryd.underlying9; clear ho5 g5))
      refine rn_ret_c52_t Tryd.results38 (S0 := w.heap.size) (v0_0 := .int .i64 0) (v0_1 := .int .i64 0) (v1 := .bool false) rfl (by go_simp) (by go_simp) rfl ⟨(0, 0), false, rfl, (fun h => by cases h), fun _ => HN.out, ?_⟩
      exact (HG5.out.sc (Nat.le_refl _) _ _).sc (Nat.le_refl _) _ _
theorem pper_any (l : List UInt8) (hl : l.length ≤ 100000) (w : World) (he : Env w) : Calls Tryd.prog 38 #[.string ⟨l.toArray⟩] w (Word l w) := by
  obtain ⟨c1, c2, b, hc, l1, l2⟩ : ∃ c1 c2 b, Lib.cut l [64] = (c1, c2, b) ∧ c1.length ≤ 100000 ∧ c2.length ≤ 100000 := by
    rcases cut_one l 64 with ⟨_, h⟩ | ⟨p, q, e, _, h⟩
    · exact ⟨l, [], false, h, hl, by simp⟩
    · refine ⟨p, q, true, h, ?_, ?_⟩ <;> (rw [e] at hl; simp at hl; omega)
  have hd : (∃ v, Lib.atoiAll c1 = .ok v) ∨ ∀ v, Lib.atoiAll c1 ≠ .ok v := by
    by_cases h : ∃ v, Lib.atoiAll c1 = .ok v
    · exact .inl h
    · exact .inr fun v hv => h ⟨v, hv⟩
  have hd2 : (∃ v, Lib.parseIntB 64 c2 = .ok v) ∨ ∀ v, Lib.parseIntB 64 c2 ≠ .ok v := by
    by_cases h : ∃ v, Lib.parseIntB 64 c2 = .ok v
    · exact .inl h
    · exact .inr fun v hv => h ⟨v, hv⟩
  rcases hd with ⟨x, h1⟩ | h1 <;> rcases hd2 with ⟨y, h2⟩ | h2
  · exact pper_yy l c1 c2 b hl hc l1 l2 x h1 y h2 w he
  · exact pper_yn l c1 c2 b hl hc l1 l2 x h1 h2 w he
  · exact pper_ny l c1 c2 b hl hc l1 l2 h1 y h2 w he
  · exact pper_nn l c1 c2 b hl hc l1 l2 h1 h2 w he
end Go.Proofs.YtapgpdgbdmnkgaaDoor
