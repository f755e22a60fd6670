/-
  LAYER 6 (deadlinequeue): the statements' Optimal.
-/
import Derived.Test.YtjcoghjkjnhljaaDqLaw2
import Derived.Test.YtjcoghjkjnhljaaDqEx
namespace Go.Proofs.Ytjcoghjkjnhljaa
open Go Go.RowKit Go.IntWalk Go.Sort
set_option maxRecDepth 8000
set_option linter.unusedSimpArgs false

/-- What a law has of its jobs: their durations, what Feasible answers, and the reference's list. -/
structure JobsOk (w : World) (p : Option Addr) (c : Nat) (xs : List It) (q : Option Addr) (d : Nat) (ds : List Int) : Prop where
  rd : RdI w p c xs
  rdd : Rd (Value.int .i64) w q d ds
  ok : itOk xs
  okd : ∀ v ∈ ds, In64 v
theorem JobsOk.dur {w : World} {p q : Option Addr} {c d : Nat} {xs : List It} {ds : List Int} (h : JobsOk w p c xs q d ds) (hn : xs.length ≤ 1000) (W : World) (hW : Grew w W) :
    Calls Try.prog 24 #[.agg #[.slice p xs.length c, .slice q ds.length d]] W fun e w' => ∃ b, e = .returned (.map (some b)) ∧ Dur w' b (durG xs ds) ∧ Grew W w' :=
  durations_any p xs.length c xs q ds.length d ds W rfl rfl hn (h.rd.kept hW) (h.rdd.kept hW) h.ok h.okd
theorem feas_cases (g : Int → Int) (t : Int) (xs : List It) : (feas g t xs).2 = 1 ∨ (feas g t xs).2 = 0 ∨ ((feas g t xs).2 = 14 ∧ validB g t xs = true ∧ (late g t xs).isNone = false) := by
  cases hv : validB g t xs with
  | false => exact Or.inl (feas_inv.2 hv)
  | true =>
    cases hl : late g t (isort xs) with
    | none => exact Or.inr (Or.inl (feas_ok.2 ⟨hv, hl⟩))
    | some x =>
      refine Or.inr (Or.inr ⟨by simp [feas, hv, hl], rfl, ?_⟩)
      cases hx : late g t xs with
      | some y => rfl
      | none => exact absurd (feas_best hv hx) (by simp [feas, hv, hl])
set_option maxHeartbeats 4000000 in
theorem optimal_any (t : Int) (p : Option Addr) (n c : Nat) (xs : List It) (q : Option Addr) (m d : Nat) (ds : List Int) (w : World) (hl : xs.length = n) (hl2 : ds.length = m) (hJ : JobsOk w p c xs q d ds) :
    Calls Try.prog 7 #[.int .i64 t, .agg #[.slice p n c, .slice q m d]] w fun e w' => e = .returned (.bool true) ∧ Grew w w' := by
  subst hl hl2
  by_cases hn : xs.length ≤ 40
  · have HD := Lib.hid (hJ.dur (by omega))
    have HF : Hid (∀ b W, Grew w W → Dur W b (durG xs ds) → Calls Try.prog 23 #[.int .i64 t, .slice p xs.length c, .map (some b)] W fun e w' => e = .returned (.tuple #[.int .i64 (feas (durG xs ds) t xs).1, .int .i64 (feas (durG xs ds) t xs).2]) ∧ Grew W w') :=
      Lib.hid fun b W hW hb => feasible_any t p _ c b xs _ W rfl (by omega) (hJ.rd.kept hW) hJ.ok hb
    have HI : Hid (∀ W, Grew w W → Calls Try.prog 16 #[.slice p xs.length c] W fun e w' => ∃ p' c', e = .returned (.slice p' xs.length c') ∧ OwI w' W.heap.size 36 (.slice p' xs.length c') xs ∧ Grew W w') :=
      Lib.hid fun W hW => toref_any p _ c xs W rfl (by omega) (hJ.rd.kept hW)
    have HM : Hid (validB (durG xs ds) t xs = true → ∀ b p' c' W, RdI W p' c' xs → Dur W b (durG xs ds) → Calls Try.prog 26 #[.int .i64 t, .slice p' xs.length c', .map (some b)] W fun e w' => e = .returned (.bool (late (durG xs ds) t xs).isNone) ∧ Grew W w') :=
      Lib.hid fun hv b p' c' W hR hb => by
        obtain ⟨h1, _, h3⟩ := valid_iff.1 hv
        have h1' := isTm_iff.1 h1
        refine meets_any t p' _ c' b xs _ W rfl (by omega) hR hJ.ok hb ⟨by omega, h1'.2⟩ fun x hx => ?_
        have := h3 x hx
        simp only [okIt, Bool.and_eq_true] at this
        exact ⟨this.2, this.1⟩
    have hc := feas_cases (durG xs ds) t xs
    clear hJ
    generalize durG xs ds = g at HD HF HM hc
    generalize feas g t xs = r at HF hc
    obtain ⟨r1, r2⟩ := r
    simp only [] at HF hc
    generalize ds.length = m at HD ⊢
    rcases hc with rfl | rfl | ⟨rfl, hv, hla⟩
    · go_enter Try.func7, Try.ntmps7
      go_wp2_with (first
        | (go_at_call 24; (with_reducible refine (HD.out _ (Grew.alloc (Grew.refl w) _)).mono ?_); rintro e w1 ⟨b, rfl, hb, g1⟩; have B1 := Lib.hid hb; have G1 := Lib.hid ((Grew.alloc (Grew.refl w) _).trans g1); have z1 := (Cel.grew ⟨show (w.alloc (.cells #[.slice p xs.length c, .slice q m d] 50)).cell? ⟨w.heap.size, 0, none⟩ = some (.slice p xs.length c) by go_simp⟩ g1).c; have Z1 := Lib.hid z1; clear hb g1)
        | (go_at_call 23; (with_reducible refine (HF.out _ _ G1.out B1.out).mono ?_); rintro e w2 ⟨rfl, g2⟩; have G2 := Lib.hid (G1.out.trans g2); clear g2)
        | (go_at_call 11; (with_reducible refine (examples_any _).mono ?_); rintro e w3 ⟨rfl, g3⟩; have G3 := Lib.hid (G2.out.trans g3); clear g3))
      go_ret
      exact ⟨rfl, G3.out⟩
    · go_enter Try.func7, Try.ntmps7
      go_wp2_with (first
        | (go_at_call 24; (with_reducible refine (HD.out _ (Grew.alloc (Grew.refl w) _)).mono ?_); rintro e w1 ⟨b, rfl, hb, g1⟩; have B1 := Lib.hid hb; have G1 := Lib.hid ((Grew.alloc (Grew.refl w) _).trans g1); have z1 := (Cel.grew ⟨show (w.alloc (.cells #[.slice p xs.length c, .slice q m d] 50)).cell? ⟨w.heap.size, 0, none⟩ = some (.slice p xs.length c) by go_simp⟩ g1).c; have Z1 := Lib.hid z1; clear hb g1)
        | (go_at_call 23; (with_reducible refine (HF.out _ _ G1.out B1.out).mono ?_); rintro e w2 ⟨rfl, g2⟩; have G2 := Lib.hid (G1.out.trans g2); clear g2)
        | (go_at_call 11; (with_reducible refine (examples_any _).mono ?_); rintro e w3 ⟨rfl, g3⟩; have G3 := Lib.hid (G2.out.trans g3); clear g3))
      go_ret
      exact ⟨rfl, G3.out⟩
    · have Hla := Lib.hid hla
      have HM' := Lib.hid (HM.out hv)
      clear HM hv hla
      go_enter Try.func7, Try.ntmps7
      go_wp2_with (first
        | (go_at_call 24; (with_reducible refine (HD.out _ (Grew.alloc (Grew.refl w) _)).mono ?_); rintro e w1 ⟨b, rfl, hb, g1⟩; have B1 := Lib.hid hb; have G1 := Lib.hid ((Grew.alloc (Grew.refl w) _).trans g1); have z1 := (Cel.grew ⟨show (w.alloc (.cells #[.slice p xs.length c, .slice q m d] 50)).cell? ⟨w.heap.size, 0, none⟩ = some (.slice p xs.length c) by go_simp⟩ g1).c; have Z1 := Lib.hid z1; clear hb g1)
        | (go_at_call 23; (with_reducible refine (HF.out _ _ G1.out B1.out).mono ?_); rintro e w2 ⟨rfl, g2⟩; have B2 := Lib.hid (B1.out.grew g2); have G2 := Lib.hid (G1.out.trans g2); have z2 := (Cel.grew ⟨Z1.out⟩ g2).c; clear g2)
        | (go_at_call 16; (with_reducible refine (HI.out _ G2.out).mono ?_); rintro e w3 ⟨p', c', rfl, hI, g3⟩; have R3 := Lib.hid (OwI.rd hI).2; have B3 := Lib.hid (B2.out.grew g3); have G3 := Lib.hid (G2.out.trans g3); clear g3 hI)
        | (go_at_call 26; (with_reducible refine (HM'.out _ _ _ _ R3.out B3.out).mono ?_); rintro e w4 ⟨rfl, g4⟩; rw [Hla.out]; have G4 := Lib.hid (G3.out.trans g4); clear g4)
        | (go_at_call 11; (with_reducible refine (examples_any _).mono ?_); rintro e w5 ⟨rfl, g5⟩; have G5 := Lib.hid (G4.out.trans g5); clear g5))
      go_ret
      exact ⟨rfl, G5.out⟩
  · clear hJ
    have hn' : ((40 : Int) < (xs.length : Int)) := by omega
    generalize xs.length = n at hn' ⊢
    generalize ds.length = m
    clear hn
    go_enter Try.func7, Try.ntmps7
    go_wp2_with (go_at_call 11; (with_reducible refine (examples_any _).mono ?_); rintro e w5 ⟨rfl, g5⟩; have G5 := Lib.hid ((Grew.alloc (Grew.refl w) _).trans g5); clear g5)
    go_ret
    exact ⟨rfl, G5.out⟩
end Go.Proofs.Ytjcoghjkjnhljaa
