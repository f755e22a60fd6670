/-
  CONTRACTS OF LAYER 9 (remanence), FIRST PART: measuring, ages; what a clock in memory is.
-/
import Derived.Test.YteeecehfbmeohaaIvWalks
import Derived.Test.YteeecehfbmeohaaRmPlain
import Derived.Test.YteeecehfbmeohaaBlk
import Derived.LoopTactic
import Derived.Deep.LoopGhost
namespace Go.Proofs.Yteeecehfbmeohaa
open Go.RowKit Go.IntWalk
set_option linter.unusedSimpArgs false
set_option maxRecDepth 8000

/-- A clock's cells. -/
abbrev ckc (s : Ck) : List Value := [.int .i64 s.lo, .int .i64 s.hi, .int .i64 s.ep]
abbrev ckv (s : Ck) : Value := .agg #[.int .i64 s.lo, .int .i64 s.hi, .int .i64 s.ep]
/-- Worlds that grow, through the steps of a walk. -/
theorem Grew.sc {a w : World} (h : Grew a w) {S : Nat} (hS : a.heap.size ≤ S) (k : Nat) (v : Value) : Grew a (w.setCell ⟨S, k, none⟩ v) := Below.setCell h (p := ⟨S, k, none⟩) hS _
theorem ret_mea {fn : Func} {p q r : Tmp} (h : fn.results = #[.cell p 25, .tmp q, .tmp r]) {tmps : Array Value} {w : World} {S : Nat} {x y c : Int} {b : Bool} {R : Ending → World → Prop} (hp : tmps.getD p undef = .pointer (some ⟨S, 0, none⟩)) (hq : tmps.getD q undef = .bool b) (hr : tmps.getD r undef = .int .i64 c)
    (hb : Box S x y w) (hR : R (.returned (.tuple #[iv x y, .bool b, .int .i64 c])) w) : bodyPost Try.prog fn R .ret { tmps := tmps, defers := [] } w := by
  obtain ⟨h0, h1⟩ := hb
  refine bodyPost_ret (v := .tuple #[iv x y, .bool b, .int .i64 c]) ?_ rfl hR
  rw [Array.getD_eq_getD_getElem?] at hp hq hr
  simp [results, h, hp, hq, hr, h0, h1, go_sem]
theorem cvalid_any (x y : Int) (w : World) :
    Calls Try.prog 25 #[iv x y] w fun e w' => e = .returned (.bool (okR x y)) ∧ w' = w.alloc (.cells #[.int .i64 x, .int .i64 y] 29) := by
  go_enter Try.func25, Try.ntmps25
  go_wp2
  all_goals go_ret
  all_goals exact ⟨ret_bool (by rw [Bool.eq_iff_iff, okR_iff]; simp; omega), rfl⟩
theorem measure_bad (x y t : Int) (w : World) (h : okM x y t = false) :
    Calls Try.prog 10 #[iv x y, .int .i64 t] w fun e w' => e = .returned (.tuple #[iv 0 0, .bool false, .int .i64 1]) ∧ Grew w w' := by
  cases h1 : okR x y with
  | false =>
    clear h
    go_enter Try.func10, Try.ntmps10
    go_wp2_with (go_at_call 25; (with_reducible refine (cvalid_any _ _ _).mono ?_); rintro e _ ⟨rfl, rfl⟩)
    refine bodyPost_ret (v := .tuple #[iv 0 0, .bool false, .int .i64 1]) (by simp [results, Try.results10, go_sem]) rfl ⟨rfl, ?_⟩
    repeat (first | with_reducible exact Grew.refl _ | with_reducible refine Grew.alloc ?_ _ | with_reducible refine Grew.drw ?_ | with_reducible refine Grew.drwN ?_ _ | refine Grew.sc ?_ (by simp; try omega) _ _)
  | true =>
    have ht : ¬ (0 ≤ t ∧ t ≤ 1099511627776) := fun hc => by rw [okM, h1, Bool.true_and, decide_eq_false_iff_not] at h; exact h hc
    clear h
    go_enter Try.func10, Try.ntmps10
    go_wp2_with (go_at_call 25; (with_reducible refine (cvalid_any _ _ _).mono ?_); rintro e _ ⟨rfl, rfl⟩)
    all_goals first | (exfalso; omega) | skip
    all_goals
      refine bodyPost_ret (v := .tuple #[iv 0 0, .bool false, .int .i64 1]) (by simp [results, Try.results10, go_sem]) rfl ⟨rfl, ?_⟩
      repeat (first | with_reducible exact Grew.refl _ | with_reducible refine Grew.alloc ?_ _ | with_reducible refine Grew.drw ?_ | with_reducible refine Grew.drwN ?_ _ | refine Grew.sc ?_ (by simp; try omega) _ _)
theorem measure_sat (x y t : Int) (w : World) (h : okM x y t = true) (hs : y < t) :
    Calls Try.prog 10 #[iv x y, .int .i64 t] w fun e w' => e = .returned (.tuple #[iv y 1099511627776, .bool false, .int .i64 0]) ∧ Grew w w' := by
  have h1 : okR x y = true := (Bool.and_eq_true_iff.1 h).1
  obtain ⟨-, t0, t1⟩ := okM_iff.1 h
  clear h
  go_enter Try.func10, Try.ntmps10
  go_wp2_with (go_at_call 25; (with_reducible refine (cvalid_any _ _ _).mono ?_); rintro e _ ⟨rfl, rfl⟩)
  refine bodyPost_ret (v := .tuple #[iv y 1099511627776, .bool false, .int .i64 0]) (by simp [results, Try.results10, go_sem]) rfl ⟨rfl, ?_⟩
  repeat (first | with_reducible exact Grew.refl _ | with_reducible refine Grew.alloc ?_ _ | with_reducible refine Grew.drw ?_ | with_reducible refine Grew.drwN ?_ _ | refine Grew.sc ?_ (by simp; try omega) _ _)
theorem measure_in (x y t : Int) (w : World) (h : okM x y t = true) (hs : t ≤ y) :
    Calls Try.prog 10 #[iv x y, .int .i64 t] w fun e w' => e = .returned (.tuple #[iv (cl (t - dev x t - 1)) (cl (t + dev x t + 1)), .bool true, .int .i64 0]) ∧ Grew w w' := by
  have h1 : okR x y = true := (Bool.and_eq_true_iff.1 h).1
  obtain ⟨⟨x0, x1, -⟩, t0, t1⟩ := okM_iff.1 h
  clear h
  obtain ⟨m0, m1, d0, d1⟩ := dev_bd ⟨x0, x1⟩ ⟨t0, t1⟩
  have hw : IntKind.i64.wrap (t * x) = t * x := i64_in _ (by omega)
  have hd : (t * x).tdiv 1000 = dev x t := rfl
  have e1 : max (t - dev x t - 1) 0 = cl (t - dev x t - 1) := by unfold cl; omega
  have e2 : min (t + dev x t + 1) 1099511627776 = cl (t + dev x t + 1) := by unfold cl; omega
  go_enter Try.func10, Try.ntmps10
  go_wp2_with (go_at_call 25; (with_reducible refine (cvalid_any _ _ _).mono ?_); rintro e _ ⟨rfl, rfl⟩)
  all_goals
    refine bodyPost_ret (v := .tuple #[iv (cl (t - dev x t - 1)) (cl (t + dev x t + 1)), .bool true, .int .i64 0]) (by simp [results, Try.results10, go_sem]; unfold cl; omega) rfl ⟨rfl, ?_⟩
    repeat (first | with_reducible exact Grew.refl _ | with_reducible refine Grew.alloc ?_ _ | with_reducible refine Grew.drw ?_ | with_reducible refine Grew.drwN ?_ _ | refine Grew.sc ?_ (by simp; try omega) _ _)
end Go.Proofs.Yteeecehfbmeohaa
