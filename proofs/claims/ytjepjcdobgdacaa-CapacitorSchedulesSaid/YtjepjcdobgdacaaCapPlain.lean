/-
  PLAIN MATHEMATICS FOR LAYER 8 (capacitor): charges, waiting, schedules. Nothing of the program stands here.
-/
import Derived.WalkKit
namespace Go.Proofs.Ytjepjcdobgdacaa
open Go

/-- A pair: a step (power, ticks), or a period (energy, ticks off). -/
abbrev It := Int × Int
/-- A capacitor: capacity, on, off, charge, whether it runs. -/
structure Cp where
  c : Int
  o : Int
  f : Int
  q : Int
  r : Bool
/-- Whether a configuration is valid. -/
def okC (c o f : Int) : Bool := decide (0 ≤ f) && decide (f < o) && decide (o ≤ c) && decide (c ≤ 1073741824)
/-- Whether a power is valid. -/
def okP (p : Int) : Bool := decide (0 ≤ p) && decide (p ≤ 1048576)
/-- Whether a number of ticks is valid. -/
def okT (t : Int) : Bool := decide (0 ≤ t) && decide (t ≤ 1099511627776)
/-- The charge behind a harvest. -/
def hq (x : Cp) (p t : Int) : Int := min (x.q + p * t) x.c
def hr (x : Cp) (p t : Int) : Bool := x.r || decide (x.o ≤ hq x p t)
def hv (x : Cp) (p t : Int) : Cp := if okP p && okT t then ⟨x.c, x.o, x.f, hq x p t, hr x p t⟩ else x
def he (p t : Int) : Int := if okP p && okT t then 0 else 1
/-- The charge behind a draw. -/
def dq (x : Cp) (n : Int) : Int := max (x.q - n) 0
def dr (x : Cp) (n : Int) : Bool := decide (x.f < dq x n)
def dok (x : Cp) (n : Int) : Bool := x.r && decide (0 ≤ n)
def dw (x : Cp) (n : Int) : Cp := if dok x n then ⟨x.c, x.o, x.f, dq x n, dr x n⟩ else x
def db (x : Cp) (n : Int) : Bool := if dok x n then dr x n else false
/-- How long to wait. -/
def okW (p : Int) : Bool := decide (1 ≤ p) && decide (p ≤ 1048576)
def wt (x : Cp) (p : Int) : Int := if x.r then 0 else if okW p then (x.o - x.q + p - 1) / p else 0
def wb (x : Cp) (p : Int) : Bool := x.r || okW p
/-- What each capacitor keeps. -/
structure Inv (x : Cp) : Prop where
  f0 : 0 ≤ x.f
  fo : x.f < x.o
  oc : x.o ≤ x.c
  cm : x.c ≤ 1073741824
  q0 : 0 ≤ x.q
  qc : x.q ≤ x.c
  on : x.r = true → x.f < x.q
  no : x.r = false → x.q < x.o
theorem okC_iff {c o f : Int} : okC c o f = true ↔ 0 ≤ f ∧ f < o ∧ o ≤ c ∧ c ≤ 1073741824 := by simp [okC, and_assoc]
theorem okP_iff {p : Int} : okP p = true ↔ 0 ≤ p ∧ p ≤ 1048576 := by simp [okP]
theorem okT_iff {t : Int} : okT t = true ↔ 0 ≤ t ∧ t ≤ 1099511627776 := by simp [okT]
theorem okW_iff {p : Int} : okW p = true ↔ 1 ≤ p ∧ p ≤ 1048576 := by simp [okW]
/-- The new capacitor. -/
def cp0 (c o f : Int) : Cp := ⟨c, o, f, 0, false⟩
theorem inv0 {c o f : Int} (h : okC c o f = true) : Inv (cp0 c o f) := by
  obtain ⟨h1, h2, h3, h4⟩ := okC_iff.1 h
  exact ⟨h1, h2, h3, h4, Int.le_refl _, by show (0 : Int) ≤ c; omega, fun h => (by cases h), fun _ => by show (0 : Int) < o; omega⟩
theorem mul_bound {p t : Int} (h : okP p = true) (h' : okT t = true) : 0 ≤ p * t ∧ p * t ≤ 1152921504606846976 := by
  obtain ⟨h1, h2⟩ := okP_iff.1 h
  obtain ⟨h3, h4⟩ := okT_iff.1 h'
  refine ⟨Int.mul_nonneg h1 h3, ?_⟩
  calc p * t ≤ 1048576 * t := Int.mul_le_mul_of_nonneg_right h2 h3
    _ ≤ 1048576 * 1099511627776 := Int.mul_le_mul_of_nonneg_left h4 (by omega)
theorem Inv.hv {x : Cp} (h : Inv x) (p t : Int) : Inv (hv x p t) := by
  unfold Proofs.Ytjepjcdobgdacaa.hv
  split
  · rename_i hk
    simp only [Bool.and_eq_true] at hk
    obtain ⟨m0, _⟩ := mul_bound hk.1 hk.2
    obtain ⟨h1, h2, h3, h4, h5, h6, h7, h8⟩ := h
    refine ⟨h1, h2, h3, h4, ?_, ?_, ?_, ?_⟩
    · show 0 ≤ hq x p t
      unfold hq; omega
    · show hq x p t ≤ x.c
      unfold hq; omega
    · intro hr'
      show x.f < hq x p t
      have hr' : (x.r || decide (x.o ≤ hq x p t)) = true := hr'
      simp only [Bool.or_eq_true, decide_eq_true_eq] at hr'
      rcases hr' with hr' | hr'
      · have := h7 hr'
        unfold hq; omega
      · omega
    · intro hr'
      show hq x p t < x.o
      have hr' : (x.r || decide (x.o ≤ hq x p t)) = false := hr'
      simp only [Bool.or_eq_false_iff, decide_eq_false_iff_not] at hr'
      omega
  · exact h
theorem Inv.dw {x : Cp} (h : Inv x) (n : Int) : Inv (dw x n) := by
  unfold Proofs.Ytjepjcdobgdacaa.dw
  split
  · rename_i hk
    simp only [dok, Bool.and_eq_true, decide_eq_true_eq] at hk
    obtain ⟨h1, h2, h3, h4, h5, h6, h7, h8⟩ := h
    refine ⟨h1, h2, h3, h4, ?_, ?_, ?_, ?_⟩
    · show 0 ≤ dq x n
      unfold dq; omega
    · show dq x n ≤ x.c
      unfold dq; omega
    · intro hr'
      have hr' : decide (x.f < dq x n) = true := hr'
      simpa using hr'
    · intro hr'
      have hr' : decide (x.f < dq x n) = false := hr'
      simp only [decide_eq_false_iff_not] at hr'
      show dq x n < x.o
      omega
  · exact h
theorem hv_c (x : Cp) (p t : Int) : (hv x p t).c = x.c ∧ (hv x p t).o = x.o ∧ (hv x p t).f = x.f := by unfold hv; split <;> exact ⟨rfl, rfl, rfl⟩
theorem dw_c (x : Cp) (n : Int) : (dw x n).c = x.c ∧ (dw x n).o = x.o ∧ (dw x n).f = x.f := by unfold dw; split <;> exact ⟨rfl, rfl, rfl⟩
theorem db_r {x : Cp} {n : Int} (hn : 0 ≤ n) : db x n = (dw x n).r := by
  unfold db dw
  split
  · rfl
  · rename_i hk
    simp only [dok, hn, decide_true, Bool.and_true, Bool.not_eq_true] at hk
    exact hk.symm
theorem dw_no {x : Cp} {n : Int} (h : dok x n = false) : db x n = false ∧ dw x n = x := by simp [db, dw, h]
theorem dw_yes {x : Cp} {n : Int} (h : dok x n = true) : db x n = dr x n ∧ dw x n = ⟨x.c, x.o, x.f, dq x n, dr x n⟩ := by simp [db, dw, h]
theorem hv_no {x : Cp} {p t : Int} (h : (okP p && okT t) = false) : he p t = 1 ∧ hv x p t = x := by simp [he, hv, h]
theorem hv_yes {x : Cp} {p t : Int} (h : (okP p && okT t) = true) : he p t = 0 ∧ hv x p t = ⟨x.c, x.o, x.f, hq x p t, hr x p t⟩ := by simp [he, hv, h]
end Go.Proofs.Ytjepjcdobgdacaa
