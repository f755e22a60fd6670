/-
  PLAIN MATHEMATICS FOR LAYER 9 (remanence): a clock as three numbers and what each operation makes of it; what is measured. Nothing of the program stands here.
-/
import Derived.Test.YteeecehfbmeohaaIvPlain
namespace Go.Proofs.Yteeecehfbmeohaa
open Go

/-- A clock: the bounds of its time, its epoch. -/
structure Ck where
  lo : Int
  hi : Int
  ep : Int
/-- Invalid: 1, else 0. -/
def er (x y : Int) : Int := if va x y then 0 else 1
def offc (s : Ck) (x y : Int) : Ck := if va x y then ⟨cl (s.lo + x), cl (s.hi + y), s.ep⟩ else s
def satc (s : Ck) (x y : Int) : Ck := if va x y then ⟨cl (s.lo + x), cl (s.lo + x), s.ep + 1⟩ else s
theorem er_yes {x y : Int} (h : va x y = true) : er x y = 0 := by simp [er, h]
theorem er_no {x y : Int} (h : va x y = false) : er x y = 1 := by simp [er, h]
theorem offc_yes {s : Ck} {x y : Int} (h : va x y = true) : offc s x y = ⟨cl (s.lo + x), cl (s.hi + y), s.ep⟩ := by simp [offc, h]
theorem offc_no {s : Ck} {x y : Int} (h : va x y = false) : offc s x y = s := by simp [offc, h]
theorem satc_yes {s : Ck} {x y : Int} (h : va x y = true) : satc s x y = ⟨cl (s.lo + x), cl (s.lo + x), s.ep + 1⟩ := by simp [satc, h]
theorem satc_no {s : Ck} {x y : Int} (h : va x y = false) : satc s x y = s := by simp [satc, h]
theorem cl_cl (t : Int) : cl (cl t) = cl t := cl_in _ (cl_bd t)
theorem va_self {t : Int} : va t t = true ↔ (0 ≤ t ∧ t ≤ 1099511627776) := by rw [va_iff]; omega
theorem va_cl {a b : Int} (h : a ≤ b) : va (cl a) (cl b) = true := by rw [va_iff]; unfold cl; omega
/-- What holds of every clock: its time is valid, its epoch is none of the greatest. -/
structure Cg (s : Ck) (m : Int) : Prop where
  v : va s.lo s.hi = true
  e0 : 0 ≤ s.ep
  e1 : s.ep ≤ m
theorem Cg.off {s : Ck} {m : Int} (h : Cg s m) (x y : Int) : Cg (offc s x y) m := by
  cases hv : va x y
  · rw [offc_no hv]; exact h
  · rw [offc_yes hv]
    have a := va_iff.1 h.v
    have b := va_iff.1 hv
    exact ⟨va_cl (by omega), h.e0, h.e1⟩
theorem Cg.sat {s : Ck} {m : Int} (h : Cg s m) (x y : Int) : Cg (satc s x y) (m + 1) := by
  have := h.e0
  have := h.e1
  cases hv : va x y
  · rw [satc_no hv]; exact ⟨h.v, h.e0, by omega⟩
  · rw [satc_yes hv]
    exact ⟨va_cl (Int.le_refl _), by show 0 ≤ s.ep + 1; omega, by show s.ep + 1 ≤ m + 1; omega⟩
theorem Cg.up {s : Ck} {m n : Int} (h : Cg s m) (hm : m ≤ n) : Cg s n := ⟨h.v, h.e0, by have := h.e1; omega⟩

/-- A configuration is valid. -/
def okR (e s : Int) : Bool := decide (0 ≤ e ∧ e ≤ 500 ∧ 1 ≤ s ∧ s ≤ 1099511627776)
theorem okR_iff {e s : Int} : okR e s = true ↔ (0 ≤ e ∧ e ≤ 500 ∧ 1 ≤ s ∧ s ≤ 1099511627776) := by unfold okR; exact decide_eq_true_iff
/-- What is measured: the bounds, not saturated, the error. -/
def okM (e s t : Int) : Bool := okR e s && decide (0 ≤ t ∧ t ≤ 1099511627776)
def dev (e t : Int) : Int := (t * e).tdiv 1000
def mlo (e s t : Int) : Int := if okM e s t then (if s < t then s else cl (t - dev e t - 1)) else 0
def mhi (e s t : Int) : Int := if okM e s t then (if s < t then 1099511627776 else cl (t + dev e t + 1)) else 0
def mok (e s t : Int) : Bool := okM e s t && decide (t ≤ s)
def mer (e s t : Int) : Int := if okM e s t then 0 else 1
theorem okM_iff {e s t : Int} : okM e s t = true ↔ ((0 ≤ e ∧ e ≤ 500 ∧ 1 ≤ s ∧ s ≤ 1099511627776) ∧ 0 ≤ t ∧ t ≤ 1099511627776) := by
  unfold okM; rw [Bool.and_eq_true, okR_iff, decide_eq_true_iff]
theorem dev_bd {e t : Int} (he : 0 ≤ e ∧ e ≤ 500) (ht : 0 ≤ t ∧ t ≤ 1099511627776) : 0 ≤ t * e ∧ t * e ≤ 549755813888000 ∧ 0 ≤ dev e t ∧ 2 * dev e t ≤ t := by
  have h0 : 0 ≤ t * e := Int.mul_nonneg ht.1 he.1
  have h1 : t * e ≤ t * 500 := Int.mul_le_mul_of_nonneg_left he.2 ht.1
  refine ⟨h0, by omega, ?_⟩
  unfold dev
  rw [Int.tdiv_eq_ediv_of_nonneg h0]
  omega
end Go.Proofs.Yteeecehfbmeohaa
