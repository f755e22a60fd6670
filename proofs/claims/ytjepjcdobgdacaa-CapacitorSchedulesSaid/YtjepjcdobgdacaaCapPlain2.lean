/-
  PLAIN MATHEMATICS FOR LAYER 8 (capacitor), on: waiting for the start, what is guaranteed behind it. Nothing of the program stands here.
-/
import Derived.Test.YtjepjcdobgdacaaCapPlain
namespace Go.Proofs.Ytjepjcdobgdacaa
open Go

theorem he_ok {p t : Int} (h : okP p = true) (h' : okT t = true) : he p t = 0 := (hv_yes (x := cp0 0 0 0) (by rw [h, h']; rfl)).1
theorem okP_of_okW {p : Int} (h : okW p = true) : okP p = true := by
  have := okW_iff.1 h
  exact okP_iff.2 (by omega)
theorem wait_key {x : Cp} (h : Inv x) (hr : x.r = false) {p : Int} (hp : okW p = true) :
    1 ≤ wt x p ∧ wt x p ≤ 1073741824 ∧ x.o ≤ x.q + p * wt x p ∧ x.q + p * (wt x p - 1) < x.o := by
  obtain ⟨k1, k2⟩ := okW_iff.1 hp
  have e : wt x p = (x.o - x.q + p - 1) / p := by simp [wt, hr, hp]
  have hq := h.no hr
  have h0 := h.q0
  have hc := h.oc
  have hm := h.cm
  generalize hm' : x.o - x.q = m at e
  obtain ⟨d, hd⟩ : ∃ d, d = (m + p - 1) / p := ⟨_, rfl⟩
  rw [← hd] at e
  rw [e]
  have h1 := Int.emod_add_mul_ediv (m + p - 1) p
  have h2 := Int.emod_nonneg (m + p - 1) (show p ≠ 0 by omega)
  have h3 := Int.emod_lt_of_pos (m + p - 1) (show 0 < p by omega)
  rw [← hd] at h1
  have h4 : p * (d - 1) = p * d - p := by rw [Int.mul_sub, Int.mul_one]
  have hd1 : 1 ≤ d := by
    rcases Int.lt_or_le d 1 with hlt | hle
    · have : p * d ≤ p * 0 := Int.mul_le_mul_of_nonneg_left (by omega) (by omega)
      omega
    · exact hle
  have hd2 : d ≤ 1073741824 := by
    have : 1 * (d - 1) ≤ p * (d - 1) := Int.mul_le_mul_of_nonneg_right k1 (by omega)
    omega
  refine ⟨hd1, hd2, ?_, ?_⟩ <;> omega
theorem wait_runs {x : Cp} (h : Inv x) (hr : x.r = false) {p : Int} (hp : okW p = true) : (hv x p (wt x p)).r = true ∧ x.o ≤ (hv x p (wt x p)).q := by
  obtain ⟨k1, k2, k3, _⟩ := wait_key h hr hp
  have hk : (okP p && okT (wt x p)) = true := by rw [okP_of_okW hp, okT_iff.2 (by omega)]; rfl
  rw [(hv_yes hk).2]
  have hc := h.oc
  have e : x.o ≤ hq x p (wt x p) := by unfold hq; omega
  exact ⟨by simp [Proofs.Ytjepjcdobgdacaa.hr, e], e⟩
theorem wait_not {x : Cp} (h : Inv x) (hr : x.r = false) {p : Int} (hp : okW p = true) : (hv x p (wt x p - 1)).r = false := by
  obtain ⟨k1, k2, _, k3⟩ := wait_key h hr hp
  have hk : (okP p && okT (wt x p - 1)) = true := by rw [okP_of_okW hp, okT_iff.2 (by omega)]; rfl
  rw [(hv_yes hk).2]
  have e : hq x p (wt x p - 1) < x.o := by unfold hq; omega
  have e' : ¬ x.o ≤ hq x p (wt x p - 1) := by omega
  simp [Proofs.Ytjepjcdobgdacaa.hr, hr, e']
theorem draw_keep {x : Cp} {left d : Int} (hr : x.r = true) (hf : 0 ≤ x.f) (hq : x.f + 1 + left ≤ x.q) (h0 : 0 ≤ d) (h1 : d ≤ left) : db x d = true ∧ (dw x d).r = true ∧ x.f + 1 + (left - d) ≤ (dw x d).q := by
  have hk : dok x d = true := by simp [dok, hr, h0]
  obtain ⟨e1, e2⟩ := dw_yes hk
  have e3 : dq x d = x.q - d := by unfold dq; omega
  have e4 : dr x d = true := by unfold dr; rw [e3]; simp; omega
  rw [e1, e2]
  refine ⟨e4, e4, ?_⟩
  show _ ≤ dq x d
  omega
end Go.Proofs.Ytjepjcdobgdacaa
