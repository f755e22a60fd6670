/-
  LAYER 14 (diag), plainly: where the lines begin.
-/
import Derived.Test.YtmnncildkomagaaDoorDiPlain2
namespace Go.Proofs.YtmnncildkomagaaDoor
set_option linter.unusedSimpArgs false
set_option linter.unusedVariables false

/-- The starts of lines up to an offset. -/
def sts (xs : List UInt8) : Nat → List Nat
  | 0 => [0]
  | p + 1 => if xs[p]? = some 10 then sts xs p ++ [p + 1] else sts xs p
theorem sts_lf {xs : List UInt8} {p : Nat} (h : xs[p]? = some 10) : sts xs (p + 1) = sts xs p ++ [p + 1] := by simp [sts, h]
theorem sts_no {xs : List UInt8} {p : Nat} (h : xs[p]? ≠ some 10) : sts xs (p + 1) = sts xs p := by simp [sts, h]
theorem sts_len (xs : List UInt8) : ∀ p, (sts xs p).length = lin xs p
  | 0 => rfl
  | p + 1 => by
    by_cases h : xs[p]? = some 10
    · rw [sts_lf h, lin_lf h, List.length_append, sts_len xs p]
      rfl
    · rw [sts_no h, lin_no h, sts_len xs p]
theorem sts_le (xs : List UInt8) : ∀ p x, x ∈ sts xs p → x ≤ p
  | 0, x, h => by simp [sts] at h; omega
  | p + 1, x, h => by
    by_cases hc : xs[p]? = some 10
    · rw [sts_lf hc] at h
      rcases List.mem_append.1 h with h | h
      · exact Nat.le_succ_of_le (sts_le xs p x h)
      · rw [List.mem_singleton.1 h]
        exact Nat.le_refl _
    · rw [sts_no hc] at h
      exact Nat.le_succ_of_le (sts_le xs p x h)
theorem sts_asc (xs : List UInt8) : ∀ p, (sts xs p).Pairwise (· ≤ ·)
  | 0 => List.pairwise_singleton _ _
  | p + 1 => by
    by_cases hc : xs[p]? = some 10
    · rw [sts_lf hc]
      refine List.pairwise_append.2 ⟨sts_asc xs p, List.pairwise_singleton _ _, fun a ha b hb => ?_⟩
      rw [List.mem_singleton.1 hb]
      exact Nat.le_succ_of_le (sts_le xs p a ha)
    · rw [sts_no hc]
      exact sts_asc xs p
theorem sts_last (xs : List UInt8) : ∀ p, (sts xs p)[lin xs p - 1]? = some (lst xs p)
  | 0 => rfl
  | p + 1 => by
    by_cases hc : xs[p]? = some 10
    · rw [sts_lf hc, lin_lf hc, lst_lf hc, show lin xs p + 1 - 1 = (sts xs p).length by rw [sts_len]; omega]
      simp
    · rw [sts_no hc, lin_no hc, lst_no hc]
      exact sts_last xs p
theorem sts_pre (xs : List UInt8) {p q : Nat} (h : p ≤ q) : ∃ r, sts xs q = sts xs p ++ r ∧ ∀ x ∈ r, p < x := by
  induction h with
  | refl => exact ⟨[], by simp, fun x hx => by simp at hx⟩
  | @step m hm ih =>
    obtain ⟨r, h1, h2⟩ := ih
    by_cases hc : xs[m]? = some 10
    · refine ⟨r ++ [m + 1], ?_, fun x hx => ?_⟩
      · show sts xs (m + 1) = _
        rw [sts_lf hc, h1, List.append_assoc]
      · rcases List.mem_append.1 hx with hx | hx
        · exact h2 x hx
        · rw [List.mem_singleton.1 hx]
          exact Nat.lt_succ_of_le hm
    · exact ⟨r, (sts_no hc).trans h1, h2⟩
theorem sts_same {xs : List UInt8} {p : Nat} : ∀ {q : Nat}, p ≤ q → (∀ j, p ≤ j → j < q → xs[j]? ≠ some 10) → sts xs q = sts xs p := by
  intro q h
  induction h with
  | refl => exact fun _ => rfl
  | @step m hm ih =>
    intro hn
    have := hn m hm (Nat.lt_succ_self m)
    exact (sts_no this).trans (ih fun j hj hj' => hn j hj (Nat.lt_succ_of_lt hj'))
/-- As numbers of the library. -/
def stz (xs : List UInt8) (n : Nat) : List Int := (sts xs n).map fun z : Nat => (z : Int)
theorem stz_len (xs : List UInt8) (n : Nat) : (stz xs n).length = lin xs n := by unfold stz; rw [List.length_map, sts_len]
theorem stz_asc (xs : List UInt8) (n : Nat) : (stz xs n).Pairwise (· ≤ ·) := by
  unfold stz
  exact List.pairwise_map.2 ((sts_asc xs n).imp fun h => by omega)
theorem stz_count {xs : List UInt8} {p n : Nat} (h : p ≤ n) : (stz xs n).countP (· < (p : Int) + 1) = lin xs p := by
  obtain ⟨r, h1, h2⟩ := sts_pre xs h
  unfold stz
  rw [List.countP_map, h1, List.countP_append, List.countP_eq_length.2 (fun x hx => by have := sts_le xs p x hx; simp; omega), List.countP_eq_zero.2 (fun x hx => by have := h2 x hx; simp; omega), sts_len]
  rfl
theorem sts_at {xs : List UInt8} {p n : Nat} (h : p ≤ n) : (sts xs n)[lin xs p - 1]? = some (lst xs p) := by
  obtain ⟨r, h1, h2⟩ := sts_pre xs h
  have := lin_pos xs p
  rw [h1, List.getElem?_append_left (by rw [sts_len]; omega)]
  exact sts_last xs p
theorem sts_idx {xs : List UInt8} {p n : Nat} (h : p ≤ n) : lin xs p - 1 < (sts xs n).length := (List.getElem?_eq_some_iff.1 (sts_at h)).1
theorem fline_len {xs : List UInt8} {p : Nat} (hp : p ≤ 100000) (t : List UInt8) (h1 : (Lib.itoa (lin xs p)).length ≤ 20) (h2 : (Lib.itoa (col xs p)).length ≤ 20) : (fline xs p t).length ≤ t.length + 50 := by
  unfold fline
  simp only [List.length_append, List.length_cons, List.length_nil]
  omega
end Go.Proofs.YtmnncildkomagaaDoor
