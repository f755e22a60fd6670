/-
  LAYER 7 (nvm), plainly: writes of several bytes, without a limit, armed, metered.
-/
import Derived.Test.YtmfahmbebpojpaaNvPlain
import Derived.Test.YtmfahmbebpojpaaNvWrite2
namespace Go.Proofs.Ytmfahmbebpojpaa
open Go Go.RowKit Go.IntWalk
set_option linter.unusedSimpArgs false

/-- The bytes xs laid over B from place a on. -/
def over (B : List UInt8) (a : Nat) (xs : List UInt8) : List UInt8 := B.take a ++ xs ++ B.drop (a + xs.length)
theorem over_nil (B : List UInt8) (a : Nat) : over B a [] = B := by simp [over]
theorem over_set (B : List UInt8) (a : Nat) (x : UInt8) (xs : List UInt8) (h : a < B.length) : over (B.set a x) (a + 1) xs = over B a (x :: xs) := by
  unfold over
  have h1 : (B.set a x).take (a + 1) = B.take a ++ [x] := by
    rw [List.take_add_one]
    simp [List.take_set_of_le, h]
  have h2 : (B.set a x).drop (a + 1 + xs.length) = B.drop (a + (x :: xs).length) := by
    rw [List.drop_set_of_lt (by omega)]
    congr 1
    simp
    omega
  rw [h1, h2]
  simp
theorem over_len (B : List UInt8) (a : Nat) (xs : List UInt8) (h : a + xs.length ≤ B.length) : (over B a xs).length = B.length := by
  simp [over]
  omega
theorem over_drop (B : List UInt8) (a : Nat) (xs : List UInt8) (h : a + xs.length ≤ B.length) : (over B a xs).drop a = xs ++ B.drop (a + xs.length) := by
  unfold over
  rw [List.append_assoc, List.drop_append_of_le_length (by simp; omega), List.drop_of_length_le (by simp; omega)]
  simp
theorem over_read (B : List UInt8) (a : Nat) (xs : List UInt8) (h : a + xs.length ≤ B.length) : ((over B a xs).drop a).take xs.length = xs := by
  rw [over_drop B a xs h, List.take_left']
  rfl
theorem over_rest (B : List UInt8) (a : Nat) (xs : List UInt8) (h : a + xs.length ≤ B.length) : (over B a xs).drop (a + xs.length) = B.drop (a + xs.length) := by
  rw [← List.drop_drop, over_drop B a xs h, List.drop_left']
  rfl
theorem over_over (B : List UInt8) (a : Nat) (xs ys : List UInt8) (h : a + ys.length ≤ B.length) (hx : xs.length ≤ ys.length) : over (over B a xs) a ys = over B a ys := by
  have h1 := over_drop B a xs (by omega)
  have h2 : (over B a xs).take a = B.take a := by
    unfold over
    rw [List.append_assoc, List.take_append_of_le_length (by simp; omega), List.take_take, Nat.min_self]
  have h3 : (over B a xs).drop (a + ys.length) = B.drop (a + ys.length) := by
    rw [← List.drop_drop, h1, List.drop_append, List.drop_of_length_le (by omega), List.drop_drop]
    simp only [List.nil_append]
    congr 1
    omega
  unfold over at h2 h3 ⊢
  rw [h2, h3]

theorem wr1_ok (s : NV) (a : Int) (x : UInt8) (ho : s.off = false) (ha : 0 ≤ a) (hb : a + 1 ≤ s.B.length) (hl : s.left ≠ 0) (hp : s.mt.pays = true) :
    wr1 s a x = ({ s with B := s.B.set a.toNat x, left := if 0 < s.left then wrap64 (s.left - 1) else s.left, mt := s.mt.spent, wr := wrap64 (s.wr + 1) }, true) := by
  have hv : validB s.B.length a 1 = true := validB_iff.2 ⟨ha, by omega, by omega⟩
  simp [wr1, ho, hv, hl, hp]
/-- Without a limit. -/
theorem wrL_free (xs : List UInt8) : ∀ (s : NV) (a : Nat), s.off = false → s.left < 0 → s.mt = .no → a + xs.length ≤ s.B.length → 0 ≤ s.wr → s.wr + xs.length ≤ 9223372036854775807 →
    wrL s a xs = ({ s with B := over s.B a xs, wr := s.wr + xs.length }, true) := by
  induction xs with
  | nil =>
    intro s a ho hl hm hb h0 h1
    simp [wrL, over_nil]
  | cons x xs ih =>
    intro s a ho hl hm hb h0 h1
    simp only [List.length_cons] at hb h1
    have e := wr1_ok s a x ho (by omega) (by omega) (by omega) (by rw [hm]; rfl)
    have hw : wrap64 (s.wr + 1) = s.wr + 1 := wrap64_in _ (by omega)
    rw [if_neg (by omega), hw] at e
    simp only [wrL, e, if_true]
    have := ih { s with B := s.B.set (a : Int).toNat x, left := s.left, mt := s.mt.spent, wr := s.wr + 1 } (a + 1) ho hl (by simp [hm, Mt.spent]) (by simp; omega) (by simp; omega) (by simp; omega)
    rw [Int.natCast_add, Int.natCast_one] at this
    rw [this]
    simp only [Int.toNat_natCast, over_set s.B a x xs (by omega), hm, Mt.spent, List.length_cons]
    congr 2
    omega
theorem wrs_free (s : NV) (a : Nat) (xs : List UInt8) (ho : s.off = false) (hl : s.left < 0) (hm : s.mt = .no) (hb : a + xs.length ≤ s.B.length) (h0 : 0 ≤ s.wr) (h1 : s.wr + xs.length ≤ 9223372036854775807) :
    wrs s a xs = ({ s with B := over s.B a xs, wr := s.wr + xs.length }, true) := by
  have hv : validB s.B.length a xs.length = true := validB_iff.2 ⟨by omega, by omega, by omega⟩
  simp [wrs, hv, wrL_free xs s a ho hl hm hb h0 h1, ho]
/-- Armed: the power fails behind k bytes. -/
theorem wrL_armed (xs : List UInt8) : ∀ (s : NV) (a k : Nat), s.off = false → s.left = k → k < xs.length → s.mt = .no → a + xs.length ≤ s.B.length → xs.length ≤ 65536 → 0 ≤ s.wr → s.wr + k ≤ 9223372036854775807 →
    wrL s a xs = ({ s with B := over s.B a (xs.take k), off := true, left := 0, wr := s.wr + k }, false) := by
  induction xs with
  | nil =>
    intro s a k ho hl hk
    simp at hk
  | cons x xs ih =>
    intro s a k ho hl hk hm hb hx h0 h1
    simp only [List.length_cons] at hb hk hx
    cases k with
    | zero =>
      have hv : validB s.B.length a 1 = true := validB_iff.2 ⟨by omega, by omega, by omega⟩
      have hl' : s.left = 0 := hl
      have e : wr1 s a x = ({ s with off := true }, false) := by simp [wr1, ho, hv, hl']
      simp [wrL, e, over_nil, hl']
    | succ k =>
      have e := wr1_ok s a x ho (by omega) (by omega) (by omega) (by rw [hm]; rfl)
      have hw : wrap64 (s.wr + 1) = s.wr + 1 := wrap64_in _ (by omega)
      have hw2 : wrap64 (s.left - 1) = (k : Int) := by rw [wrap64_in _ (by omega)]; omega
      rw [if_pos (by omega), hw, hw2] at e
      simp only [wrL, e, if_true]
      have := ih { s with B := s.B.set (a : Int).toNat x, left := k, mt := s.mt.spent, wr := s.wr + 1 } (a + 1) k ho rfl (by omega) (by simp [hm, Mt.spent]) (by simp; omega) (by omega) (by simp; omega) (by simp; omega)
      rw [Int.natCast_add, Int.natCast_one] at this
      rw [this]
      simp only [Int.toNat_natCast, List.take_succ_cons, over_set s.B a x (xs.take k) (by omega), hm, Mt.spent]
      congr 2
      omega
/-- Metered by a count: c calls have been made, k writes are allowed. -/
theorem wrL_up (xs : List UInt8) : ∀ (s : NV) (a c k b kb : Nat), s.off = false → s.left < 0 → s.mt = .up b kb c k → a + xs.length ≤ s.B.length → xs.length ≤ 65536 → c ≤ k → k ≤ 65536 → s.wr = c →
    wrL s a xs = (if c + xs.length ≤ k then ({ s with B := over s.B a xs, mt := .up b kb ((c + xs.length : Nat) : Int) k, wr := ((c + xs.length : Nat) : Int) }, true)
      else ({ s with B := over s.B a (xs.take (k - c)), off := true, mt := .up b kb ((k + 1 : Nat) : Int) k, wr := (k : Int) }, false)) := by
  induction xs with
  | nil =>
    intro s a c k b kb ho hl hm hb hx hc hk hw
    obtain ⟨B, off, left, mt, wr⟩ := s
    obtain rfl : mt = _ := hm
    obtain rfl : wr = _ := hw
    rw [if_pos (by simpa using hc)]
    simp [wrL, over_nil]
  | cons x xs ih =>
    intro s a c k b kb ho hl hm hb hx hc hk hw
    simp only [List.length_cons] at hb hx ⊢
    have hwc : wrap64 ((c : Int) + 1) = ((c + 1 : Nat) : Int) := by rw [wrap64_in _ (by omega)]; omega
    have hv : validB s.B.length a 1 = true := validB_iff.2 ⟨by omega, by omega, by omega⟩
    have hl' : s.left ≠ 0 := by omega
    by_cases hck : c < k
    · have hp : s.mt.pays = true := by rw [hm]; simp only [Mt.pays, hwc, decide_eq_true_eq]; omega
      have e := wr1_ok s a x ho (by omega) (by omega) hl' hp
      rw [if_neg (by omega), hm, hw, hwc] at e
      simp only [Mt.spent, hwc] at e
      simp only [wrL, e, if_true]
      have := ih { s with B := s.B.set (a : Int).toNat x, mt := .up b kb ((c + 1 : Nat) : Int) k, wr := ((c + 1 : Nat) : Int) } (a + 1) (c + 1) k b kb ho hl rfl (by simp; omega) (by omega) (by omega) hk rfl
      have e0 : ((a : Int) + 1) = ((a + 1 : Nat) : Int) := by omega
      rw [e0, this]
      have e1 : c + 1 + xs.length = c + (xs.length + 1) := by omega
      have e2 : k - c = (k - (c + 1)) + 1 := by omega
      simp only [e1, Int.toNat_natCast, e2, List.take_succ_cons, over_set s.B a x _ (show a < s.B.length by omega)]
    · obtain rfl : c = k := by omega
      have hp : s.mt.pays = false := by rw [hm]; simp only [Mt.pays, hwc, decide_eq_false_iff_not]; omega
      have e : wr1 s a x = ({ s with off := true, mt := s.mt.spent }, false) := by simp [wr1, ho, hv, hl', hp]
      rw [if_neg (by omega)]
      simp only [wrL, e, Bool.false_eq_true, if_false, Nat.sub_self, List.take_zero, over_nil, hm, Mt.spent, hwc, hw]
end Go.Proofs.Ytmfahmbebpojpaa
