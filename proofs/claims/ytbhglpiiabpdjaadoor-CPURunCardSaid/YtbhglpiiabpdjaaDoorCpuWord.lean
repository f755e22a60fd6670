/-
  LAYER 1 (word), what the processor asks of it: the arithmetic of words, by the program and by the reference.
-/
import Derived.Test.YtbhglpiiabpdjaaDoorCiBase
import Derived.Handy
namespace Go.Proofs.YtbhglpiiabpdjaaDoor
open Go Go.RowKit Go.IntWalk
set_option linter.unusedSimpArgs false
set_option linter.unusedVariables false
set_option maxRecDepth 8000
/-- The word that is congruent to n modulo 2^16. -/
def w16 (n : Int) : Int := (n + 32768) % 65536 - 32768
theorem wrap_i16 (n : Int) : IntKind.i16.wrap n = w16 n := by
  simp only [IntKind.wrap, IntKind.bits, IntKind.signed, w16]; simp; split <;> omega
theorem w16_in (n : Int) (h : -32768 ≤ n ∧ n ≤ 32767) : w16 n = n := by unfold w16; omega
theorem w16_bd (n : Int) : -32768 ≤ w16 n ∧ w16 n ≤ 32767 := by unfold w16; omega
/-- The truncated quotient, 0 for the divisor 0. -/
def quo (a b : Int) : Int := if b = 0 then 0 else a.tdiv b
/-- The remainder of the truncated division, 0 for the divisor 0. -/
def rem (a b : Int) : Int := if b = 0 then 0 else a.tmod b
theorem tmod_bd (a b : Int) (hb : b ≠ 0) : -(b.natAbs : Int) < a.tmod b ∧ a.tmod b < b.natAbs := by
  have h1 := Int.natAbs_tmod a b
  have h2 : a.natAbs % b.natAbs < b.natAbs := Nat.mod_lt _ (by omega)
  omega
theorem tdiv_bd (a b : Int) : -(a.natAbs : Int) ≤ a.tdiv b ∧ a.tdiv b ≤ a.natAbs := by
  have h1 := Int.natAbs_tdiv a b
  have h2 : a.natAbs.div b.natAbs ≤ a.natAbs := Nat.div_le_self _ _
  omega
theorem sub_quo (a b : Int) : a - b * a.tdiv b = a.tmod b := by
  have := Int.tmod_add_mul_tdiv a b
  omega
theorem quo_bd (a b : Int) (ha : -32768 ≤ a ∧ a ≤ 32767) : -32768 ≤ quo a b ∧ quo a b ≤ 32768 := by
  unfold quo; split
  · omega
  · have := tdiv_bd a b; omega
theorem rem_bd (a b : Int) (hb : -32768 ≤ b ∧ b ≤ 32767) : -32768 ≤ rem a b ∧ rem a b ≤ 32767 := by
  unfold rem; split
  · omega
  · rename_i h; have := tmod_bd a b h; omega
theorem w16_rem (a b : Int) (hb : -32768 ≤ b ∧ b ≤ 32767) : w16 (rem a b) = rem a b := w16_in _ (rem_bd a b hb)
theorem mul_bd (a b : Int) (ha : -32768 ≤ a ∧ a ≤ 32767) (hb : -32768 ≤ b ∧ b ≤ 32768) : -1073741824 ≤ a * b ∧ a * b ≤ 1073741824 := by
  have h1 : (a * b).natAbs = a.natAbs * b.natAbs := Int.natAbs_mul a b
  have h2 : a.natAbs * b.natAbs ≤ 32768 * 32768 := Nat.mul_le_mul (by omega) (by omega)
  omega
theorem tmod_neg (n m : Int) (h : n < 0) : n.tmod m = -((-n) % m) := by
  have : n = -(-n) := by omega
  rw [this, Int.neg_tmod, Int.tmod_eq_emod_of_nonneg (by omega), Int.neg_neg]
theorem w16_of_neg (n : Int) (h : n < 0) : w16 n = w16 (n.tmod 65536) ∧ -65536 < n.tmod 65536 ∧ n.tmod 65536 ≤ 0 := by
  rw [tmod_neg n 65536 h]; unfold w16; omega
theorem w16_of_nonneg (n : Int) : w16 n = w16 (n % 65536) := by unfold w16; omega
/-! ### word -/
theorem add_any (a b : Int) (w : World) :
    Calls Tryd.prog 75 #[.int .i16 a, .int .i16 b] w fun e w' => e = .returned (.int .i16 (w16 (a + b))) ∧ w = w' := by
  go_enter Tryd.func75, Tryd.ntmps75
  go_wp2
  go_ret
  exact ⟨by rw [← wrap_i16]; rfl, rfl⟩
theorem sub_any (a b : Int) (w : World) :
    Calls Tryd.prog 76 #[.int .i16 a, .int .i16 b] w fun e w' => e = .returned (.int .i16 (w16 (a - b))) ∧ w = w' := by
  go_enter Tryd.func76, Tryd.ntmps76
  go_wp2
  go_ret
  exact ⟨by rw [← wrap_i16]; rfl, rfl⟩
theorem mul_any (a b : Int) (w : World) :
    Calls Tryd.prog 77 #[.int .i16 a, .int .i16 b] w fun e w' => e = .returned (.int .i16 (w16 (a * b))) ∧ w = w' := by
  go_enter Tryd.func77, Tryd.ntmps77
  go_wp2
  go_ret
  exact ⟨by rw [← wrap_i16]; rfl, rfl⟩
theorem div_any (a b : Int) (w : World) :
    Calls Tryd.prog 78 #[.int .i16 a, .int .i16 b] w fun e w' => e = .returned (.int .i16 (w16 (quo a b))) ∧ w = w' := by
  by_cases h : b = 0
  · subst h
    go_enter Tryd.func78, Tryd.ntmps78
    go_wp2
    go_ret
    exact ⟨rfl, rfl⟩
  · have H := Lib.hid h
    have h' : (b == 0) = false := by simpa using h
    go_enter Tryd.func78, Tryd.ntmps78
    go_wp2
    go_ret
    exact ⟨by rw [quo, if_neg H.out, ← wrap_i16]; rfl, rfl⟩
theorem mod_any (a b : Int) (w : World) :
    Calls Tryd.prog 79 #[.int .i16 a, .int .i16 b] w fun e w' => e = .returned (.int .i16 (rem a b)) ∧ w = w' := by
  by_cases h : b = 0
  · subst h
    go_enter Tryd.func79, Tryd.ntmps79
    go_wp2
    go_ret
    exact ⟨rfl, rfl⟩
  · have H := Lib.hid h
    have h' : (b == 0) = false := by simpa using h
    go_enter Tryd.func79, Tryd.ntmps79
    go_wp2
    go_ret
    exact ⟨by rw [rem, if_neg H.out]; rfl, rfl⟩
/-! ### trickleref01 -/
theorem wrap_any (n : Int) (h0 : -4611686018427387904 ≤ n) (h1 : n ≤ 4611686018427387904) (w : World) :
    Calls Tryd.prog 62 #[.int .i64 n] w fun e w' => e = .returned (.int .i16 (w16 n)) ∧ w = w' := by
  by_cases hn : 0 ≤ n
  · have HW := Lib.hid (w16_of_nonneg n)
    go_enter Tryd.func62, Tryd.ntmps62
    go_wp2
    all_goals (go_ret; exact ⟨ret_i16 (by rw [HW.out]; unfold w16; omega), rfl⟩)
  · obtain ⟨e, b1, b2⟩ := w16_of_neg n (by omega)
    have HW := Lib.hid e
    clear e
    go_enter Tryd.func62, Tryd.ntmps62
    go_wp2
    all_goals (go_ret; exact ⟨ret_i16 (by rw [HW.out]; unfold w16; omega), rfl⟩)
theorem u16w (n : Int) : IntKind.u16.wrap n = n % 65536 := by simp [IntKind.wrap, IntKind.bits, IntKind.signed]
theorem index_any (i n : Int) (hn : 1 ≤ n) (w : World) :
    Calls Tryd.prog 66 #[.int .i16 i, .int .i64 n] w fun e w' => e = .returned (.tuple #[.int .i64 ((i % 65536) % n), .int .i64 0]) ∧ w = w' := by
  have HW := Lib.hid (u16w i)
  have b0 : 0 ≤ IntKind.u16.wrap i := by rw [u16w]; omega
  have b1 : IntKind.u16.wrap i ≤ 65535 := by rw [u16w]; omega
  go_enter Tryd.func66, Tryd.ntmps66
  go_wp2
  go_ret2
  exact ⟨by rw [← HW.out]; rfl, rfl⟩
theorem index_no (i n : Int) (hn : n < 1) (w : World) :
    Calls Tryd.prog 66 #[.int .i16 i, .int .i64 n] w fun e w' => e = .returned (.tuple #[.int .i64 0, .int .i64 1]) ∧ w = w' := by
  go_enter Tryd.func66, Tryd.ntmps66
  go_wp2
  go_ret2
  exact ⟨rfl, rfl⟩
theorem rindex_any (i n : Int) (h0 : -32768 ≤ i) (h1 : i ≤ 32767) (hn : 1 ≤ n) (w : World) :
    Calls Tryd.prog 36 #[.int .i16 i, .int .i64 n] w fun e w' => e = .returned (.tuple #[.int .i64 ((i % 65536) % n), .int .i64 0]) ∧ w = w' := by
  have H := Lib.hid (show (i < 0 → i % 65536 = i + 65536) ∧ (0 ≤ i → i % 65536 = i) by omega)
  go_enter Tryd.func36, Tryd.ntmps36
  go_wp2
  all_goals go_ret2
  · exact ⟨by rw [H.out.1 (by assumption)]; rfl, rfl⟩
  · exact ⟨by rw [H.out.2 (by assumption)]; rfl, rfl⟩
theorem rquo_any (a b : Int) (h0 : -32768 ≤ a) (h1 : a ≤ 32767) (w : World) :
    Calls Tryd.prog 64 #[.int .i64 a, .int .i64 b] w fun e w' => e = .returned (.int .i64 (quo a b)) ∧ w = w' := by
  by_cases h : b = 0
  · subst h
    go_enter Tryd.func64, Tryd.ntmps64
    go_wp2
    go_ret
    exact ⟨rfl, rfl⟩
  · have H := Lib.hid h
    have h' : (b == 0) = false := by simpa using h
    obtain ⟨b0, b1⟩ := tdiv_bd a b
    have c0 : -32768 ≤ a.tdiv b := by omega
    have c1 : a.tdiv b ≤ 32768 := by omega
    clear b0 b1
    go_enter Tryd.func64, Tryd.ntmps64
    go_wp2
    go_ret
    exact ⟨by rw [quo, if_neg H.out]; rfl, rfl⟩
theorem rrem_any (a b : Int) (h0 : -32768 ≤ a) (h1 : a ≤ 32767) (h2 : -32768 ≤ b) (h3 : b ≤ 32767) (w : World) :
    Calls Tryd.prog 65 #[.int .i64 a, .int .i64 b] w fun e w' => e = .returned (.int .i64 (rem a b)) ∧ w = w' := by
  by_cases h : b = 0
  · subst h
    go_enter Tryd.func65, Tryd.ntmps65
    go_wp2
    go_ret
    exact ⟨rfl, rfl⟩
  · have H := Lib.hid h
    have h' : (b == 0) = false := by simpa using h
    obtain ⟨c0, c1⟩ := quo_bd a b ⟨h0, h1⟩
    obtain ⟨d0, d1⟩ := mul_bd b (quo a b) ⟨h2, h3⟩ ⟨c0, c1⟩
    go_enter Tryd.func65, Tryd.ntmps65
    go_wp2_with (go_at_call 64; refine (rquo_any a b (by omega) (by omega) _).mono ?_; rintro e w' ⟨rfl, rfl⟩)
    go_ret
    exact ⟨ret_i64 (by rw [rem, if_neg H.out, quo, if_neg H.out]; exact sub_quo a b), rfl⟩
def tru (b : Bool) : Int := if b then 1 else 0
theorem tru_bd (b : Bool) : 0 ≤ tru b ∧ tru b ≤ 1 := by cases b <;> decide
/-- A unary operator. -/
def unv (k a : Int) : Int := if k = 1 then w16 (-a) else tru (a == 0)
/-- A binary operator. -/
def binv (k a b : Int) : Int := if k = 3 then w16 (a + b) else if k = 4 then w16 (a - b) else if k = 5 then w16 (a * b) else if k = 6 then w16 (quo a b) else if k = 7 then rem a b else if k = 8 then tru (a == b) else if k = 10 then tru (decide (a < b)) else tru (decide (a ≤ b))
/-- A word. -/
def I16 (v : Int) : Prop := -32768 ≤ v ∧ v ≤ 32767
theorem tru_16 (b : Bool) : I16 (tru b) := by have := tru_bd b; unfold I16; omega
theorem unv_16 (k a : Int) : I16 (unv k a) := by
  unfold unv; split
  · exact w16_bd _
  · exact tru_16 _
theorem binv_16 (k a b : Int) (hb : I16 b) : I16 (binv k a b) := by
  unfold binv
  repeat' split
  all_goals first | exact w16_bd _ | exact tru_16 _ | exact rem_bd a b hb
theorem truth_any (b : Bool) (w : World) : Calls Tryd.prog 74 #[.bool b] w fun e w' => e = .returned (.int .i16 (tru b)) ∧ w' = w := by
  cases b
  all_goals
    go_enter Tryd.func74, Tryd.ntmps74
    go_wp2
    go_ret
    exact ⟨rfl, rfl⟩
theorem rtruth_any (b : Bool) (w : World) : Calls Tryd.prog 63 #[.bool b] w fun e w' => e = .returned (.int .i64 (tru b)) ∧ w' = w := by
  cases b
  all_goals
    go_enter Tryd.func63, Tryd.ntmps63
    go_wp2
    go_ret
    exact ⟨rfl, rfl⟩
theorem wrap_is (n : Int) (v : Int) (hv : w16 n = v) (h : -4611686018427387904 ≤ n ∧ n ≤ 4611686018427387904) (w : World) : Calls Tryd.prog 62 #[.int .i64 n] w fun e w' => e = .returned (.int .i16 v) ∧ w' = w :=
  (wrap_any n h.1 h.2 w).mono fun _ _ h => ⟨hv ▸ h.1, h.2.symm⟩
theorem unary_1 (a : Int) (w : World) : Calls Tryd.prog 68 #[.int .i64 1, .int .i16 a] w fun e w' => e = .returned (.tuple #[.int .i16 (unv 1 a), .int .i64 0]) ∧ w' = w := by
  go_enter Tryd.func68, Tryd.ntmps68
  go_wp2
  go_ret2
  exact ⟨by show _ = Ending.returned (.tuple #[.int .i16 (w16 (-a)), .int .i64 0]); rw [← wrap_i16]; rfl, rfl⟩
theorem unary_2 (a : Int) (w : World) : Calls Tryd.prog 68 #[.int .i64 2, .int .i16 a] w fun e w' => e = .returned (.tuple #[.int .i16 (unv 2 a), .int .i64 0]) ∧ w' = w := by
  go_enter Tryd.func68, Tryd.ntmps68
  go_wp2_with (go_at_call 74; (with_reducible refine (truth_any _ _).mono ?_); rintro e w9 ⟨rfl, h9⟩; subst h9)
  go_ret2
  exact ⟨rfl, rfl⟩
theorem runary_1 (a : Int) (h0 : -32768 ≤ a ∧ a ≤ 32767) (w : World) : Calls Tryd.prog 33 #[.int .i64 1, .int .i16 a] w fun e w' => e = .returned (.tuple #[.int .i16 (unv 1 a), .int .i64 0]) ∧ w' = w := by
  go_enter Tryd.func33, Tryd.ntmps33
  go_wp2_with (go_at_call 62; (with_reducible refine (wrap_is (-a) (unv 1 a) rfl (by omega) _).mono ?_); rintro e w9 ⟨rfl, h9⟩; subst h9)
  go_ret2
  exact ⟨rfl, rfl⟩
theorem runary_2 (a : Int) (h0 : -32768 ≤ a ∧ a ≤ 32767) (w : World) : Calls Tryd.prog 33 #[.int .i64 2, .int .i16 a] w fun e w' => e = .returned (.tuple #[.int .i16 (unv 2 a), .int .i64 0]) ∧ w' = w := by
  have HV : Hid (w16 (tru (a == 0)) = unv 2 a) := Lib.hid (w16_in _ (tru_16 _))
  go_enter Tryd.func33, Tryd.ntmps33
  go_wp2_with (first | (go_at_call 63; (with_reducible refine (rtruth_any _ _).mono ?_); rintro e w9 ⟨rfl, h9⟩; subst h9) | (go_at_call 62; (with_reducible refine (wrap_is (tru (a == 0)) (unv 2 a) HV.out (by have := tru_bd (a == 0); omega) _).mono ?_); rintro e w9 ⟨rfl, h9⟩; subst h9))
  go_ret2
  exact ⟨rfl, rfl⟩
theorem binary_3 (a b : Int) (w : World) : Calls Tryd.prog 69 #[.int .i64 3, .int .i16 a, .int .i16 b] w fun e w' => e = .returned (.tuple #[.int .i16 (binv 3 a b), .int .i64 0]) ∧ w' = w := by
  go_enter Tryd.func69, Tryd.ntmps69
  go_wp2_with (go_at_call 75; (with_reducible refine (add_any a b _).mono ?_); rintro e w9 ⟨rfl, h9⟩; subst h9)
  go_ret2
  exact ⟨rfl, rfl⟩
theorem rbinary_3 (a b : Int) (h0 : -32768 ≤ a ∧ a ≤ 32767) (h1 : -32768 ≤ b ∧ b ≤ 32767) (w : World) : Calls Tryd.prog 43 #[.int .i64 3, .int .i16 a, .int .i16 b] w fun e w' => e = .returned (.tuple #[.int .i16 (binv 3 a b), .int .i64 0]) ∧ w' = w := by
  have HV : Hid (w16 (a + b) = binv 3 a b) := Lib.hid (rfl)
  go_enter Tryd.func43, Tryd.ntmps43
  go_wp2_with (go_at_call 62; (with_reducible refine (wrap_is (a + b) (binv 3 a b) HV.out (by omega) _).mono ?_); rintro e w9 ⟨rfl, h9⟩; subst h9)
  go_ret2
  exact ⟨rfl, rfl⟩
theorem binary_4 (a b : Int) (w : World) : Calls Tryd.prog 69 #[.int .i64 4, .int .i16 a, .int .i16 b] w fun e w' => e = .returned (.tuple #[.int .i16 (binv 4 a b), .int .i64 0]) ∧ w' = w := by
  go_enter Tryd.func69, Tryd.ntmps69
  go_wp2_with (go_at_call 76; (with_reducible refine (sub_any a b _).mono ?_); rintro e w9 ⟨rfl, h9⟩; subst h9)
  go_ret2
  exact ⟨rfl, rfl⟩
theorem rbinary_4 (a b : Int) (h0 : -32768 ≤ a ∧ a ≤ 32767) (h1 : -32768 ≤ b ∧ b ≤ 32767) (w : World) : Calls Tryd.prog 43 #[.int .i64 4, .int .i16 a, .int .i16 b] w fun e w' => e = .returned (.tuple #[.int .i16 (binv 4 a b), .int .i64 0]) ∧ w' = w := by
  have HV : Hid (w16 (a - b) = binv 4 a b) := Lib.hid (rfl)
  go_enter Tryd.func43, Tryd.ntmps43
  go_wp2_with (go_at_call 62; (with_reducible refine (wrap_is (a - b) (binv 4 a b) HV.out (by omega) _).mono ?_); rintro e w9 ⟨rfl, h9⟩; subst h9)
  go_ret2
  exact ⟨rfl, rfl⟩
theorem binary_5 (a b : Int) (w : World) : Calls Tryd.prog 69 #[.int .i64 5, .int .i16 a, .int .i16 b] w fun e w' => e = .returned (.tuple #[.int .i16 (binv 5 a b), .int .i64 0]) ∧ w' = w := by
  go_enter Tryd.func69, Tryd.ntmps69
  go_wp2_with (go_at_call 77; (with_reducible refine (mul_any a b _).mono ?_); rintro e w9 ⟨rfl, h9⟩; subst h9)
  go_ret2
  exact ⟨rfl, rfl⟩
theorem rbinary_5 (a b : Int) (h0 : -32768 ≤ a ∧ a ≤ 32767) (h1 : -32768 ≤ b ∧ b ≤ 32767) (w : World) : Calls Tryd.prog 43 #[.int .i64 5, .int .i16 a, .int .i16 b] w fun e w' => e = .returned (.tuple #[.int .i16 (binv 5 a b), .int .i64 0]) ∧ w' = w := by
  have hm := mul_bd a b h0 ⟨h1.1, by omega⟩
  obtain ⟨hm0, hm1⟩ := hm
  have HV : Hid (w16 (a * b) = binv 5 a b) := Lib.hid (rfl)
  go_enter Tryd.func43, Tryd.ntmps43
  go_wp2_with (go_at_call 62; (with_reducible refine (wrap_is (a * b) (binv 5 a b) HV.out (by have := mul_bd a b h0 ⟨h1.1, by omega⟩; omega) _).mono ?_); rintro e w9 ⟨rfl, h9⟩; subst h9)
  go_ret2
  exact ⟨rfl, rfl⟩
theorem binary_6 (a b : Int) (w : World) : Calls Tryd.prog 69 #[.int .i64 6, .int .i16 a, .int .i16 b] w fun e w' => e = .returned (.tuple #[.int .i16 (binv 6 a b), .int .i64 0]) ∧ w' = w := by
  go_enter Tryd.func69, Tryd.ntmps69
  go_wp2_with (go_at_call 78; (with_reducible refine (div_any a b _).mono ?_); rintro e w9 ⟨rfl, h9⟩; subst h9)
  go_ret2
  exact ⟨rfl, rfl⟩
theorem rbinary_6 (a b : Int) (h0 : -32768 ≤ a ∧ a ≤ 32767) (h1 : -32768 ≤ b ∧ b ≤ 32767) (w : World) : Calls Tryd.prog 43 #[.int .i64 6, .int .i16 a, .int .i16 b] w fun e w' => e = .returned (.tuple #[.int .i16 (binv 6 a b), .int .i64 0]) ∧ w' = w := by
  obtain ⟨hm0, hm1⟩ := quo_bd a b h0
  have HV : Hid (w16 (quo a b) = binv 6 a b) := Lib.hid (rfl)
  go_enter Tryd.func43, Tryd.ntmps43
  go_wp2_with (first | (go_at_call 64; (with_reducible refine (rquo_any a b h0.1 h0.2 _).mono ?_); rintro e w9 ⟨rfl, h9⟩; subst h9) | (go_at_call 62; (with_reducible refine (wrap_is (quo a b) (binv 6 a b) HV.out (by have := quo_bd a b h0; omega) _).mono ?_); rintro e w9 ⟨rfl, h9⟩; subst h9))
  go_ret2
  exact ⟨rfl, rfl⟩
theorem binary_7 (a b : Int) (w : World) : Calls Tryd.prog 69 #[.int .i64 7, .int .i16 a, .int .i16 b] w fun e w' => e = .returned (.tuple #[.int .i16 (binv 7 a b), .int .i64 0]) ∧ w' = w := by
  go_enter Tryd.func69, Tryd.ntmps69
  go_wp2_with (go_at_call 79; (with_reducible refine (mod_any a b _).mono ?_); rintro e w9 ⟨rfl, h9⟩; subst h9)
  go_ret2
  exact ⟨rfl, rfl⟩
theorem rbinary_7 (a b : Int) (h0 : -32768 ≤ a ∧ a ≤ 32767) (h1 : -32768 ≤ b ∧ b ≤ 32767) (w : World) : Calls Tryd.prog 43 #[.int .i64 7, .int .i16 a, .int .i16 b] w fun e w' => e = .returned (.tuple #[.int .i16 (binv 7 a b), .int .i64 0]) ∧ w' = w := by
  obtain ⟨hm0, hm1⟩ := rem_bd a b h1
  have HV : Hid (w16 (rem a b) = binv 7 a b) := Lib.hid (w16_rem a b h1)
  go_enter Tryd.func43, Tryd.ntmps43
  go_wp2_with (first | (go_at_call 65; (with_reducible refine (rrem_any a b h0.1 h0.2 h1.1 h1.2 _).mono ?_); rintro e w9 ⟨rfl, h9⟩; subst h9) | (go_at_call 62; (with_reducible refine (wrap_is (rem a b) (binv 7 a b) HV.out (by have := rem_bd a b h1; omega) _).mono ?_); rintro e w9 ⟨rfl, h9⟩; subst h9))
  go_ret2
  exact ⟨rfl, rfl⟩
theorem binary_8 (a b : Int) (w : World) : Calls Tryd.prog 69 #[.int .i64 8, .int .i16 a, .int .i16 b] w fun e w' => e = .returned (.tuple #[.int .i16 (binv 8 a b), .int .i64 0]) ∧ w' = w := by
  go_enter Tryd.func69, Tryd.ntmps69
  go_wp2_with (go_at_call 74; (with_reducible refine (truth_any _ _).mono ?_); rintro e w9 ⟨rfl, h9⟩; subst h9)
  go_ret2
  exact ⟨rfl, rfl⟩
theorem rbinary_8 (a b : Int) (h0 : -32768 ≤ a ∧ a ≤ 32767) (h1 : -32768 ≤ b ∧ b ≤ 32767) (w : World) : Calls Tryd.prog 43 #[.int .i64 8, .int .i16 a, .int .i16 b] w fun e w' => e = .returned (.tuple #[.int .i16 (binv 8 a b), .int .i64 0]) ∧ w' = w := by
  have HV : Hid (w16 (tru (a == b)) = binv 8 a b) := Lib.hid (w16_in _ (tru_16 _))
  go_enter Tryd.func43, Tryd.ntmps43
  go_wp2_with (first | (go_at_call 63; (with_reducible refine (rtruth_any _ _).mono ?_); rintro e w9 ⟨rfl, h9⟩; subst h9) | (go_at_call 62; (with_reducible refine (wrap_is (tru (a == b)) (binv 8 a b) HV.out (by have := tru_bd ((a == b)); omega) _).mono ?_); rintro e w9 ⟨rfl, h9⟩; subst h9))
  go_ret2
  exact ⟨rfl, rfl⟩
theorem binary_10 (a b : Int) (w : World) : Calls Tryd.prog 69 #[.int .i64 10, .int .i16 a, .int .i16 b] w fun e w' => e = .returned (.tuple #[.int .i16 (binv 10 a b), .int .i64 0]) ∧ w' = w := by
  go_enter Tryd.func69, Tryd.ntmps69
  go_wp2_with (go_at_call 74; (with_reducible refine (truth_any _ _).mono ?_); rintro e w9 ⟨rfl, h9⟩; subst h9)
  go_ret2
  exact ⟨rfl, rfl⟩
theorem rbinary_10 (a b : Int) (h0 : -32768 ≤ a ∧ a ≤ 32767) (h1 : -32768 ≤ b ∧ b ≤ 32767) (w : World) : Calls Tryd.prog 43 #[.int .i64 10, .int .i16 a, .int .i16 b] w fun e w' => e = .returned (.tuple #[.int .i16 (binv 10 a b), .int .i64 0]) ∧ w' = w := by
  have HV : Hid (w16 (tru (decide (a < b))) = binv 10 a b) := Lib.hid (w16_in _ (tru_16 _))
  go_enter Tryd.func43, Tryd.ntmps43
  go_wp2_with (first | (go_at_call 63; (with_reducible refine (rtruth_any _ _).mono ?_); rintro e w9 ⟨rfl, h9⟩; subst h9) | (go_at_call 62; (with_reducible refine (wrap_is (tru (decide (a < b))) (binv 10 a b) HV.out (by have := tru_bd ((decide (a < b))); omega) _).mono ?_); rintro e w9 ⟨rfl, h9⟩; subst h9))
  go_ret2
  exact ⟨rfl, rfl⟩
theorem binary_11 (a b : Int) (w : World) : Calls Tryd.prog 69 #[.int .i64 11, .int .i16 a, .int .i16 b] w fun e w' => e = .returned (.tuple #[.int .i16 (binv 11 a b), .int .i64 0]) ∧ w' = w := by
  go_enter Tryd.func69, Tryd.ntmps69
  go_wp2_with (go_at_call 74; (with_reducible refine (truth_any _ _).mono ?_); rintro e w9 ⟨rfl, h9⟩; subst h9)
  go_ret2
  exact ⟨rfl, rfl⟩
theorem rbinary_11 (a b : Int) (h0 : -32768 ≤ a ∧ a ≤ 32767) (h1 : -32768 ≤ b ∧ b ≤ 32767) (w : World) : Calls Tryd.prog 43 #[.int .i64 11, .int .i16 a, .int .i16 b] w fun e w' => e = .returned (.tuple #[.int .i16 (binv 11 a b), .int .i64 0]) ∧ w' = w := by
  have HV : Hid (w16 (tru (decide (a ≤ b))) = binv 11 a b) := Lib.hid (w16_in _ (tru_16 _))
  go_enter Tryd.func43, Tryd.ntmps43
  go_wp2_with (first | (go_at_call 63; (with_reducible refine (rtruth_any _ _).mono ?_); rintro e w9 ⟨rfl, h9⟩; subst h9) | (go_at_call 62; (with_reducible refine (wrap_is (tru (decide (a ≤ b))) (binv 11 a b) HV.out (by have := tru_bd ((decide (a ≤ b))); omega) _).mono ?_); rintro e w9 ⟨rfl, h9⟩; subst h9))
  go_ret2
  exact ⟨rfl, rfl⟩
end Go.Proofs.YtbhglpiiabpdjaaDoor
