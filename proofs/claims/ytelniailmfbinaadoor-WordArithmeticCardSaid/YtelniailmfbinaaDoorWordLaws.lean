/-
  The statements of layer 1 (word) that need no recursion, walked: each returns true, and nothing that was there before has changed.
-/
import Derived.Test.YtelniailmfbinaaDoorWordExamples
namespace Go.Proofs.YtelniailmfbinaaDoor
open Go.RowKit

set_option maxHeartbeats 1000000 in
theorem arithmetic_walk (a b : Int) (h0 : -32768 ≤ a) (h1 : a ≤ 32767) (h2 : -32768 ≤ b) (h3 : b ≤ 32767) (w : World) (he : Env w) :
    Calls Tryd.prog 3 #[.int .i16 a, .int .i16 b] w fun e w' => e = .returned (.bool true) ∧ Below w.heap.size w w' := by
  have HE := Lib.hid he
  clear he
  obtain ⟨q0, q1⟩ := quo_bd a b ⟨h0, h1⟩
  obtain ⟨r0, r1⟩ := rem_bd a b ⟨h2, h3⟩
  obtain ⟨m0, m1⟩ := mul_bd a b ⟨h0, h1⟩ ⟨h2, by omega⟩
  have hr : w16 (rem a b) = rem a b := w16_rem a b ⟨h2, h3⟩
  go_enter Tryd.func3, Tryd.ntmps3
  go_wp2_with (first
    | (go_at_call 11; (with_reducible refine (examples_any _ HE.out).mono ?_); rintro e w1 ⟨rfl, hb1⟩; have HB1 := Lib.hid hb1; clear hb1)
    | (go_at_call 12; (with_reducible refine (add_any _ _ _).mono ?_); rintro e w' ⟨rfl, rfl⟩)
    | (go_at_call 14; (with_reducible refine (sub_any _ _ _).mono ?_); rintro e w' ⟨rfl, rfl⟩)
    | (go_at_call 15; (with_reducible refine (mul_any _ _ _).mono ?_); rintro e w' ⟨rfl, rfl⟩)
    | (go_at_call 16; (with_reducible refine (div_any _ _ _).mono ?_); rintro e w' ⟨rfl, rfl⟩)
    | (go_at_call 18; (with_reducible refine (mod_any _ _ _).mono ?_); rintro e w' ⟨rfl, rfl⟩)
    | (go_at_call 17; (with_reducible refine (rquo_any _ _ h0 h1 _).mono ?_); rintro e w' ⟨rfl, rfl⟩)
    | (go_at_call 19; (with_reducible refine (rrem_any _ _ h0 h1 h2 h3 _).mono ?_); rintro e w' ⟨rfl, rfl⟩)
    | (go_at_call 13; (with_reducible refine (wrap_any _ (by omega) (by omega) _).mono ?_); rintro e w' ⟨rfl, rfl⟩))
  go_ret
  exact ⟨rfl, HB1.out⟩

set_option maxHeartbeats 1000000 in
theorem division_walk0 (a : Int) (w : World) (he : Env w) :
    Calls Tryd.prog 10 #[.int .i16 a, .int .i16 0] w fun e w' => e = .returned (.bool true) ∧ Below w.heap.size w w' := by
  have HE := Lib.hid he
  clear he
  have hz := rem_zero a
  go_enter Tryd.func10, Tryd.ntmps10
  go_wp2_with (first
    | (go_at_call 11; (with_reducible refine (examples_any _ HE.out).mono ?_); rintro e w1 ⟨rfl, hb1⟩; have HB1 := Lib.hid hb1; clear hb1)
    | (go_at_call 11; (with_reducible refine (examples_any _ (HE.out.below HB1.out)).mono ?_); rintro e w2 ⟨rfl, hb2⟩; have HB2 := Lib.hid (HB1.out.trans (hb2.mono HB1.out.size)); clear hb2)
    | (go_at_call 12; (with_reducible refine (add_any _ _ _).mono ?_); rintro e w' ⟨rfl, rfl⟩)
    | (go_at_call 15; (with_reducible refine (mul_any _ _ _).mono ?_); rintro e w' ⟨rfl, rfl⟩)
    | (go_at_call 16; (with_reducible refine (div_any _ _ _).mono ?_); rintro e w' ⟨rfl, rfl⟩)
    | (go_at_call 18; (with_reducible refine (mod_any _ _ _).mono ?_); rintro e w' ⟨rfl, rfl⟩))
  go_ret
  exact ⟨rfl, HB2.out⟩
set_option maxHeartbeats 1000000 in
theorem division_walk (a b : Int) (h0 : -32768 ≤ a) (h1 : a ≤ 32767) (h2 : -32768 ≤ b) (h3 : b ≤ 32767) (w : World) (he : Env w) :
    Calls Tryd.prog 10 #[.int .i16 a, .int .i16 b] w fun e w' => e = .returned (.bool true) ∧ Below w.heap.size w w' := by
  by_cases hb : b = 0
  · subst hb; exact division_walk0 a w he
  have HE := Lib.hid he
  clear he
  have hb' : (b == 0) = false := by simpa using hb
  obtain ⟨r0, r1⟩ := rem_bd a b ⟨h2, h3⟩
  have e1 := division_back a b ⟨h0, h1⟩ hb
  have e2 := rem_small a b hb
  obtain ⟨s0, s1⟩ := rem_sign a b hb
  clear hb
  by_cases hr : rem a b = 0
  · clear s0 s1
    rw [hr] at e1 e2
    have e3 : 0 < max b (-b) := e2
    rw [Int.add_zero] at e1
    clear e2
    go_enter Tryd.func10, Tryd.ntmps10
    go_wp2_with (first
    | (go_at_call 11; (with_reducible refine (examples_any _ HE.out).mono ?_); rintro e w1 ⟨rfl, hb1⟩; have HB1 := Lib.hid hb1; clear hb1)
    | (go_at_call 11; (with_reducible refine (examples_any _ (HE.out.below HB1.out)).mono ?_); rintro e w2 ⟨rfl, hb2⟩; have HB2 := Lib.hid (HB1.out.trans (hb2.mono HB1.out.size)); clear hb2)
    | (go_at_call 12; (with_reducible refine (add_any _ _ _).mono ?_); rintro e w' ⟨rfl, rfl⟩)
    | (go_at_call 15; (with_reducible refine (mul_any _ _ _).mono ?_); rintro e w' ⟨rfl, rfl⟩)
    | (go_at_call 16; (with_reducible refine (div_any _ _ _).mono ?_); rintro e w' ⟨rfl, rfl⟩)
    | (go_at_call 18; (with_reducible refine (mod_any _ _ _).mono ?_); rintro e w' ⟨rfl, rfl⟩))
    go_ret
    exact ⟨rfl, HB1.out⟩
  · by_cases ha : a < 0
    · have hn : rem a b < 0 := by have := s0 ha; omega
      clear s0 s1
      go_enter Tryd.func10, Tryd.ntmps10
      go_wp2_with (first
    | (go_at_call 11; (with_reducible refine (examples_any _ HE.out).mono ?_); rintro e w1 ⟨rfl, hb1⟩; have HB1 := Lib.hid hb1; clear hb1)
    | (go_at_call 11; (with_reducible refine (examples_any _ (HE.out.below HB1.out)).mono ?_); rintro e w2 ⟨rfl, hb2⟩; have HB2 := Lib.hid (HB1.out.trans (hb2.mono HB1.out.size)); clear hb2)
    | (go_at_call 12; (with_reducible refine (add_any _ _ _).mono ?_); rintro e w' ⟨rfl, rfl⟩)
    | (go_at_call 15; (with_reducible refine (mul_any _ _ _).mono ?_); rintro e w' ⟨rfl, rfl⟩)
    | (go_at_call 16; (with_reducible refine (div_any _ _ _).mono ?_); rintro e w' ⟨rfl, rfl⟩)
    | (go_at_call 18; (with_reducible refine (mod_any _ _ _).mono ?_); rintro e w' ⟨rfl, rfl⟩))
      go_ret
      exact ⟨rfl, HB1.out⟩
    · have hn : 0 < rem a b := by have := s1 (by omega); omega
      have HD := Lib.hid (show decide (rem a b < 0) = false ∧ decide (a < 0) = false from ⟨decide_eq_false (by omega), decide_eq_false ha⟩)
      clear s0 s1
      go_enter Tryd.func10, Tryd.ntmps10
      go_wp2_with (first
    | (go_at_call 11; (with_reducible refine (examples_any _ HE.out).mono ?_); rintro e w1 ⟨rfl, hb1⟩; have HB1 := Lib.hid hb1; clear hb1)
    | (go_at_call 11; (with_reducible refine (examples_any _ (HE.out.below HB1.out)).mono ?_); rintro e w2 ⟨rfl, hb2⟩; have HB2 := Lib.hid (HB1.out.trans (hb2.mono HB1.out.size)); clear hb2)
    | (go_at_call 12; (with_reducible refine (add_any _ _ _).mono ?_); rintro e w' ⟨rfl, rfl⟩)
    | (go_at_call 15; (with_reducible refine (mul_any _ _ _).mono ?_); rintro e w' ⟨rfl, rfl⟩)
    | (go_at_call 16; (with_reducible refine (div_any _ _ _).mono ?_); rintro e w' ⟨rfl, rfl⟩)
    | (go_at_call 18; (with_reducible refine (mod_any _ _ _).mono ?_); rintro e w' ⟨rfl, rfl⟩))
      go_ret
      exact ⟨ret_bool (by rw [HD.out.1, HD.out.2]; simp), HB1.out⟩

set_option maxHeartbeats 1000000 in
theorem index_walk (i n : Int) (h0 : -32768 ≤ i) (h1 : i ≤ 32767) (w : World) (he : Env w) :
    Calls Tryd.prog 6 #[.int .i16 i, .int .i64 n] w fun e w' => e = .returned (.bool true) ∧ Below w.heap.size w w' := by
  have HE := Lib.hid he
  clear he
  by_cases hn : 1 ≤ n
  · have g0 : 0 ≤ i % 65536 % n := Int.emod_nonneg _ (by omega)
    have g1 : i % 65536 % n < n := Int.emod_lt_of_pos _ (by omega)
    go_enter Tryd.func6, Tryd.ntmps6
    go_wp2_with (first
      | (go_at_call 11; (with_reducible refine (examples_any _ HE.out).mono ?_); rintro e w1 ⟨rfl, hb1⟩; have HB1 := Lib.hid hb1; clear hb1)
      | (go_at_call 24; (with_reducible refine (index_any _ _ hn _).mono ?_); rintro e w' ⟨rfl, rfl⟩)
      | (go_at_call 25; (with_reducible refine (rindex_any _ _ h0 h1 hn _).mono ?_); rintro e w' ⟨rfl, rfl⟩))
    go_ret
    exact ⟨rfl, HB1.out⟩
  · have hn' : n < 1 := by omega
    clear hn
    go_enter Tryd.func6, Tryd.ntmps6
    go_wp2_with (first
      | (go_at_call 11; (with_reducible refine (examples_any _ HE.out).mono ?_); rintro e w1 ⟨rfl, hb1⟩; have HB1 := Lib.hid hb1; clear hb1)
      | (go_at_call 24; (with_reducible refine (index_no _ _ hn' _).mono ?_); rintro e w' ⟨rfl, rfl⟩)
      | (go_at_call 25; (with_reducible refine (rindex_no _ _ hn' _).mono ?_); rintro e w' ⟨rfl, rfl⟩))
    go_ret
    exact ⟨rfl, HB1.out⟩

/-! ### Unary, Binary: one walk an operator -/
set_option maxHeartbeats 1000000 in
theorem unary_walk (op a : Int) (h0 : -32768 ≤ a) (h1 : a ≤ 32767) (w : World) (he : Env w) :
    Calls Tryd.prog 4 #[.int .i64 op, .int .i16 a] w fun e w' => e = .returned (.bool true) ∧ Below w.heap.size w w' := by
  have HE := Lib.hid he
  clear he
  have HB := Lib.hid (Below.refl w.heap.size w)
  by_cases c1 : op = 1
  · subst c1
    have hw : w16 (-a) = IntKind.i16.wrap (-a) := (wrap_i16 _).symm
    go_enter Tryd.func4, Tryd.ntmps4
    go_wp2_with (first
      | (go_at_call 11; (with_reducible refine (examples_any _ (HE.out.below HB.out)).mono ?_); rintro e w1 ⟨rfl, hb1⟩; replace HB := Lib.hid (HB.out.trans (hb1.mono HB.out.size)); clear hb1)
      | (go_at_call 13; (with_reducible refine (wrap_any _ (by omega) (by omega) _).mono ?_); rintro e w' ⟨rfl, rfl⟩)
      | go_in)
    go_ret
    exact ⟨rfl, HB.out⟩
  by_cases c2 : op = 2
  · subst c2
    have hw1 : w16 1 = 1 := by decide
    have hw0 : w16 0 = 0 := by decide
    by_cases ha : a = 0
    · subst ha
      go_enter Tryd.func4, Tryd.ntmps4
      go_wp2_with (first
        | (go_at_call 11; (with_reducible refine (examples_any _ (HE.out.below HB.out)).mono ?_); rintro e w1 ⟨rfl, hb1⟩; replace HB := Lib.hid (HB.out.trans (hb1.mono HB.out.size)); clear hb1)
        | (go_at_call 13; (with_reducible refine (wrap_any _ (by omega) (by omega) _).mono ?_); rintro e w' ⟨rfl, rfl⟩)
        | go_in)
      go_ret
      exact ⟨rfl, HB.out⟩
    · have ha' : (a == 0) = false := by simpa using ha
      clear ha
      go_enter Tryd.func4, Tryd.ntmps4
      go_wp2_with (first
        | (go_at_call 11; (with_reducible refine (examples_any _ (HE.out.below HB.out)).mono ?_); rintro e w1 ⟨rfl, hb1⟩; replace HB := Lib.hid (HB.out.trans (hb1.mono HB.out.size)); clear hb1)
        | (go_at_call 13; (with_reducible refine (wrap_any _ (by omega) (by omega) _).mono ?_); rintro e w' ⟨rfl, rfl⟩)
        | go_in)
      go_ret
      exact ⟨rfl, HB.out⟩
  · have d1 : (op == 1) = false := by simpa using c1
    have d2 : (op == 2) = false := by simpa using c2
    clear c1 c2
    go_enter Tryd.func4, Tryd.ntmps4
    go_wp2_with (first
      | (go_at_call 11; (with_reducible refine (examples_any _ (HE.out.below HB.out)).mono ?_); rintro e w1 ⟨rfl, hb1⟩; replace HB := Lib.hid (HB.out.trans (hb1.mono HB.out.size)); clear hb1)
      | (go_at_call 13; (with_reducible refine (wrap_any _ (by omega) (by omega) _).mono ?_); rintro e w' ⟨rfl, rfl⟩)
      | go_in)
    go_ret
    exact ⟨rfl, HB.out⟩


/-! ### Binary: one walk an operator -/
set_option maxHeartbeats 1000000 in
theorem binary_add (a b : Int) (h0 : -32768 ≤ a) (h1 : a ≤ 32767) (h2 : -32768 ≤ b) (h3 : b ≤ 32767) (w : World) (he : Env w) :
    Calls Tryd.prog 5 #[.int .i64 3, .int .i16 a, .int .i16 b] w fun e w' => e = .returned (.bool true) ∧ Below w.heap.size w w' := by
  have HE := Lib.hid he
  clear he
  have HB := Lib.hid (Below.refl w.heap.size w)
  go_enter Tryd.func5, Tryd.ntmps5
  go_wp2_with (first
    | (go_at_call 11; (with_reducible refine (examples_any _ (HE.out.below HB.out)).mono ?_); rintro e w1 ⟨rfl, hb1⟩; replace HB := Lib.hid (HB.out.trans (hb1.mono HB.out.size)); clear hb1)
    | (go_at_call 13; (with_reducible refine (wrap_any _ (by omega) (by omega) _).mono ?_); rintro e w' ⟨rfl, rfl⟩)
    | (go_at_call 12; (with_reducible refine (add_any _ _ _).mono ?_); rintro e w' ⟨rfl, rfl⟩)
    | (go_at_call 14; (with_reducible refine (sub_any _ _ _).mono ?_); rintro e w' ⟨rfl, rfl⟩)
    | (go_at_call 15; (with_reducible refine (mul_any _ _ _).mono ?_); rintro e w' ⟨rfl, rfl⟩)
    | (go_at_call 16; (with_reducible refine (div_any _ _ _).mono ?_); rintro e w' ⟨rfl, rfl⟩)
    | (go_at_call 18; (with_reducible refine (mod_any _ _ _).mono ?_); rintro e w' ⟨rfl, rfl⟩)
    | (go_at_call 17; (with_reducible refine (rquo_any _ _ h0 h1 _).mono ?_); rintro e w' ⟨rfl, rfl⟩)
    | (go_at_call 19; (with_reducible refine (rrem_any _ _ h0 h1 h2 h3 _).mono ?_); rintro e w' ⟨rfl, rfl⟩)
    | go_in)
  go_ret
  exact ⟨rfl, HB.out⟩
set_option maxHeartbeats 1000000 in
theorem binary_sub (a b : Int) (h0 : -32768 ≤ a) (h1 : a ≤ 32767) (h2 : -32768 ≤ b) (h3 : b ≤ 32767) (w : World) (he : Env w) :
    Calls Tryd.prog 5 #[.int .i64 4, .int .i16 a, .int .i16 b] w fun e w' => e = .returned (.bool true) ∧ Below w.heap.size w w' := by
  have HE := Lib.hid he
  clear he
  have HB := Lib.hid (Below.refl w.heap.size w)
  go_enter Tryd.func5, Tryd.ntmps5
  go_wp2_with (first
    | (go_at_call 11; (with_reducible refine (examples_any _ (HE.out.below HB.out)).mono ?_); rintro e w1 ⟨rfl, hb1⟩; replace HB := Lib.hid (HB.out.trans (hb1.mono HB.out.size)); clear hb1)
    | (go_at_call 13; (with_reducible refine (wrap_any _ (by omega) (by omega) _).mono ?_); rintro e w' ⟨rfl, rfl⟩)
    | (go_at_call 12; (with_reducible refine (add_any _ _ _).mono ?_); rintro e w' ⟨rfl, rfl⟩)
    | (go_at_call 14; (with_reducible refine (sub_any _ _ _).mono ?_); rintro e w' ⟨rfl, rfl⟩)
    | (go_at_call 15; (with_reducible refine (mul_any _ _ _).mono ?_); rintro e w' ⟨rfl, rfl⟩)
    | (go_at_call 16; (with_reducible refine (div_any _ _ _).mono ?_); rintro e w' ⟨rfl, rfl⟩)
    | (go_at_call 18; (with_reducible refine (mod_any _ _ _).mono ?_); rintro e w' ⟨rfl, rfl⟩)
    | (go_at_call 17; (with_reducible refine (rquo_any _ _ h0 h1 _).mono ?_); rintro e w' ⟨rfl, rfl⟩)
    | (go_at_call 19; (with_reducible refine (rrem_any _ _ h0 h1 h2 h3 _).mono ?_); rintro e w' ⟨rfl, rfl⟩)
    | go_in)
  go_ret
  exact ⟨rfl, HB.out⟩
set_option maxHeartbeats 1000000 in
theorem binary_mul (a b : Int) (h0 : -32768 ≤ a) (h1 : a ≤ 32767) (h2 : -32768 ≤ b) (h3 : b ≤ 32767) (w : World) (he : Env w) :
    Calls Tryd.prog 5 #[.int .i64 5, .int .i16 a, .int .i16 b] w fun e w' => e = .returned (.bool true) ∧ Below w.heap.size w w' := by
  have HE := Lib.hid he
  clear he
  have HB := Lib.hid (Below.refl w.heap.size w)
  obtain ⟨m0, m1⟩ := mul_bd a b ⟨h0, h1⟩ ⟨h2, by omega⟩
  go_enter Tryd.func5, Tryd.ntmps5
  go_wp2_with (first
    | (go_at_call 11; (with_reducible refine (examples_any _ (HE.out.below HB.out)).mono ?_); rintro e w1 ⟨rfl, hb1⟩; replace HB := Lib.hid (HB.out.trans (hb1.mono HB.out.size)); clear hb1)
    | (go_at_call 13; (with_reducible refine (wrap_any _ (by omega) (by omega) _).mono ?_); rintro e w' ⟨rfl, rfl⟩)
    | (go_at_call 12; (with_reducible refine (add_any _ _ _).mono ?_); rintro e w' ⟨rfl, rfl⟩)
    | (go_at_call 14; (with_reducible refine (sub_any _ _ _).mono ?_); rintro e w' ⟨rfl, rfl⟩)
    | (go_at_call 15; (with_reducible refine (mul_any _ _ _).mono ?_); rintro e w' ⟨rfl, rfl⟩)
    | (go_at_call 16; (with_reducible refine (div_any _ _ _).mono ?_); rintro e w' ⟨rfl, rfl⟩)
    | (go_at_call 18; (with_reducible refine (mod_any _ _ _).mono ?_); rintro e w' ⟨rfl, rfl⟩)
    | (go_at_call 17; (with_reducible refine (rquo_any _ _ h0 h1 _).mono ?_); rintro e w' ⟨rfl, rfl⟩)
    | (go_at_call 19; (with_reducible refine (rrem_any _ _ h0 h1 h2 h3 _).mono ?_); rintro e w' ⟨rfl, rfl⟩)
    | go_in)
  go_ret
  exact ⟨rfl, HB.out⟩
set_option maxHeartbeats 1000000 in
theorem binary_div (a b : Int) (h0 : -32768 ≤ a) (h1 : a ≤ 32767) (h2 : -32768 ≤ b) (h3 : b ≤ 32767) (w : World) (he : Env w) :
    Calls Tryd.prog 5 #[.int .i64 6, .int .i16 a, .int .i16 b] w fun e w' => e = .returned (.bool true) ∧ Below w.heap.size w w' := by
  have HE := Lib.hid he
  clear he
  have HB := Lib.hid (Below.refl w.heap.size w)
  obtain ⟨q0, q1⟩ := quo_bd a b ⟨h0, h1⟩
  go_enter Tryd.func5, Tryd.ntmps5
  go_wp2_with (first
    | (go_at_call 11; (with_reducible refine (examples_any _ (HE.out.below HB.out)).mono ?_); rintro e w1 ⟨rfl, hb1⟩; replace HB := Lib.hid (HB.out.trans (hb1.mono HB.out.size)); clear hb1)
    | (go_at_call 13; (with_reducible refine (wrap_any _ (by omega) (by omega) _).mono ?_); rintro e w' ⟨rfl, rfl⟩)
    | (go_at_call 12; (with_reducible refine (add_any _ _ _).mono ?_); rintro e w' ⟨rfl, rfl⟩)
    | (go_at_call 14; (with_reducible refine (sub_any _ _ _).mono ?_); rintro e w' ⟨rfl, rfl⟩)
    | (go_at_call 15; (with_reducible refine (mul_any _ _ _).mono ?_); rintro e w' ⟨rfl, rfl⟩)
    | (go_at_call 16; (with_reducible refine (div_any _ _ _).mono ?_); rintro e w' ⟨rfl, rfl⟩)
    | (go_at_call 18; (with_reducible refine (mod_any _ _ _).mono ?_); rintro e w' ⟨rfl, rfl⟩)
    | (go_at_call 17; (with_reducible refine (rquo_any _ _ h0 h1 _).mono ?_); rintro e w' ⟨rfl, rfl⟩)
    | (go_at_call 19; (with_reducible refine (rrem_any _ _ h0 h1 h2 h3 _).mono ?_); rintro e w' ⟨rfl, rfl⟩)
    | go_in)
  go_ret
  exact ⟨rfl, HB.out⟩
set_option maxHeartbeats 1000000 in
theorem binary_mod (a b : Int) (h0 : -32768 ≤ a) (h1 : a ≤ 32767) (h2 : -32768 ≤ b) (h3 : b ≤ 32767) (w : World) (he : Env w) :
    Calls Tryd.prog 5 #[.int .i64 7, .int .i16 a, .int .i16 b] w fun e w' => e = .returned (.bool true) ∧ Below w.heap.size w w' := by
  have HE := Lib.hid he
  clear he
  have HB := Lib.hid (Below.refl w.heap.size w)
  obtain ⟨r0, r1⟩ := rem_bd a b ⟨h2, h3⟩
  have hr : w16 (rem a b) = rem a b := w16_rem a b ⟨h2, h3⟩
  go_enter Tryd.func5, Tryd.ntmps5
  go_wp2_with (first
    | (go_at_call 11; (with_reducible refine (examples_any _ (HE.out.below HB.out)).mono ?_); rintro e w1 ⟨rfl, hb1⟩; replace HB := Lib.hid (HB.out.trans (hb1.mono HB.out.size)); clear hb1)
    | (go_at_call 13; (with_reducible refine (wrap_any _ (by omega) (by omega) _).mono ?_); rintro e w' ⟨rfl, rfl⟩)
    | (go_at_call 12; (with_reducible refine (add_any _ _ _).mono ?_); rintro e w' ⟨rfl, rfl⟩)
    | (go_at_call 14; (with_reducible refine (sub_any _ _ _).mono ?_); rintro e w' ⟨rfl, rfl⟩)
    | (go_at_call 15; (with_reducible refine (mul_any _ _ _).mono ?_); rintro e w' ⟨rfl, rfl⟩)
    | (go_at_call 16; (with_reducible refine (div_any _ _ _).mono ?_); rintro e w' ⟨rfl, rfl⟩)
    | (go_at_call 18; (with_reducible refine (mod_any _ _ _).mono ?_); rintro e w' ⟨rfl, rfl⟩)
    | (go_at_call 17; (with_reducible refine (rquo_any _ _ h0 h1 _).mono ?_); rintro e w' ⟨rfl, rfl⟩)
    | (go_at_call 19; (with_reducible refine (rrem_any _ _ h0 h1 h2 h3 _).mono ?_); rintro e w' ⟨rfl, rfl⟩)
    | go_in)
  go_ret
  exact ⟨rfl, HB.out⟩
set_option maxHeartbeats 1000000 in
theorem binary_eq (a b : Int) (h0 : -32768 ≤ a) (h1 : a ≤ 32767) (h2 : -32768 ≤ b) (h3 : b ≤ 32767) (w : World) (he : Env w) :
    Calls Tryd.prog 5 #[.int .i64 8, .int .i16 a, .int .i16 b] w fun e w' => e = .returned (.bool true) ∧ Below w.heap.size w w' := by
  have HE := Lib.hid he
  clear he
  have HB := Lib.hid (Below.refl w.heap.size w)
  have hw1 : w16 1 = 1 := by decide
  have hw0 : w16 0 = 0 := by decide
  by_cases c : a = b
  · subst c
    go_enter Tryd.func5, Tryd.ntmps5
    go_wp2_with (first
      | (go_at_call 11; (with_reducible refine (examples_any _ (HE.out.below HB.out)).mono ?_); rintro e w1 ⟨rfl, hb1⟩; replace HB := Lib.hid (HB.out.trans (hb1.mono HB.out.size)); clear hb1)
      | (go_at_call 13; (with_reducible refine (wrap_any _ (by omega) (by omega) _).mono ?_); rintro e w' ⟨rfl, rfl⟩)
      | go_in)
    go_ret
    exact ⟨rfl, HB.out⟩
  · have c' : (a == b) = false := by simpa using c
    clear c
    go_enter Tryd.func5, Tryd.ntmps5
    go_wp2_with (first
      | (go_at_call 11; (with_reducible refine (examples_any _ (HE.out.below HB.out)).mono ?_); rintro e w1 ⟨rfl, hb1⟩; replace HB := Lib.hid (HB.out.trans (hb1.mono HB.out.size)); clear hb1)
      | (go_at_call 13; (with_reducible refine (wrap_any _ (by omega) (by omega) _).mono ?_); rintro e w' ⟨rfl, rfl⟩)
      | go_in)
    go_ret
    exact ⟨rfl, HB.out⟩
set_option maxHeartbeats 1000000 in
theorem binary_ne (a b : Int) (h0 : -32768 ≤ a) (h1 : a ≤ 32767) (h2 : -32768 ≤ b) (h3 : b ≤ 32767) (w : World) (he : Env w) :
    Calls Tryd.prog 5 #[.int .i64 9, .int .i16 a, .int .i16 b] w fun e w' => e = .returned (.bool true) ∧ Below w.heap.size w w' := by
  have HE := Lib.hid he
  clear he
  have HB := Lib.hid (Below.refl w.heap.size w)
  have hw1 : w16 1 = 1 := by decide
  have hw0 : w16 0 = 0 := by decide
  by_cases c : a = b
  · subst c
    go_enter Tryd.func5, Tryd.ntmps5
    go_wp2_with (first
      | (go_at_call 11; (with_reducible refine (examples_any _ (HE.out.below HB.out)).mono ?_); rintro e w1 ⟨rfl, hb1⟩; replace HB := Lib.hid (HB.out.trans (hb1.mono HB.out.size)); clear hb1)
      | (go_at_call 13; (with_reducible refine (wrap_any _ (by omega) (by omega) _).mono ?_); rintro e w' ⟨rfl, rfl⟩)
      | go_in)
    go_ret
    exact ⟨rfl, HB.out⟩
  · have c' : (a == b) = false := by simpa using c
    clear c
    go_enter Tryd.func5, Tryd.ntmps5
    go_wp2_with (first
      | (go_at_call 11; (with_reducible refine (examples_any _ (HE.out.below HB.out)).mono ?_); rintro e w1 ⟨rfl, hb1⟩; replace HB := Lib.hid (HB.out.trans (hb1.mono HB.out.size)); clear hb1)
      | (go_at_call 13; (with_reducible refine (wrap_any _ (by omega) (by omega) _).mono ?_); rintro e w' ⟨rfl, rfl⟩)
      | go_in)
    go_ret
    exact ⟨rfl, HB.out⟩
set_option maxHeartbeats 1000000 in
theorem binary_lt (a b : Int) (h0 : -32768 ≤ a) (h1 : a ≤ 32767) (h2 : -32768 ≤ b) (h3 : b ≤ 32767) (w : World) (he : Env w) :
    Calls Tryd.prog 5 #[.int .i64 10, .int .i16 a, .int .i16 b] w fun e w' => e = .returned (.bool true) ∧ Below w.heap.size w w' := by
  have HE := Lib.hid he
  clear he
  have HB := Lib.hid (Below.refl w.heap.size w)
  have hw1 : w16 1 = 1 := by decide
  have hw0 : w16 0 = 0 := by decide
  by_cases c : a < b
  · go_enter Tryd.func5, Tryd.ntmps5
    go_wp2_with (first
      | (go_at_call 11; (with_reducible refine (examples_any _ (HE.out.below HB.out)).mono ?_); rintro e w1 ⟨rfl, hb1⟩; replace HB := Lib.hid (HB.out.trans (hb1.mono HB.out.size)); clear hb1)
      | (go_at_call 13; (with_reducible refine (wrap_any _ (by omega) (by omega) _).mono ?_); rintro e w' ⟨rfl, rfl⟩)
      | go_in)
    go_ret
    exact ⟨rfl, HB.out⟩
  · go_enter Tryd.func5, Tryd.ntmps5
    go_wp2_with (first
      | (go_at_call 11; (with_reducible refine (examples_any _ (HE.out.below HB.out)).mono ?_); rintro e w1 ⟨rfl, hb1⟩; replace HB := Lib.hid (HB.out.trans (hb1.mono HB.out.size)); clear hb1)
      | (go_at_call 13; (with_reducible refine (wrap_any _ (by omega) (by omega) _).mono ?_); rintro e w' ⟨rfl, rfl⟩)
      | go_in)
    go_ret
    exact ⟨rfl, HB.out⟩
set_option maxHeartbeats 1000000 in
theorem binary_le (a b : Int) (h0 : -32768 ≤ a) (h1 : a ≤ 32767) (h2 : -32768 ≤ b) (h3 : b ≤ 32767) (w : World) (he : Env w) :
    Calls Tryd.prog 5 #[.int .i64 11, .int .i16 a, .int .i16 b] w fun e w' => e = .returned (.bool true) ∧ Below w.heap.size w w' := by
  have HE := Lib.hid he
  clear he
  have HB := Lib.hid (Below.refl w.heap.size w)
  have hw1 : w16 1 = 1 := by decide
  have hw0 : w16 0 = 0 := by decide
  by_cases c : a ≤ b
  · go_enter Tryd.func5, Tryd.ntmps5
    go_wp2_with (first
      | (go_at_call 11; (with_reducible refine (examples_any _ (HE.out.below HB.out)).mono ?_); rintro e w1 ⟨rfl, hb1⟩; replace HB := Lib.hid (HB.out.trans (hb1.mono HB.out.size)); clear hb1)
      | (go_at_call 13; (with_reducible refine (wrap_any _ (by omega) (by omega) _).mono ?_); rintro e w' ⟨rfl, rfl⟩)
      | go_in)
    go_ret
    exact ⟨rfl, HB.out⟩
  · go_enter Tryd.func5, Tryd.ntmps5
    go_wp2_with (first
      | (go_at_call 11; (with_reducible refine (examples_any _ (HE.out.below HB.out)).mono ?_); rintro e w1 ⟨rfl, hb1⟩; replace HB := Lib.hid (HB.out.trans (hb1.mono HB.out.size)); clear hb1)
      | (go_at_call 13; (with_reducible refine (wrap_any _ (by omega) (by omega) _).mono ?_); rintro e w' ⟨rfl, rfl⟩)
      | go_in)
    go_ret
    exact ⟨rfl, HB.out⟩
set_option maxHeartbeats 1000000 in
theorem binary_gt (a b : Int) (h0 : -32768 ≤ a) (h1 : a ≤ 32767) (h2 : -32768 ≤ b) (h3 : b ≤ 32767) (w : World) (he : Env w) :
    Calls Tryd.prog 5 #[.int .i64 12, .int .i16 a, .int .i16 b] w fun e w' => e = .returned (.bool true) ∧ Below w.heap.size w w' := by
  have HE := Lib.hid he
  clear he
  have HB := Lib.hid (Below.refl w.heap.size w)
  have hw1 : w16 1 = 1 := by decide
  have hw0 : w16 0 = 0 := by decide
  by_cases c : b < a
  · go_enter Tryd.func5, Tryd.ntmps5
    go_wp2_with (first
      | (go_at_call 11; (with_reducible refine (examples_any _ (HE.out.below HB.out)).mono ?_); rintro e w1 ⟨rfl, hb1⟩; replace HB := Lib.hid (HB.out.trans (hb1.mono HB.out.size)); clear hb1)
      | (go_at_call 13; (with_reducible refine (wrap_any _ (by omega) (by omega) _).mono ?_); rintro e w' ⟨rfl, rfl⟩)
      | go_in)
    go_ret
    exact ⟨rfl, HB.out⟩
  · go_enter Tryd.func5, Tryd.ntmps5
    go_wp2_with (first
      | (go_at_call 11; (with_reducible refine (examples_any _ (HE.out.below HB.out)).mono ?_); rintro e w1 ⟨rfl, hb1⟩; replace HB := Lib.hid (HB.out.trans (hb1.mono HB.out.size)); clear hb1)
      | (go_at_call 13; (with_reducible refine (wrap_any _ (by omega) (by omega) _).mono ?_); rintro e w' ⟨rfl, rfl⟩)
      | go_in)
    go_ret
    exact ⟨rfl, HB.out⟩
set_option maxHeartbeats 1000000 in
theorem binary_ge (a b : Int) (h0 : -32768 ≤ a) (h1 : a ≤ 32767) (h2 : -32768 ≤ b) (h3 : b ≤ 32767) (w : World) (he : Env w) :
    Calls Tryd.prog 5 #[.int .i64 13, .int .i16 a, .int .i16 b] w fun e w' => e = .returned (.bool true) ∧ Below w.heap.size w w' := by
  have HE := Lib.hid he
  clear he
  have HB := Lib.hid (Below.refl w.heap.size w)
  have hw1 : w16 1 = 1 := by decide
  have hw0 : w16 0 = 0 := by decide
  by_cases c : b ≤ a
  · go_enter Tryd.func5, Tryd.ntmps5
    go_wp2_with (first
      | (go_at_call 11; (with_reducible refine (examples_any _ (HE.out.below HB.out)).mono ?_); rintro e w1 ⟨rfl, hb1⟩; replace HB := Lib.hid (HB.out.trans (hb1.mono HB.out.size)); clear hb1)
      | (go_at_call 13; (with_reducible refine (wrap_any _ (by omega) (by omega) _).mono ?_); rintro e w' ⟨rfl, rfl⟩)
      | go_in)
    go_ret
    exact ⟨rfl, HB.out⟩
  · go_enter Tryd.func5, Tryd.ntmps5
    go_wp2_with (first
      | (go_at_call 11; (with_reducible refine (examples_any _ (HE.out.below HB.out)).mono ?_); rintro e w1 ⟨rfl, hb1⟩; replace HB := Lib.hid (HB.out.trans (hb1.mono HB.out.size)); clear hb1)
      | (go_at_call 13; (with_reducible refine (wrap_any _ (by omega) (by omega) _).mono ?_); rintro e w' ⟨rfl, rfl⟩)
      | go_in)
    go_ret
    exact ⟨rfl, HB.out⟩
set_option maxHeartbeats 1000000 in
theorem binary_no (op a b : Int) (ho : op < 3 ∨ 13 < op) (w : World) (he : Env w) :
    Calls Tryd.prog 5 #[.int .i64 op, .int .i16 a, .int .i16 b] w fun e w' => e = .returned (.bool true) ∧ Below w.heap.size w w' := by
  have HE := Lib.hid he
  clear he
  have HB := Lib.hid (Below.refl w.heap.size w)
  have d3 : (op == 3) = false := by rw [beq_eq_false_iff_ne]; omega
  have d4 : (op == 4) = false := by rw [beq_eq_false_iff_ne]; omega
  have d5 : (op == 5) = false := by rw [beq_eq_false_iff_ne]; omega
  have d6 : (op == 6) = false := by rw [beq_eq_false_iff_ne]; omega
  have d7 : (op == 7) = false := by rw [beq_eq_false_iff_ne]; omega
  have d8 : (op == 8) = false := by rw [beq_eq_false_iff_ne]; omega
  have d9 : (op == 9) = false := by rw [beq_eq_false_iff_ne]; omega
  have d10 : (op == 10) = false := by rw [beq_eq_false_iff_ne]; omega
  have d11 : (op == 11) = false := by rw [beq_eq_false_iff_ne]; omega
  have d12 : (op == 12) = false := by rw [beq_eq_false_iff_ne]; omega
  have d13 : (op == 13) = false := by rw [beq_eq_false_iff_ne]; omega
  clear ho
  go_enter Tryd.func5, Tryd.ntmps5
  go_wp2_with (first
    | (go_at_call 11; (with_reducible refine (examples_any _ (HE.out.below HB.out)).mono ?_); rintro e w1 ⟨rfl, hb1⟩; replace HB := Lib.hid (HB.out.trans (hb1.mono HB.out.size)); clear hb1)
    | (go_at_call 13; (with_reducible refine (wrap_any _ (by omega) (by omega) _).mono ?_); rintro e w' ⟨rfl, rfl⟩)
    | go_in)
  go_ret
  exact ⟨rfl, HB.out⟩
/-- WordBinary, at every operator and all operands. -/
theorem binary_walk (op a b : Int) (h0 : -32768 ≤ a) (h1 : a ≤ 32767) (h2 : -32768 ≤ b) (h3 : b ≤ 32767) (w : World) (he : Env w) :
    Calls Tryd.prog 5 #[.int .i64 op, .int .i16 a, .int .i16 b] w fun e w' => e = .returned (.bool true) ∧ Below w.heap.size w w' := by
  by_cases ho : op < 3 ∨ 13 < op
  · exact binary_no op a b ho w he
  have : op = 3 ∨ op = 4 ∨ op = 5 ∨ op = 6 ∨ op = 7 ∨ op = 8 ∨ op = 9 ∨ op = 10 ∨ op = 11 ∨ op = 12 ∨ op = 13 := by omega
  rcases this with rfl | rfl | rfl | rfl | rfl | rfl | rfl | rfl | rfl | rfl | rfl
  · exact binary_add a b h0 h1 h2 h3 w he
  · exact binary_sub a b h0 h1 h2 h3 w he
  · exact binary_mul a b h0 h1 h2 h3 w he
  · exact binary_div a b h0 h1 h2 h3 w he
  · exact binary_mod a b h0 h1 h2 h3 w he
  · exact binary_eq a b h0 h1 h2 h3 w he
  · exact binary_ne a b h0 h1 h2 h3 w he
  · exact binary_lt a b h0 h1 h2 h3 w he
  · exact binary_le a b h0 h1 h2 h3 w he
  · exact binary_gt a b h0 h1 h2 h3 w he
  · exact binary_ge a b h0 h1 h2 h3 w he

end Go.Proofs.YtelniailmfbinaaDoor
