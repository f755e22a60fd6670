/-
  The fixed examples of layer 1 (word) hold: 'examples' returns true, and nothing that was there before has changed.
-/
import Derived.Test.YtelniailmfbinaaDoorWordWalks
namespace Go.Proofs.YtelniailmfbinaaDoor
open Go.RowKit

theorem parse_least (w : World) (he : Env w) :
    Calls Tryd.prog 31 #[.string ⟨#[45, 51, 50, 55, 54, 56]⟩] w fun e w' => e = .returned (.tuple #[.int .i16 (-32768), .int .i64 0]) ∧ Below w.heap.size w w' := by
  refine (parse_any ⟨#[45, 51, 50, 55, 54, 56]⟩ (by decide) w he).mono ?_
  rintro e w' ⟨v, k, rfl, hp, hb⟩
  have h0 : ParsesTo [45, 51, 50, 55, 54, 56] (-32768) 0 := .inl ⟨rfl, by decide, by kernel_rfl⟩
  obtain ⟨rfl, rfl⟩ := h0.one hp
  exact ⟨rfl, hb⟩
theorem parse_minus0 (w : World) (he : Env w) :
    Calls Tryd.prog 31 #[.string ⟨#[45, 48]⟩] w fun e w' => e = .returned (.tuple #[.int .i16 0, .int .i64 2]) ∧ Below w.heap.size w w' := by
  refine (parse_any ⟨#[45, 48]⟩ (by decide) w he).mono ?_
  rintro e w' ⟨v, k, rfl, hp, hb⟩
  have hz : Lib.parseIntB 16 [45, 48] = .ok 0 := by kernel_rfl
  have hi : Lib.itoa 0 = [48] := by kernel_rfl
  have h0 : ParsesTo [45, 48] 0 2 := .inr ⟨rfl, rfl, not_spelt_other hz (by rw [hi]; decide)⟩
  obtain ⟨rfl, rfl⟩ := h0.one hp
  exact ⟨rfl, hb⟩
theorem format_120 (w : World) (he : Env w) :
    Calls Tryd.prog 30 #[.int .i16 (-120)] w fun e w' => e = .returned (.string ⟨#[45, 49, 50, 48]⟩) ∧ Below w.heap.size w w' := by
  refine (format_any (-120) (by decide) (by decide) w he).mono ?_
  rintro e w' ⟨rfl, hb⟩
  have hi : Lib.itoa (-120) = [45, 49, 50, 48] := by kernel_rfl
  rw [hi]
  exact ⟨rfl, hb⟩

theorem add_ex (w : World) : Calls Tryd.prog 12 #[.int .i16 32767, .int .i16 1] w fun e w' => e = .returned (.int .i16 (-32768)) ∧ w = w' := add_any 32767 1 w
theorem sub_ex (w : World) : Calls Tryd.prog 14 #[.int .i16 (-32768), .int .i16 1] w fun e w' => e = .returned (.int .i16 32767) ∧ w = w' := sub_any (-32768) 1 w
theorem mul_ex (w : World) : Calls Tryd.prog 15 #[.int .i16 300, .int .i16 300] w fun e w' => e = .returned (.int .i16 24464) ∧ w = w' := mul_any 300 300 w
theorem div_ex1 (w : World) : Calls Tryd.prog 16 #[.int .i16 (-7), .int .i16 2] w fun e w' => e = .returned (.int .i16 (-3)) ∧ w = w' := div_any (-7) 2 w
theorem div_ex2 (w : World) : Calls Tryd.prog 16 #[.int .i16 (-32768), .int .i16 (-1)] w fun e w' => e = .returned (.int .i16 (-32768)) ∧ w = w' := div_any (-32768) (-1) w
theorem div_ex3 (w : World) : Calls Tryd.prog 16 #[.int .i16 5, .int .i16 0] w fun e w' => e = .returned (.int .i16 0) ∧ w = w' := div_any 5 0 w
theorem mod_ex (w : World) : Calls Tryd.prog 18 #[.int .i16 (-7), .int .i16 2] w fun e w' => e = .returned (.int .i16 (-1)) ∧ w = w' := mod_any (-7) 2 w
theorem index_ex (w : World) : Calls Tryd.prog 24 #[.int .i16 (-1), .int .i64 10] w fun e w' => e = .returned (.tuple #[.int .i64 5, .int .i64 0]) ∧ w = w' := index_any (-1) 10 (by decide) w
theorem put_ex (w : World) : Calls Tryd.prog 26 #[.int .i16 (-2)] w fun e w' => e = .returned (.agg #[.int .u8 254, .int .u8 255]) ∧ Below w.heap.size w w' := put_any (-2) w
theorem get_ex (w : World) : Calls Tryd.prog 28 #[.agg #[.int .u8 0, .int .u8 128]] w fun e w' => e = .returned (.int .i16 (-32768)) ∧ Below w.heap.size w w' := get_any 0 128 (by decide) (by decide) (by decide) (by decide) w

set_option maxHeartbeats 1000000 in
theorem examples_any (w : World) (he : Env w) :
    Calls Tryd.prog 11 #[] w fun e w' => e = .returned (.bool true) ∧ Below w.heap.size w w' := by
  have HE := Lib.hid he
  clear he
  have hq := eq2 254 255 (by decide) (by decide)
  go_enter Tryd.func11, Tryd.ntmps11
  go_wp2_with (first
    | (go_at_call 31; (with_reducible refine (parse_least _ HE.out).mono ?_); rintro e w1 ⟨rfl, hb1⟩; have HB1 := Lib.hid hb1; clear hb1)
    | (go_at_call 31; (with_reducible refine (parse_minus0 _ (HE.out.below HB1.out)).mono ?_); rintro e w2 ⟨rfl, hb2⟩; have HB2 := Lib.hid (HB1.out.trans (hb2.mono HB1.out.size)); clear hb2)
    | (go_at_call 12; (with_reducible refine (add_ex _).mono ?_); rintro e w' ⟨rfl, rfl⟩)
    | (go_at_call 14; (with_reducible refine (sub_ex _).mono ?_); rintro e w' ⟨rfl, rfl⟩)
    | (go_at_call 15; (with_reducible refine (mul_ex _).mono ?_); rintro e w' ⟨rfl, rfl⟩)
    | (go_at_call 16; (with_reducible refine (div_ex1 _).mono ?_); rintro e w' ⟨rfl, rfl⟩)
    | (go_at_call 16; (with_reducible refine (div_ex2 _).mono ?_); rintro e w' ⟨rfl, rfl⟩)
    | (go_at_call 16; (with_reducible refine (div_ex3 _).mono ?_); rintro e w' ⟨rfl, rfl⟩)
    | (go_at_call 18; (with_reducible refine (mod_ex _).mono ?_); rintro e w' ⟨rfl, rfl⟩)
    | (go_at_call 24; (with_reducible refine (index_ex _).mono ?_); rintro e w' ⟨rfl, rfl⟩)
    | (go_at_call 26; (with_reducible refine (put_ex _).mono ?_); rintro e w3 ⟨rfl, hb3⟩; have HB3 := Lib.hid (HB2.out.trans (hb3.mono HB2.out.size)); clear hb3)
    | (go_at_call 28; (with_reducible refine (get_ex _).mono ?_); rintro e w4 ⟨rfl, hb4⟩; have HB4 := Lib.hid (HB3.out.trans (hb4.mono HB3.out.size)); clear hb4)
    | (go_at_call 30; (with_reducible refine (format_120 _ (HE.out.below HB4.out)).mono ?_); rintro e w5 ⟨rfl, hb5⟩; have HB5 := Lib.hid (HB4.out.trans (hb5.mono HB4.out.size)); clear hb5)
    | go_in)
  go_ret
  exact ⟨rfl, HB5.out⟩

end Go.Proofs.YtelniailmfbinaaDoor
