/-
  THE STATEMENTS OF LAYER 14 (diag) ON TEXTS ALONE, WALKED: Position, Offset, Inverse, Excerpt.
-/
import Derived.Test.YtmnncildkomagaaDoorDiFmt
namespace Go.Proofs.YtmnncildkomagaaDoor
open Go Go.RowKit Go.IntWalk
open Go.Lib (itoa)
set_option linter.unusedSimpArgs false
set_option linter.unusedVariables false
set_option maxRecDepth 8000

abbrev exS : ByteArray := { data := #[97, 98, 10, 99] }
abbrev exT : List UInt8 := [117, 110, 101, 120, 112, 101, 99, 116, 101, 100, 32, 99]
theorem ex_pos3 (w : World) : Calls Tryd.prog 12 #[.string exS, .int .i64 3] w fun e w' => e = .returned (.tuple #[.int .i64 2, .int .i64 1]) ∧ w = w' :=
  pos_any exS (by decide) 3 w
theorem ex_pos2 (w : World) : Calls Tryd.prog 12 #[.string exS, .int .i64 2] w fun e w' => e = .returned (.tuple #[.int .i64 1, .int .i64 3]) ∧ w = w' :=
  pos_any exS (by decide) 2 w
theorem ex_text : fmt exS.data.toList [(3, exT)] = [50, 58, 49, 58, 32, 117, 110, 101, 120, 112, 101, 99, 116, 101, 100, 32, 99, 10] := by
  have e1 : clp exS.data.toList.length 3 = 3 := by decide
  have e2 : lin exS.data.toList 3 = 2 := by decide
  have e3 : col exS.data.toList 3 = 1 := by decide
  have e4 := itoa_small 2 (by decide)
  have e5 := itoa_small 1 (by decide)
  unfold fmt fline
  rw [List.flatMap_cons, e1, e2, e3, e4, e5]
  rfl
theorem ex_fmt (w : World) (S : Nat) (hS : Rw 2 itc w (some ⟨S, 0, none⟩) 1 [(3, exT)]) (he : Env w) :
    Calls Tryd.prog 24 #[.string exS, .slice (some ⟨S, 0, none⟩) 1 1] w fun e w' => e = .returned (.string ⟨#[50, 58, 49, 58, 32, 117, 110, 101, 120, 112, 101, 99, 116, 101, 100, 32, 99, 10]⟩) ∧ Grew w w' := by
  have h := fmt_any exS (by decide) _ _ _ _ w hS rfl (by decide) (by intro x hx; rw [List.mem_singleton.1 hx]; decide) he
  rw [ex_text] at h
  exact h
theorem examples_any (w : World) (he : Env w) : Calls Tryd.prog 11 #[] w fun e w' => e = .returned (.bool true) ∧ Grew w w' := by
  have HF := Lib.hid (ex_fmt (w.alloc (.cells #[.int .i64 3, .string ⟨#[117, 110, 101, 120, 112, 101, 99, 116, 101, 100, 32, 99]⟩] 37)) w.heap.size (Rw.made encI w [(3, exT)] 1 37 _ (0, 0) rfl rfl (by omega)) (he.grew ((Grew.refl w).alloc _)))
  have HG : Hid (Grew w (w.alloc (.cells #[.int .i64 3, .string ⟨#[117, 110, 101, 120, 112, 101, 99, 116, 101, 100, 32, 99]⟩] 37))) := Lib.hid ((Grew.refl w).alloc _)
  go_enter Tryd.func11, Tryd.ntmps11
  go_wp2_with (first
    | (go_at_call 12; (with_reducible refine (ex_pos3 _).mono ?_); rintro e w1 ⟨rfl, rfl⟩)
    | (go_at_call 12; (with_reducible refine (ex_pos2 _).mono ?_); rintro e w1 ⟨rfl, rfl⟩)
    | (go_at_call 24; (with_reducible refine (HF.out).mono ?_); rintro e w1 ⟨rfl, g1⟩; have HG1 := Lib.hid (HG.out.trans g1); clear g1))
  go_ret
  exact ⟨rfl, HG1.out⟩
theorem position_law (a0 : ByteArray) (a1 : Int) (W : World) (he : Env W) : Calls Tryd.prog 3 #[.string a0, .int .i64 a1] W fun e w' => e = .returned (.bool true) ∧ Grew W w' := by
  by_cases hb : 300 < (a0.size : Int)
  · have HE := Lib.hid (examples_any W he)
    go_enter Tryd.func3, Tryd.ntmps3
    go_wp2_with (go_at_call 11; (with_reducible refine (HE.out).mono ?_); rintro e w1 ⟨rfl, g1⟩; have HG1 := Lib.hid g1; clear g1)
    go_ret
    exact ⟨rfl, HG1.out⟩
  · have hs : a0.size ≤ 100000 := by omega
    have HE := Lib.hid (fun w (h : Grew W w) => examples_any w (he.grew h))
    have HP := Lib.hid (fun w => pos_any a0 hs a1 w)
    have HR := Lib.hid (fun w => rpos_any a0 hs a1 w)
    have HL := Lib.hid (fun w => lines_any a0 hs w)
    have HM := Lib.hid (fun w => rlines_any a0 hs w)
    generalize lin a0.data.toList (clp a0.size a1) = l1 at HP HR
    generalize col a0.data.toList (clp a0.size a1) = c1 at HP HR
    generalize lin a0.data.toList a0.size = l2 at HL HM
    clear he
    go_enter Tryd.func3, Tryd.ntmps3
    go_wp2_with (first
      | (go_at_call 12; (with_reducible refine (HP.out _).mono ?_); rintro e w1 ⟨rfl, rfl⟩)
      | (go_at_call 13; (with_reducible refine (HR.out _).mono ?_); rintro e w1 ⟨rfl, rfl⟩)
      | (go_at_call 14; (with_reducible refine (HL.out _).mono ?_); rintro e w1 ⟨rfl, rfl⟩)
      | (go_at_call 15; (with_reducible refine (HM.out _).mono ?_); rintro e w1 ⟨rfl, rfl⟩)
      | (go_at_call 11; (with_reducible refine (HE.out _ (Grew.refl _)).mono ?_); rintro e w1 ⟨rfl, g1⟩; have HG1 := Lib.hid g1; clear g1))
    go_ret
    exact ⟨rfl, HG1.out⟩
theorem offset_law (a0 : ByteArray) (a1 a2 : Int) (W : World) (b1 : -9223372036854775808 ≤ a1 ∧ a1 ≤ 9223372036854775807) (b2 : -9223372036854775808 ≤ a2 ∧ a2 ≤ 9223372036854775807) (he : Env W) : Calls Tryd.prog 4 #[.string a0, .int .i64 a1, .int .i64 a2] W fun e w' => e = .returned (.bool true) ∧ Grew W w' := by
  by_cases hb : 300 < (a0.size : Int)
  · have HE := Lib.hid (examples_any W he)
    go_enter Tryd.func4, Tryd.ntmps4
    go_wp2_with (go_at_call 11; (with_reducible refine (HE.out).mono ?_); rintro e w1 ⟨rfl, g1⟩; have HG1 := Lib.hid g1; clear g1)
    go_ret
    exact ⟨rfl, HG1.out⟩
  · have hs : a0.size ≤ 100000 := by omega
    have HE := Lib.hid (fun w (h : Grew W w) => examples_any w (he.grew h))
    obtain ⟨r, ok, hR⟩ := off_ex a0.data.toList a1 a2
    have HP := Lib.hid (fun w => off_any a0 hs a1 a2 r ok b1 b2 hR w)
    have HR := Lib.hid (fun w => roff_any a0 hs a1 a2 r ok hR w)
    clear he hR b1 b2
    cases ok
    all_goals
      go_enter Tryd.func4, Tryd.ntmps4
      go_wp2_with (first
        | (go_at_call 16; (with_reducible refine (HP.out _).mono ?_); rintro e w1 ⟨rfl, rfl⟩)
        | (go_at_call 17; (with_reducible refine (HR.out _).mono ?_); rintro e w1 ⟨rfl, rfl⟩)
        | (go_at_call 11; (with_reducible refine (HE.out _ (Grew.refl _)).mono ?_); rintro e w1 ⟨rfl, g1⟩; have HG1 := Lib.hid g1; clear g1))
      go_ret
      exact ⟨rfl, HG1.out⟩
theorem inverse_law (a0 : ByteArray) (W : World) (he : Env W) : Calls Tryd.prog 5 #[.string a0] W fun e w' => e = .returned (.bool true) ∧ Grew W w' := by
  by_cases hb : 300 < (a0.size : Int)
  · have HE := Lib.hid (examples_any W he)
    go_enter Tryd.func5, Tryd.ntmps5
    go_wp2_with (go_at_call 11; (with_reducible refine (HE.out).mono ?_); rintro e w1 ⟨rfl, g1⟩; have HG1 := Lib.hid g1; clear g1)
    go_ret
    exact ⟨rfl, HG1.out⟩
  · have hs : a0.size ≤ 100000 := by omega
    have HE := Lib.hid (fun w (h : Grew W w) => examples_any w (he.grew h))
    have HL := Lib.hid (fun w => lines_any a0 hs w)
    have hll := lin_le a0.data.toList a0.size
    obtain ⟨l2, hl2⟩ : ∃ l2, lin a0.data.toList a0.size = l2 := ⟨_, rfl⟩
    rw [hl2] at HL hll
    have HL2 := Lib.hid hl2
    have HSL := Lib.hid (size_list a0)
    clear hl2 he
    go_enter Tryd.func5, Tryd.ntmps5
    go_wp2_with (go_at_call 14; (with_reducible refine (HL.out _).mono ?_); rintro e w1 ⟨rfl, rfl⟩)
    go_loopg [18] (a0.size + 1) (fun gg iv wr => ∃ k : Nat, iv = .int .i64 (k : Int) ∧ k ≤ a0.size + 1 ∧ gg = a0.size + 1 - k ∧ wr = W)
    case atStart => exact ⟨0, rfl, Nat.zero_le _, rfl, rfl⟩
    case round =>
      obtain ⟨k, rfl, hk, rfl, rfl⟩ := hrel
      by_cases hlt : k < a0.size + 1
      · have hks : k ≤ a0.size := by omega
        have HP := Lib.hid (fun w => pos_any a0 hs (k : Int) w)
        rw [clp_self hks] at HP
        have hp1 := lin_pos a0.data.toList k
        have hp2 : lin a0.data.toList k ≤ l2 := by rw [← HL2.out]; exact lin_mono _ hks
        have hp3 : 1 ≤ col a0.data.toList k := by unfold col; omega
        have hp4 : col a0.data.toList k ≤ k + 1 := by unfold col; omega
        have HO := Lib.hid (fun w => off_any a0 hs _ _ _ _ (by omega) (by omega) (off_at (xs := a0.data.toList) (i := k) (by rw [HSL.out]; exact hks)) w)
        generalize lin a0.data.toList k = l1 at HP HO hp1 hp2
        generalize col a0.data.toList k = c1 at HP HO hp3 hp4
        go_wp2_with (first
          | (go_at_call 12; (with_reducible refine (HP.out _).mono ?_); rintro e w1 ⟨rfl, rfl⟩)
          | (go_at_call 16; (with_reducible refine (HO.out _).mono ?_); rintro e w1 ⟨rfl, rfl⟩))
        go_roundg (a0.size + 1 - (k + 1))
        case measure => omega
        case rel => exact ⟨k + 1, (by go_num), by omega, rfl, rfl⟩
      · obtain rfl : k = a0.size + 1 := by omega
        go_wp2_with (go_at_call 11; (with_reducible refine (HE.out _ (Grew.refl _)).mono ?_); rintro e w1 ⟨rfl, g1⟩; have HG1 := Lib.hid g1; clear g1)
        go_ret
        exact ⟨rfl, HG1.out⟩
theorem excerpt_law (a0 : ByteArray) (a1 : Int) (W : World) (he : Env W) : Calls Tryd.prog 9 #[.string a0, .int .i64 a1] W fun e w' => e = .returned (.bool true) ∧ Grew W w' := by
  by_cases hb : 300 < (a0.size : Int)
  · have HE := Lib.hid (examples_any W he)
    go_enter Tryd.func9, Tryd.ntmps9
    go_wp2_with (go_at_call 11; (with_reducible refine (HE.out).mono ?_); rintro e w1 ⟨rfl, g1⟩; have HG1 := Lib.hid g1; clear g1)
    go_ret
    exact ⟨rfl, HG1.out⟩
  · have hs : a0.size ≤ 100000 := by omega
    have HE := Lib.hid (fun w (h : Grew W w) => examples_any w (he.grew h))
    have HP := Lib.hid (fun w => exc_any a0 hs a1 w)
    have HR := Lib.hid (fun w => rexc_any a0 hs a1 w)
    generalize exc a0.data.toList (clp a0.size a1) = X at HP HR
    clear he
    go_enter Tryd.func9, Tryd.ntmps9
    go_wp2_with (first
      | (go_at_call 26; (with_reducible refine (HP.out _).mono ?_); rintro e w1 ⟨rfl, g1⟩; have HG1 := Lib.hid g1; clear g1)
      | (go_at_call 27; (with_reducible refine (HR.out _).mono ?_); rintro e w2 ⟨rfl, g2⟩; have HG2 := Lib.hid (HG1.out.trans g2); clear g2)
      | (go_at_call 11; (with_reducible refine (HE.out _ HG2.out).mono ?_); rintro e w3 ⟨rfl, g3⟩; have HG3 := Lib.hid (HG2.out.trans g3); clear g3))
    go_ret
    exact ⟨rfl, HG3.out⟩
end Go.Proofs.YtmnncildkomagaaDoor
