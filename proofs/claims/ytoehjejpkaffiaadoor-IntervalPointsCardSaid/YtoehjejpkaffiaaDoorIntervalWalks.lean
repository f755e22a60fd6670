/-
  CONTRACTS OF LAYER 5 (interval) AND OF ITS REFERENCE: what each call returns, and that nothing that was there before has changed.
-/
import Derived.Test.YtoehjejpkaffiaaDoorIntervalOps
import Derived.Test.YtoehjejpkaffiaaDoorIntervalPlain
import Derived.Lib.Hide
namespace Go.Proofs.YtoehjejpkaffiaaDoor
open Go.RowKit Go.IntWalk

/-- The block of an interval that is passed by value. -/
abbrev bx (w : World) (x y : Int) : World := w.alloc (.cells #[.int .i64 x, .int .i64 y] 23)
theorem bx_grew (w : World) (x y : Int) : Grew w (bx w x y) := (Grew.refl _).alloc _
theorem box_new (w : World) (x y : Int) : Box w.heap.size x y (bx w x y) := ⟨by simp, by simp⟩

theorem most_any (w : World) : Calls Tryd.prog 33 #[] w fun e w' => e = .returned (.int .i64 1099511627776) ∧ w' = w := by
  go_enter Tryd.func33, Tryd.ntmps33
  go_wp2
  go_ret
  exact ⟨rfl, rfl⟩
theorem clamp_any (t : Int) (w : World) : Calls Tryd.prog 32 #[.int .i64 t] w fun e w' => e = .returned (.int .i64 (cl t)) ∧ w' = w := by
  go_enter Tryd.func32, Tryd.ntmps32
  go_wp2
  all_goals go_ret
  all_goals exact ⟨ret_i64 (by unfold cl; omega), rfl⟩
theorem valid_any (x y : Int) (w : World) :
    Calls Tryd.prog 14 #[iv x y] w fun e w' => e = .returned (.bool (va x y)) ∧ w' = bx w x y := by
  go_enter Tryd.func14, Tryd.ntmps14
  go_wp2
  all_goals go_ret
  all_goals exact ⟨ret_bool (by rw [Bool.eq_iff_iff, va_iff]; simp; omega), rfl⟩
theorem of_any (x y : Int) (w : World) :
    Calls Tryd.prog 17 #[.int .i64 x, .int .i64 y] w fun e w' => e = .returned (iv x y) ∧ w' = bx w x y := by
  go_enter Tryd.func17, Tryd.ntmps17
  go_wp2
  refine bodyPost_ret (v := iv x y) (by simp [results, Tryd.results17, go_sem]) rfl ⟨rfl, ?_⟩
  rfl
theorem rclamp_any (t : Int) (w : World) : Calls Tryd.prog 12 #[.int .i64 t] w fun e w' => e = .returned (.int .i64 (cl t)) ∧ w' = w := by
  go_enter Tryd.func12, Tryd.ntmps12
  go_wp2_with (go_at_call 33; (with_reducible refine (most_any _).mono ?_); rintro e _ ⟨rfl, rfl⟩)
  all_goals go_ret
  all_goals exact ⟨ret_i64 (by unfold cl; omega), rfl⟩
theorem at_any (t : Int) (w : World) : Calls Tryd.prog 16 #[.int .i64 t] w fun e w' => e = .returned (iv (cl t) (cl t)) ∧ w' = bx w (cl t) (cl t) := by
  go_enter Tryd.func16, Tryd.ntmps16
  go_wp2_with (go_at_call 32; (with_reducible refine (clamp_any _ _).mono ?_); rintro e _ ⟨rfl, rfl⟩)
  refine bodyPost_ret (v := iv (cl t) (cl t)) (by simp [results, Tryd.results16, go_sem]) rfl ⟨rfl, ?_⟩
  rfl

theorem enters_most : Enters Tryd.prog 33 := fun args w => by go_simp
theorem enters_clamp : Enters Tryd.prog 32 := fun args w => by go_simp
theorem enters_rclamp : Enters Tryd.prog 12 := fun args w => by go_simp
theorem rvalid_any (x y : Int) (w : World) :
    Calls Tryd.prog 15 #[iv x y] w fun e w' => e = .returned (.bool (va x y)) ∧ w' = (bx w x y).drew := by
  have hS : Box w.heap.size x y (bx w x y).drew := (box_new w x y).grew (Grew.refl _).drw
  go_enter Tryd.func15, Tryd.ntmps15
  go_wp2
  refine wp_still [some 3, some 4, some 5, some 6, some 7, some 8, some 9, some 10, some 11, some 12, some 13, some 14, some 15, some 16, some 17, some 18, some 2] [false, false, true, true, true, true, true, true, true, true, true, true, true, true, true, true, true, true, true] [fun v _ => v = .pointer (some ⟨w.heap.size, 0, none⟩), fun v _ => v = .int .i64 (x), fun v _ => v = .bool (decide (0 ≤ x)), fun v _ => v = .bool (decide (0 ≤ x)), fun v _ => (decide (0 ≤ x)) = true → v = .pointer (some ⟨w.heap.size, 0, none⟩), fun v _ => (decide (0 ≤ x)) = true → v = .int .i64 (x), fun v _ => (decide (0 ≤ x)) = true → v = .pointer (some ⟨w.heap.size, 1, none⟩), fun v _ => (decide (0 ≤ x)) = true → v = .int .i64 (y), fun v _ => (decide (0 ≤ x)) = true → v = .bool (decide (x ≤ y)), fun v _ => v = .bool ((decide (0 ≤ x)) && (decide (x ≤ y))), fun v _ => v = .bool ((decide (0 ≤ x)) && (decide (x ≤ y))), fun v _ => ((decide (0 ≤ x)) && (decide (x ≤ y))) = true → v = .pointer (some ⟨w.heap.size, 1, none⟩), fun v _ => ((decide (0 ≤ x)) && (decide (x ≤ y))) = true → v = .int .i64 (y), fun v _ => ((decide (0 ≤ x)) && (decide (x ≤ y))) = true → v = .int .i64 (1099511627776), fun v _ => ((decide (0 ≤ x)) && (decide (x ≤ y))) = true → v = .bool (decide (y ≤ 1099511627776)), fun v _ => v = .bool (((decide (0 ≤ x)) && (decide (x ≤ y))) && (decide (y ≤ 1099511627776))), fun v _ => v = .bool (((decide (0 ≤ x)) && (decide (x ≤ y))) && (decide (y ≤ 1099511627776)))] (by kernel_rfl) (by kernel_rfl) rfl ⟨?_, ?_, ?_, ?_, ?_, ?_, ?_, ?_, ?_, ?_, ?_, ?_, ?_, ?_, ?_, ?_, ?_, trivial⟩ ?_
  · intro u w hR hd; exact runs_fld23_0 (ev rfl) ⟨rfl, rfl⟩
  · intro u w hR hd; exact runs_ld2 (ev (hd.1 rfl)) (hS.kept hR).c0 ⟨rfl, rfl⟩
  · intro u w hR hd; exact runs_geq2 (ev (hd.1 rfl)) rfl ⟨rfl, rfl⟩
  · intro u w hR hd; exact runs_mv (ev (hd.1 rfl)) ⟨rfl, rfl⟩
  · intro u w hR hd; exact ⟨fun hg => have hG : (decide (0 ≤ x)) = true := Value.bool.inj ((hd.1 rfl).symm.trans hg); runs_fld23_0 (ev rfl) ⟨rfl, fun _ => rfl⟩, fun hn => fun hG => absurd ((hd.1 rfl).trans (congrArg Value.bool hG)) hn⟩
  · intro u w hR hd; exact ⟨fun hg => have hG : (decide (0 ≤ x)) = true := Value.bool.inj ((hd.2.1 rfl).symm.trans hg); runs_ld2 (ev ((hd.1 rfl) hG)) (hS.kept hR).c0 ⟨rfl, fun _ => rfl⟩, fun hn => fun hG => absurd ((hd.2.1 rfl).trans (congrArg Value.bool hG)) hn⟩
  · intro u w hR hd; exact ⟨fun hg => have hG : (decide (0 ≤ x)) = true := Value.bool.inj ((hd.1 rfl).symm.trans hg); runs_fld23_1 (ev rfl) ⟨rfl, fun _ => rfl⟩, fun hn => fun hG => absurd ((hd.1 rfl).trans (congrArg Value.bool hG)) hn⟩
  · intro u w hR hd; exact ⟨fun hg => have hG : (decide (0 ≤ x)) = true := Value.bool.inj ((hd.2.1 rfl).symm.trans hg); runs_ld2 (ev ((hd.1 rfl) hG)) (hS.kept hR).c1 ⟨rfl, fun _ => rfl⟩, fun hn => fun hG => absurd ((hd.2.1 rfl).trans (congrArg Value.bool hG)) hn⟩
  · intro u w hR hd; exact ⟨fun hg => have hG : (decide (0 ≤ x)) = true := Value.bool.inj ((hd.2.2.1 rfl).symm.trans hg); runs_leq2 (ev ((hd.1 rfl) hG)) (ev ((hd.2.1 rfl) hG)) ⟨rfl, fun _ => rfl⟩, fun hn => fun hG => absurd ((hd.2.2.1 rfl).trans (congrArg Value.bool hG)) hn⟩
  · intro u w hR hd; exact runs_an (ev (hd.1 rfl)) (fun hb => ev ((hd.2.1 rfl) hb)) ⟨rfl, rfl⟩
  · intro u w hR hd; exact runs_mv (ev (hd.1 rfl)) ⟨rfl, rfl⟩
  · intro u w hR hd; exact ⟨fun hg => have hG : ((decide (0 ≤ x)) && (decide (x ≤ y))) = true := Value.bool.inj ((hd.1 rfl).symm.trans hg); runs_fld23_1 (ev rfl) ⟨rfl, fun _ => rfl⟩, fun hn => fun hG => absurd ((hd.1 rfl).trans (congrArg Value.bool hG)) hn⟩
  · intro u w hR hd; exact ⟨fun hg => have hG : ((decide (0 ≤ x)) && (decide (x ≤ y))) = true := Value.bool.inj ((hd.2.1 rfl).symm.trans hg); runs_ld2 (ev ((hd.1 rfl) hG)) (hS.kept hR).c1 ⟨rfl, fun _ => rfl⟩, fun hn => fun hG => absurd ((hd.2.1 rfl).trans (congrArg Value.bool hG)) hn⟩
  · intro u w hR hd; exact ⟨fun hg => have hG : ((decide (0 ≤ x)) && (decide (x ≤ y))) = true := Value.bool.inj ((hd.1 rfl).symm.trans hg); runs_c0 enters_most  (callp (fun _ e _ => e) (most_any _)), fun hn => fun hG => absurd ((hd.1 rfl).trans (congrArg Value.bool hG)) hn⟩
  · intro u w hR hd; exact ⟨fun hg => have hG : ((decide (0 ≤ x)) && (decide (x ≤ y))) = true := Value.bool.inj ((hd.2.2.1 rfl).symm.trans hg); runs_leq2 (ev ((hd.1 rfl) hG)) (ev ((hd.2.1 rfl) hG)) ⟨rfl, fun _ => rfl⟩, fun hn => fun hG => absurd ((hd.2.2.1 rfl).trans (congrArg Value.bool hG)) hn⟩
  · intro u w hR hd; exact runs_an (ev (hd.1 rfl)) (fun hb => ev ((hd.2.1 rfl) hb)) ⟨rfl, rfl⟩
  · intro u w hR hd; exact runs_mva (ev (hd.1 rfl)) ⟨rfl, rfl⟩
  · intro u h
    have he : u 2 = .bool (((decide (0 ≤ x)) && (decide (x ≤ y))) && (decide (y ≤ 1099511627776))) := h 16 (by decide)
    simp only [mixA, mixL, cond_true, cond_false]
    rw [he]
    go_wp2
    go_ret
    exact ⟨ret_bool (by rw [Bool.eq_iff_iff, va_iff]; simp; omega), rfl⟩
end Go.Proofs.YtoehjejpkaffiaaDoor
