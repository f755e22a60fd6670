/-
  CONTRACTS OF LAYER 5 (interval) AND OF ITS REFERENCE: Valid, At, Add: what each call returns, and that nothing that was there before has changed.
-/
import Derived.Test.YteeecehfbmeohaaIntervalOps
import Derived.Test.YteeecehfbmeohaaIvPlain
import Derived.Lib.Hide
import Derived.Deep.QuietTactic
import Derived.BigQuiet
namespace Go.Proofs.Yteeecehfbmeohaa
open Go.RowKit Go.IntWalk

/-- The block of an interval that is passed by value. -/
abbrev bx (w : World) (x y : Int) : World := w.alloc (.cells #[.int .i64 x, .int .i64 y] 25)
theorem bx_grew (w : World) (x y : Int) : Grew w (bx w x y) := (Grew.refl _).alloc _
theorem box_new (w : World) (x y : Int) : Box w.heap.size x y (bx w x y) := ⟨by simp, by simp⟩

theorem most_any (w : World) : Calls Try.prog 34 #[] w fun e w' => e = .returned (.int .i64 1099511627776) ∧ w' = w := by
  go_enter Try.func34, Try.ntmps34
  go_wp2
  go_ret
  exact ⟨rfl, rfl⟩
theorem clamp_any (t : Int) (w : World) : Calls Try.prog 36 #[.int .i64 t] w fun e w' => e = .returned (.int .i64 (cl t)) ∧ w' = w := by
  go_enter Try.func36, Try.ntmps36
  go_wp2
  all_goals go_ret
  all_goals exact ⟨ret_i64 (by unfold cl; omega), rfl⟩
theorem valid_any (x y : Int) (w : World) :
    Calls Try.prog 31 #[iv x y] w fun e w' => e = .returned (.bool (va x y)) ∧ w' = bx w x y := by
  go_enter Try.func31, Try.ntmps31
  go_wp2
  all_goals go_ret
  all_goals exact ⟨ret_bool (by rw [Bool.eq_iff_iff, va_iff]; simp; omega), rfl⟩
theorem rclamp_any (t : Int) (w : World) : Calls Try.prog 27 #[.int .i64 t] w fun e w' => e = .returned (.int .i64 (cl t)) ∧ w' = w := by
  go_enter Try.func27, Try.ntmps27
  go_wp2_with (go_at_call 34; (with_reducible refine (most_any _).mono ?_); rintro e _ ⟨rfl, rfl⟩)
  all_goals go_ret
  all_goals exact ⟨ret_i64 (by unfold cl; omega), rfl⟩
theorem at_any (t : Int) (w : World) : Calls Try.prog 33 #[.int .i64 t] w fun e w' => e = .returned (iv (cl t) (cl t)) ∧ w' = bx w (cl t) (cl t) := by
  go_enter Try.func33, Try.ntmps33
  go_wp2_with (go_at_call 36; (with_reducible refine (clamp_any _ _).mono ?_); rintro e _ ⟨rfl, rfl⟩)
  refine bodyPost_ret (v := iv (cl t) (cl t)) (by simp [results, Try.results33, go_sem]) rfl ⟨rfl, ?_⟩
  rfl

theorem enters_most : Enters Try.prog 34 := fun args w => by go_simp
theorem enters_clamp : Enters Try.prog 36 := fun args w => by go_simp
theorem enters_rclamp : Enters Try.prog 27 := fun args w => by go_simp
theorem rvalid_any (x y : Int) (w : World) :
    Calls Try.prog 24 #[iv x y] w fun e w' => e = .returned (.bool (va x y)) ∧ w' = (bx w x y).drew := by
  have hS : Box w.heap.size x y (bx w x y).drew := (box_new w x y).grew (Grew.refl _).drw
  go_enter Try.func24, Try.ntmps24
  go_wp2
  refine wp_still [some 3, some 4, some 5, some 6, some 7, some 8, some 9, some 10, some 11, some 12, some 13, some 14, some 15, some 16, some 17, some 18, some 2] [false, false, true, true, true, true, true, true, true, true, true, true, true, true, true, true, true, true, true] [fun v _ => v = .pointer (some ⟨w.heap.size, 0, none⟩), fun v _ => v = .int .i64 (x), fun v _ => v = .bool (decide (0 ≤ x)), fun v _ => v = .bool (decide (0 ≤ x)), fun v _ => (decide (0 ≤ x)) = true → v = .pointer (some ⟨w.heap.size, 0, none⟩), fun v _ => (decide (0 ≤ x)) = true → v = .int .i64 (x), fun v _ => (decide (0 ≤ x)) = true → v = .pointer (some ⟨w.heap.size, 1, none⟩), fun v _ => (decide (0 ≤ x)) = true → v = .int .i64 (y), fun v _ => (decide (0 ≤ x)) = true → v = .bool (decide (x ≤ y)), fun v _ => v = .bool ((decide (0 ≤ x)) && (decide (x ≤ y))), fun v _ => v = .bool ((decide (0 ≤ x)) && (decide (x ≤ y))), fun v _ => ((decide (0 ≤ x)) && (decide (x ≤ y))) = true → v = .pointer (some ⟨w.heap.size, 1, none⟩), fun v _ => ((decide (0 ≤ x)) && (decide (x ≤ y))) = true → v = .int .i64 (y), fun v _ => ((decide (0 ≤ x)) && (decide (x ≤ y))) = true → v = .int .i64 (1099511627776), fun v _ => ((decide (0 ≤ x)) && (decide (x ≤ y))) = true → v = .bool (decide (y ≤ 1099511627776)), fun v _ => v = .bool (((decide (0 ≤ x)) && (decide (x ≤ y))) && (decide (y ≤ 1099511627776))), fun v _ => v = .bool (((decide (0 ≤ x)) && (decide (x ≤ y))) && (decide (y ≤ 1099511627776)))] (by kernel_rfl) (by kernel_rfl) rfl ⟨?_, ?_, ?_, ?_, ?_, ?_, ?_, ?_, ?_, ?_, ?_, ?_, ?_, ?_, ?_, ?_, ?_, trivial⟩ ?_
  · intro u w hR hd; exact runs_fld25_0 (ev rfl) ⟨rfl, rfl⟩
  · intro u w hR hd; exact runs_ld2 (ev (hd.1 rfl)) (hS.kept hR).c0 ⟨rfl, rfl⟩
  · intro u w hR hd; exact runs_geq2 (ev (hd.1 rfl)) rfl ⟨rfl, rfl⟩
  · intro u w hR hd; exact runs_mv (ev (hd.1 rfl)) ⟨rfl, rfl⟩
  · intro u w hR hd; exact ⟨fun hg => have hG : (decide (0 ≤ x)) = true := Value.bool.inj ((hd.1 rfl).symm.trans hg); runs_fld25_0 (ev rfl) ⟨rfl, fun _ => rfl⟩, fun hn => fun hG => absurd ((hd.1 rfl).trans (congrArg Value.bool hG)) hn⟩
  · intro u w hR hd; exact ⟨fun hg => have hG : (decide (0 ≤ x)) = true := Value.bool.inj ((hd.2.1 rfl).symm.trans hg); runs_ld2 (ev ((hd.1 rfl) hG)) (hS.kept hR).c0 ⟨rfl, fun _ => rfl⟩, fun hn => fun hG => absurd ((hd.2.1 rfl).trans (congrArg Value.bool hG)) hn⟩
  · intro u w hR hd; exact ⟨fun hg => have hG : (decide (0 ≤ x)) = true := Value.bool.inj ((hd.1 rfl).symm.trans hg); runs_fld25_1 (ev rfl) ⟨rfl, fun _ => rfl⟩, fun hn => fun hG => absurd ((hd.1 rfl).trans (congrArg Value.bool hG)) hn⟩
  · intro u w hR hd; exact ⟨fun hg => have hG : (decide (0 ≤ x)) = true := Value.bool.inj ((hd.2.1 rfl).symm.trans hg); runs_ld2 (ev ((hd.1 rfl) hG)) (hS.kept hR).c1 ⟨rfl, fun _ => rfl⟩, fun hn => fun hG => absurd ((hd.2.1 rfl).trans (congrArg Value.bool hG)) hn⟩
  · intro u w hR hd; exact ⟨fun hg => have hG : (decide (0 ≤ x)) = true := Value.bool.inj ((hd.2.2.1 rfl).symm.trans hg); runs_leq2 (ev ((hd.1 rfl) hG)) (ev ((hd.2.1 rfl) hG)) ⟨rfl, fun _ => rfl⟩, fun hn => fun hG => absurd ((hd.2.2.1 rfl).trans (congrArg Value.bool hG)) hn⟩
  · intro u w hR hd; exact runs_an (ev (hd.1 rfl)) (fun hb => ev ((hd.2.1 rfl) hb)) ⟨rfl, rfl⟩
  · intro u w hR hd; exact runs_mv (ev (hd.1 rfl)) ⟨rfl, rfl⟩
  · intro u w hR hd; exact ⟨fun hg => have hG : ((decide (0 ≤ x)) && (decide (x ≤ y))) = true := Value.bool.inj ((hd.1 rfl).symm.trans hg); runs_fld25_1 (ev rfl) ⟨rfl, fun _ => rfl⟩, fun hn => fun hG => absurd ((hd.1 rfl).trans (congrArg Value.bool hG)) hn⟩
  · intro u w hR hd; exact ⟨fun hg => have hG : ((decide (0 ≤ x)) && (decide (x ≤ y))) = true := Value.bool.inj ((hd.2.1 rfl).symm.trans hg); runs_ld2 (ev ((hd.1 rfl) hG)) (hS.kept hR).c1 ⟨rfl, fun _ => rfl⟩, fun hn => fun hG => absurd ((hd.2.1 rfl).trans (congrArg Value.bool hG)) hn⟩
  · intro u w hR hd; exact ⟨fun hg => have hG : ((decide (0 ≤ x)) && (decide (x ≤ y))) = true := Value.bool.inj ((hd.1 rfl).symm.trans hg); runs_c0 enters_most  (callp (fun _ e _ => e) (most_any _)), fun hn => fun hG => absurd ((hd.1 rfl).trans (congrArg Value.bool hG)) hn⟩
  · intro u w hR hd; exact ⟨fun hg => have hG : ((decide (0 ≤ x)) && (decide (x ≤ y))) = true := Value.bool.inj ((hd.2.2.1 rfl).symm.trans hg); runs_leq2 (ev ((hd.1 rfl) hG)) (ev ((hd.2.1 rfl) hG)) ⟨rfl, fun _ => rfl⟩, fun hn => fun hG => absurd ((hd.2.2.1 rfl).trans (congrArg Value.bool hG)) hn⟩
  · intro u w hR hd; exact runs_an (ev (hd.1 rfl)) (fun hb => ev ((hd.2.1 rfl) hb)) ⟨rfl, rfl⟩
  · intro u w hR hd; exact runs_mva (ev (hd.1 rfl)) ⟨rfl, rfl⟩
  · intro u h
    have he : u 2 = .bool (((decide (0 ≤ x)) && (decide (x ≤ y))) && (decide (y ≤ 1099511627776))) := h 16 (by decide)
    simp only [mixA, mixL, cond_true, cond_false]
    rw [he]
    go_wp2
    go_ret
    exact ⟨ret_bool (by rw [Bool.eq_iff_iff, va_iff]; simp; omega), rfl⟩
theorem add_yes (x y p q : Int) (h1 : va x y = true) (h2 : va p q = true) (w : World) :
    Calls Try.prog 32 #[iv x y, iv p q] w fun e w' => e = .returned (.tuple #[iv (cl (x + p)) (cl (y + q)), .int .i64 0]) ∧ Grew w w' := by
  have a1 := Lib.hid (va_iff.1 h1)
  have a2 := Lib.hid (va_iff.1 h2)
  go_enter Try.func32, Try.ntmps32
  go_wp2_with (go_at_call 31; (with_reducible refine (valid_any _ _ _).mono ?_); rintro e _ ⟨rfl, rfl⟩)
  generalize hW : bx (bx _ _ _) _ _ = W0
  have hA : Box w.heap.size x y W0.drew := by subst hW; exact ⟨by go_simp, by go_simp⟩
  have hB : Box (w.heap.size + 1) p q W0.drew := by subst hW; exact ⟨by go_simp, by go_simp⟩
  have hC : Box (w.heap.size + 1 + 1) 0 0 W0.drew := by subst hW; exact ⟨by go_simp, by go_simp⟩
  have hF : ∀ k, W0.drew.frozen? ⟨w.heap.size + 1 + 1, k, none⟩ = false := by intro k; subst hW; go_simp
  have hG : Grew w W0.drew := by subst hW; repeat (first | with_reducible exact Grew.refl _ | with_reducible refine Grew.alloc ?_ _ | with_reducible refine Grew.drw ?_ | with_reducible refine Grew.drwN ?_ _ | refine Grew.put2 ?_ (by omega) _ _)
  clear hW
  replace a1 := a1.out
  replace a2 := a2.out
  refine wp_still_tail 13 [some 15, some 16, some 17, some 18, some 19, some 20, some 21, some 22, some 23, some 24, some 25, some 26, some 27] [false, false, false, false, false, false, false, false, false, false, false, false, false, false, false, true, true, true, true, true, true, true, true, true, true, true, true, true] [fun v _ => v = .pointer (some ⟨w.heap.size, 0, none⟩), fun v _ => v = .int .i64 (x), fun v _ => v = .pointer (some ⟨(w.heap.size + 1), 0, none⟩), fun v _ => v = .int .i64 (p), fun v _ => v = .int .i64 (x + p), fun v _ => v = .int .i64 (cl (x + p)), fun v _ => v = .pointer (some ⟨w.heap.size, 1, none⟩), fun v _ => v = .int .i64 (y), fun v _ => v = .pointer (some ⟨(w.heap.size + 1), 1, none⟩), fun v _ => v = .int .i64 (q), fun v _ => v = .int .i64 (y + q), fun v _ => v = .int .i64 (cl (y + q)), fun v _ => v = iv (cl (x + p)) (cl (y + q))] (by kernel_rfl) (by kernel_rfl) (by kernel_rfl) rfl ⟨?_, ?_, ?_, ?_, ?_, ?_, ?_, ?_, ?_, ?_, ?_, ?_, ?_, trivial⟩ ?_
  · intro u w hR hd; exact runs_fld25_0 (ev rfl) ⟨rfl, rfl⟩
  · intro u w hR hd; exact runs_ld2 (ev (hd.1 rfl)) (hA.kept hR).c0 ⟨rfl, rfl⟩
  · intro u w hR hd; exact runs_fld25_0 (ev rfl) ⟨rfl, rfl⟩
  · intro u w hR hd; exact runs_ld2 (ev (hd.1 rfl)) (hB.kept hR).c0 ⟨rfl, rfl⟩
  · intro u w hR hd; exact runs_add2 (ev (hd.1 rfl)) (ev (hd.2.1 rfl)) (by omega) ⟨rfl, rfl⟩
  · intro u w hR hd; exact runs_c1 enters_clamp (ev (hd.1 rfl)) (callp (fun _ e => e) (clamp_any _ _))
  · intro u w hR hd; exact runs_fld25_1 (ev rfl) ⟨rfl, rfl⟩
  · intro u w hR hd; exact runs_ld2 (ev (hd.1 rfl)) (hA.kept hR).c1 ⟨rfl, rfl⟩
  · intro u w hR hd; exact runs_fld25_1 (ev rfl) ⟨rfl, rfl⟩
  · intro u w hR hd; exact runs_ld2 (ev (hd.1 rfl)) (hB.kept hR).c1 ⟨rfl, rfl⟩
  · intro u w hR hd; exact runs_add2 (ev (hd.1 rfl)) (ev (hd.2.1 rfl)) (by omega) ⟨rfl, rfl⟩
  · intro u w hR hd; exact runs_c1 enters_clamp (ev (hd.1 rfl)) (callp (fun _ e => e) (clamp_any _ _))
  · intro u w hR hd; exact runs_bld25 (ev (hd.1 rfl)) (ev (hd.2.1 rfl)) ⟨rfl, rfl⟩
  · intro uu h
    refine wpAny_one (i := 13) none (by kernel_rfl) rfl rfl rfl (runs_sto25 (ev rfl) (ev (h 12 (by decide))) hC hF ?_)
    refine wpAny_one (i := 14) (some 5) (by kernel_rfl) rfl rfl rfl (runs_mva rfl ?_)
    refine wpAny_done (by kernel_rfl) ?_ _
    have hC := hC.put2 (cl (x + p)) (cl (y + q))
    have hG := hG.put2 (S := w.heap.size + 1 + 1) (by omega) (cl (x + p)) (cl (y + q))
    generalize put2 _ _ _ _ = W1 at hC hG ⊢
    simp only [Act.put, mixA, mixL, cond_true, cond_false, List.setIfInBounds_toArray, List.set_cons_succ, List.set_cons_zero]
    go_wp2
    exact ret_iv2 Try.results32 rfl rfl hC ⟨rfl, hG⟩
theorem add_no (x y p q : Int) (h : (va x y && va p q) = false) (w : World) :
    Calls Try.prog 32 #[iv x y, iv p q] w fun e w' => e = .returned (.tuple #[iv 0 0, .int .i64 1]) ∧ Grew w w' := by
  cases h1 : va x y
  · clear h
    go_enter Try.func32, Try.ntmps32
    go_wp2_with (go_at_call 31; (with_reducible refine (valid_any _ _ _).mono ?_); rintro e _ ⟨rfl, rfl⟩)
    refine bodyPost_ret (v := .tuple #[iv 0 0, .int .i64 1]) (by simp [results, Try.results32, go_sem]) rfl ⟨rfl, ?_⟩
    repeat (first | with_reducible exact Grew.refl _ | with_reducible refine Grew.alloc ?_ _ | with_reducible refine Grew.drw ?_ | with_reducible refine Grew.drwN ?_ _ | refine Grew.put2 ?_ (by omega) _ _)
  · have h2 : va p q = false := by rw [h1] at h; exact h
    clear h
    go_enter Try.func32, Try.ntmps32
    go_wp2_with (go_at_call 31; (with_reducible refine (valid_any _ _ _).mono ?_); rintro e _ ⟨rfl, rfl⟩)
    refine bodyPost_ret (v := .tuple #[iv 0 0, .int .i64 1]) (by simp [results, Try.results32, go_sem]) rfl ⟨rfl, ?_⟩
    repeat (first | with_reducible exact Grew.refl _ | with_reducible refine Grew.alloc ?_ _ | with_reducible refine Grew.drw ?_ | with_reducible refine Grew.drwN ?_ _ | refine Grew.put2 ?_ (by omega) _ _)
theorem radd_yes (x y p q : Int) (h1 : va x y = true) (h2 : va p q = true) (w : World) :
    Calls Try.prog 35 #[iv x y, iv p q] w fun e w' => e = .returned (.tuple #[iv (cl (x + p)) (cl (y + q)), .int .i64 0]) ∧ Grew w w' := by
  have a1 := Lib.hid (va_iff.1 h1)
  have a2 := Lib.hid (va_iff.1 h2)
  go_enter Try.func35, Try.ntmps35
  go_wp2_with (go_at_call 24; (with_reducible refine (rvalid_any _ _ _).mono ?_); rintro e _ ⟨rfl, rfl⟩)
  generalize hW : World.drew _ = W0
  have hA : Box w.heap.size x y W0.drew := by subst hW; exact ⟨by go_simp, by go_simp⟩
  have hB : Box (w.heap.size + 1) p q W0.drew := by subst hW; exact ⟨by go_simp, by go_simp⟩
  have hC : Box (w.heap.size + 1 + 1) 0 0 W0.drew := by subst hW; exact ⟨by go_simp, by go_simp⟩
  have hF : ∀ k, W0.drew.frozen? ⟨w.heap.size + 1 + 1, k, none⟩ = false := by intro k; subst hW; go_simp
  have hG : Grew w W0.drew := by subst hW; repeat (first | with_reducible exact Grew.refl _ | with_reducible refine Grew.alloc ?_ _ | with_reducible refine Grew.drw ?_ | with_reducible refine Grew.drwN ?_ _ | refine Grew.put2 ?_ (by omega) _ _)
  clear hW
  replace a1 := a1.out
  replace a2 := a2.out
  refine wp_still_tail 13 [some 15, some 16, some 17, some 18, some 19, some 20, some 21, some 22, some 23, some 24, some 25, some 26, some 27] [false, false, false, false, false, false, false, false, false, false, false, false, false, false, false, true, true, true, true, true, true, true, true, true, true, true, true, true] [fun v _ => v = .pointer (some ⟨w.heap.size, 0, none⟩), fun v _ => v = .int .i64 (x), fun v _ => v = .pointer (some ⟨(w.heap.size + 1), 0, none⟩), fun v _ => v = .int .i64 (p), fun v _ => v = .int .i64 (x + p), fun v _ => v = .int .i64 (cl (x + p)), fun v _ => v = .pointer (some ⟨w.heap.size, 1, none⟩), fun v _ => v = .int .i64 (y), fun v _ => v = .pointer (some ⟨(w.heap.size + 1), 1, none⟩), fun v _ => v = .int .i64 (q), fun v _ => v = .int .i64 (y + q), fun v _ => v = .int .i64 (cl (y + q)), fun v _ => v = iv (cl (x + p)) (cl (y + q))] (by kernel_rfl) (by kernel_rfl) (by kernel_rfl) rfl ⟨?_, ?_, ?_, ?_, ?_, ?_, ?_, ?_, ?_, ?_, ?_, ?_, ?_, trivial⟩ ?_
  · intro u w hR hd; exact runs_fld25_0 (ev rfl) ⟨rfl, rfl⟩
  · intro u w hR hd; exact runs_ld2 (ev (hd.1 rfl)) (hA.kept hR).c0 ⟨rfl, rfl⟩
  · intro u w hR hd; exact runs_fld25_0 (ev rfl) ⟨rfl, rfl⟩
  · intro u w hR hd; exact runs_ld2 (ev (hd.1 rfl)) (hB.kept hR).c0 ⟨rfl, rfl⟩
  · intro u w hR hd; exact runs_add2 (ev (hd.1 rfl)) (ev (hd.2.1 rfl)) (by omega) ⟨rfl, rfl⟩
  · intro u w hR hd; exact runs_c1 enters_rclamp (ev (hd.1 rfl)) (callp (fun _ e => e) (rclamp_any _ _))
  · intro u w hR hd; exact runs_fld25_1 (ev rfl) ⟨rfl, rfl⟩
  · intro u w hR hd; exact runs_ld2 (ev (hd.1 rfl)) (hA.kept hR).c1 ⟨rfl, rfl⟩
  · intro u w hR hd; exact runs_fld25_1 (ev rfl) ⟨rfl, rfl⟩
  · intro u w hR hd; exact runs_ld2 (ev (hd.1 rfl)) (hB.kept hR).c1 ⟨rfl, rfl⟩
  · intro u w hR hd; exact runs_add2 (ev (hd.1 rfl)) (ev (hd.2.1 rfl)) (by omega) ⟨rfl, rfl⟩
  · intro u w hR hd; exact runs_c1 enters_rclamp (ev (hd.1 rfl)) (callp (fun _ e => e) (rclamp_any _ _))
  · intro u w hR hd; exact runs_bld25 (ev (hd.1 rfl)) (ev (hd.2.1 rfl)) ⟨rfl, rfl⟩
  · intro uu h
    refine wpAny_one (i := 13) none (by kernel_rfl) rfl rfl rfl (runs_sto25 (ev rfl) (ev (h 12 (by decide))) hC hF ?_)
    refine wpAny_one (i := 14) (some 5) (by kernel_rfl) rfl rfl rfl (runs_mva rfl ?_)
    refine wpAny_done (by kernel_rfl) ?_ _
    have hC := hC.put2 (cl (x + p)) (cl (y + q))
    have hG := hG.put2 (S := w.heap.size + 1 + 1) (by omega) (cl (x + p)) (cl (y + q))
    generalize put2 _ _ _ _ = W1 at hC hG ⊢
    simp only [Act.put, mixA, mixL, cond_true, cond_false, List.setIfInBounds_toArray, List.set_cons_succ, List.set_cons_zero]
    go_wp2
    exact ret_iv2 Try.results35 rfl rfl hC ⟨rfl, hG⟩
theorem radd_no (x y p q : Int) (h : (va x y && va p q) = false) (w : World) :
    Calls Try.prog 35 #[iv x y, iv p q] w fun e w' => e = .returned (.tuple #[iv 0 0, .int .i64 1]) ∧ Grew w w' := by
  cases h1 : va x y
  · clear h
    go_enter Try.func35, Try.ntmps35
    go_wp2_with (go_at_call 24; (with_reducible refine (rvalid_any _ _ _).mono ?_); rintro e _ ⟨rfl, rfl⟩)
    refine bodyPost_ret (v := .tuple #[iv 0 0, .int .i64 1]) (by simp [results, Try.results35, go_sem]) rfl ⟨rfl, ?_⟩
    repeat (first | with_reducible exact Grew.refl _ | with_reducible refine Grew.alloc ?_ _ | with_reducible refine Grew.drw ?_ | with_reducible refine Grew.drwN ?_ _ | refine Grew.put2 ?_ (by omega) _ _)
  · have h2 : va p q = false := by rw [h1] at h; exact h
    clear h
    go_enter Try.func35, Try.ntmps35
    go_wp2_with (go_at_call 24; (with_reducible refine (rvalid_any _ _ _).mono ?_); rintro e _ ⟨rfl, rfl⟩)
    refine bodyPost_ret (v := .tuple #[iv 0 0, .int .i64 1]) (by simp [results, Try.results35, go_sem]) rfl ⟨rfl, ?_⟩
    repeat (first | with_reducible exact Grew.refl _ | with_reducible refine Grew.alloc ?_ _ | with_reducible refine Grew.drw ?_ | with_reducible refine Grew.drwN ?_ _ | refine Grew.put2 ?_ (by omega) _ _)
/-- The bounds of a sum, and its error. -/
def ad (x y p q : Int) : Int × Int := if va x y && va p q then (cl (x + p), cl (y + q)) else (0, 0)
def ade (x y p q : Int) : Int := if va x y && va p q then 0 else 1
theorem add_any (x y p q : Int) (w : World) : Calls Try.prog 32 #[iv x y, iv p q] w fun e w' => e = .returned (.tuple #[iv (ad x y p q).1 (ad x y p q).2, .int .i64 (ade x y p q)]) ∧ Grew w w' := by
  unfold ad ade
  cases h : va x y && va p q
  · exact add_no x y p q h w
  · obtain ⟨h1, h2⟩ := Bool.and_eq_true_iff.1 h
    exact add_yes x y p q h1 h2 w
theorem radd_any (x y p q : Int) (w : World) : Calls Try.prog 35 #[iv x y, iv p q] w fun e w' => e = .returned (.tuple #[iv (ad x y p q).1 (ad x y p q).2, .int .i64 (ade x y p q)]) ∧ Grew w w' := by
  unfold ad ade
  cases h : va x y && va p q
  · exact radd_no x y p q h w
  · obtain ⟨h1, h2⟩ := Bool.and_eq_true_iff.1 h
    exact radd_yes x y p q h1 h2 w
end Go.Proofs.Yteeecehfbmeohaa
