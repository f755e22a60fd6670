/-
  CONTRACTS OF LAYER 5 (interval), FURTHER: sums, differences, hulls, common parts, comparisons; the reference's too.
-/
import Derived.Test.YtoehjejpkaffiaaDoorIntervalWalks
import Derived.Deep.QuietTactic
import Derived.BigQuiet
namespace Go.Proofs.YtoehjejpkaffiaaDoor
open Go.RowKit Go.IntWalk

theorem add_yes (x y p q : Int) (h1 : va x y = true) (h2 : va p q = true) (w : World) :
    Calls Tryd.prog 10 #[iv x y, iv p q] w fun e w' => e = .returned (.tuple #[iv (cl (x + p)) (cl (y + q)), .int .i64 0]) ∧ Grew w w' := by
  have a1 := Lib.hid (va_iff.1 h1)
  have a2 := Lib.hid (va_iff.1 h2)
  go_enter Tryd.func10, Tryd.ntmps10
  go_wp2_with (go_at_call 14; (with_reducible refine (valid_any _ _ _).mono ?_); rintro e _ ⟨rfl, rfl⟩)
  generalize hW : bx (bx _ _ _) _ _ = W0
  have hA : Box w.heap.size x y W0.drew := by subst hW; exact ⟨by go_simp, by go_simp⟩
  have hB : Box (w.heap.size + 1) p q W0.drew := by subst hW; exact ⟨by go_simp, by go_simp⟩
  have hC : Box (w.heap.size + 1 + 1) 0 0 W0.drew := by subst hW; exact ⟨by go_simp, by go_simp⟩
  have hF : ∀ k, W0.drew.frozen? ⟨w.heap.size + 1 + 1, k, none⟩ = false := by intro k; subst hW; go_simp
  have hG : Grew w W0.drew := by subst hW; repeat (first | with_reducible exact Grew.refl _ | with_reducible refine Grew.alloc ?_ _ | with_reducible refine Grew.drw ?_ | with_reducible refine Grew.drwN ?_ _ | refine Grew.put2 ?_ (by omega) _ _)
  clear hW
  replace a1 := a1.out
  replace a2 := a2.out
  refine wp_still_tail 13 [some 15, some 16, some 17, some 18, some 19, some 20, some 21, some 22, some 23, some 24, some 25, some 26, some 27] [false, false, false, false, false, false, false, false, false, false, false, false, false, false, false, true, true, true, true, true, true, true, true, true, true, true, true, true] [fun v _ => v = .pointer (some ⟨w.heap.size, 0, none⟩), fun v _ => v = .int .i64 (x), fun v _ => v = .pointer (some ⟨(w.heap.size + 1), 0, none⟩), fun v _ => v = .int .i64 (p), fun v _ => v = .int .i64 (x + p), fun v _ => v = .int .i64 (cl (x + p)), fun v _ => v = .pointer (some ⟨w.heap.size, 1, none⟩), fun v _ => v = .int .i64 (y), fun v _ => v = .pointer (some ⟨(w.heap.size + 1), 1, none⟩), fun v _ => v = .int .i64 (q), fun v _ => v = .int .i64 (y + q), fun v _ => v = .int .i64 (cl (y + q)), fun v _ => v = iv (cl (x + p)) (cl (y + q))] (by kernel_rfl) (by kernel_rfl) (by kernel_rfl) rfl ⟨?_, ?_, ?_, ?_, ?_, ?_, ?_, ?_, ?_, ?_, ?_, ?_, ?_, trivial⟩ ?_
  · intro u w hR hd; exact runs_fld23_0 (ev rfl) ⟨rfl, rfl⟩
  · intro u w hR hd; exact runs_ld2 (ev (hd.1 rfl)) (hA.kept hR).c0 ⟨rfl, rfl⟩
  · intro u w hR hd; exact runs_fld23_0 (ev rfl) ⟨rfl, rfl⟩
  · intro u w hR hd; exact runs_ld2 (ev (hd.1 rfl)) (hB.kept hR).c0 ⟨rfl, rfl⟩
  · intro u w hR hd; exact runs_add2 (ev (hd.1 rfl)) (ev (hd.2.1 rfl)) (by omega) ⟨rfl, rfl⟩
  · intro u w hR hd; exact runs_c1 enters_clamp (ev (hd.1 rfl)) (callp (fun _ e => e) (clamp_any _ _))
  · intro u w hR hd; exact runs_fld23_1 (ev rfl) ⟨rfl, rfl⟩
  · intro u w hR hd; exact runs_ld2 (ev (hd.1 rfl)) (hA.kept hR).c1 ⟨rfl, rfl⟩
  · intro u w hR hd; exact runs_fld23_1 (ev rfl) ⟨rfl, rfl⟩
  · intro u w hR hd; exact runs_ld2 (ev (hd.1 rfl)) (hB.kept hR).c1 ⟨rfl, rfl⟩
  · intro u w hR hd; exact runs_add2 (ev (hd.1 rfl)) (ev (hd.2.1 rfl)) (by omega) ⟨rfl, rfl⟩
  · intro u w hR hd; exact runs_c1 enters_clamp (ev (hd.1 rfl)) (callp (fun _ e => e) (clamp_any _ _))
  · intro u w hR hd; exact runs_bld23 (ev (hd.1 rfl)) (ev (hd.2.1 rfl)) ⟨rfl, rfl⟩
  · intro uu h
    refine wpAny_one (i := 13) none (by kernel_rfl) rfl rfl rfl (runs_sto23 (ev rfl) (ev (h 12 (by decide))) hC hF ?_)
    refine wpAny_one (i := 14) (some 5) (by kernel_rfl) rfl rfl rfl (runs_mva rfl ?_)
    refine wpAny_done (by kernel_rfl) ?_ _
    have hC := hC.put2 (cl (x + p)) (cl (y + q))
    have hG := hG.put2 (S := w.heap.size + 1 + 1) (by omega) (cl (x + p)) (cl (y + q))
    generalize put2 _ _ _ _ = W1 at hC hG ⊢
    simp only [Act.put, mixA, mixL, cond_true, cond_false, List.setIfInBounds_toArray, List.set_cons_succ, List.set_cons_zero]
    go_wp2
    exact ret_iv2 Tryd.results10 rfl rfl hC ⟨rfl, hG⟩
theorem add_no (x y p q : Int) (h : (va x y && va p q) = false) (w : World) :
    Calls Tryd.prog 10 #[iv x y, iv p q] w fun e w' => e = .returned (.tuple #[iv 0 0, .int .i64 1]) ∧ Grew w w' := by
  cases h1 : va x y
  · clear h
    go_enter Tryd.func10, Tryd.ntmps10
    go_wp2_with (go_at_call 14; (with_reducible refine (valid_any _ _ _).mono ?_); rintro e _ ⟨rfl, rfl⟩)
    refine bodyPost_ret (v := .tuple #[iv 0 0, .int .i64 1]) (by simp [results, Tryd.results10, go_sem]) rfl ⟨rfl, ?_⟩
    repeat (first | with_reducible exact Grew.refl _ | with_reducible refine Grew.alloc ?_ _ | with_reducible refine Grew.drw ?_ | with_reducible refine Grew.drwN ?_ _ | refine Grew.put2 ?_ (by omega) _ _)
  · have h2 : va p q = false := by rw [h1] at h; exact h
    clear h
    go_enter Tryd.func10, Tryd.ntmps10
    go_wp2_with (go_at_call 14; (with_reducible refine (valid_any _ _ _).mono ?_); rintro e _ ⟨rfl, rfl⟩)
    refine bodyPost_ret (v := .tuple #[iv 0 0, .int .i64 1]) (by simp [results, Tryd.results10, go_sem]) rfl ⟨rfl, ?_⟩
    repeat (first | with_reducible exact Grew.refl _ | with_reducible refine Grew.alloc ?_ _ | with_reducible refine Grew.drw ?_ | with_reducible refine Grew.drwN ?_ _ | refine Grew.put2 ?_ (by omega) _ _)
theorem sub_yes (x y p q : Int) (h1 : va x y = true) (h2 : va p q = true) (w : World) :
    Calls Tryd.prog 18 #[iv x y, iv p q] w fun e w' => e = .returned (.tuple #[iv (cl (x - q)) (cl (y - p)), .int .i64 0]) ∧ Grew w w' := by
  have a1 := Lib.hid (va_iff.1 h1)
  have a2 := Lib.hid (va_iff.1 h2)
  go_enter Tryd.func18, Tryd.ntmps18
  go_wp2_with (go_at_call 14; (with_reducible refine (valid_any _ _ _).mono ?_); rintro e _ ⟨rfl, rfl⟩)
  generalize hW : bx (bx _ _ _) _ _ = W0
  have hA : Box w.heap.size x y W0.drew := by subst hW; exact ⟨by go_simp, by go_simp⟩
  have hB : Box (w.heap.size + 1) p q W0.drew := by subst hW; exact ⟨by go_simp, by go_simp⟩
  have hC : Box (w.heap.size + 1 + 1) 0 0 W0.drew := by subst hW; exact ⟨by go_simp, by go_simp⟩
  have hF : ∀ k, W0.drew.frozen? ⟨w.heap.size + 1 + 1, k, none⟩ = false := by intro k; subst hW; go_simp
  have hG : Grew w W0.drew := by subst hW; repeat (first | with_reducible exact Grew.refl _ | with_reducible refine Grew.alloc ?_ _ | with_reducible refine Grew.drw ?_ | with_reducible refine Grew.drwN ?_ _ | refine Grew.put2 ?_ (by omega) _ _)
  clear hW
  replace a1 := a1.out
  replace a2 := a2.out
  refine wp_still_tail 13 [some 15, some 16, some 17, some 18, some 19, some 20, some 21, some 22, some 23, some 24, some 25, some 26, some 27] [false, false, false, false, false, false, false, false, false, false, false, false, false, false, false, true, true, true, true, true, true, true, true, true, true, true, true, true] [fun v _ => v = .pointer (some ⟨w.heap.size, 0, none⟩), fun v _ => v = .int .i64 (x), fun v _ => v = .pointer (some ⟨(w.heap.size + 1), 1, none⟩), fun v _ => v = .int .i64 (q), fun v _ => v = .int .i64 (x - q), fun v _ => v = .int .i64 (cl (x - q)), fun v _ => v = .pointer (some ⟨w.heap.size, 1, none⟩), fun v _ => v = .int .i64 (y), fun v _ => v = .pointer (some ⟨(w.heap.size + 1), 0, none⟩), fun v _ => v = .int .i64 (p), fun v _ => v = .int .i64 (y - p), fun v _ => v = .int .i64 (cl (y - p)), fun v _ => v = iv (cl (x - q)) (cl (y - p))] (by kernel_rfl) (by kernel_rfl) (by kernel_rfl) rfl ⟨?_, ?_, ?_, ?_, ?_, ?_, ?_, ?_, ?_, ?_, ?_, ?_, ?_, trivial⟩ ?_
  · intro u w hR hd; exact runs_fld23_0 (ev rfl) ⟨rfl, rfl⟩
  · intro u w hR hd; exact runs_ld2 (ev (hd.1 rfl)) (hA.kept hR).c0 ⟨rfl, rfl⟩
  · intro u w hR hd; exact runs_fld23_1 (ev rfl) ⟨rfl, rfl⟩
  · intro u w hR hd; exact runs_ld2 (ev (hd.1 rfl)) (hB.kept hR).c1 ⟨rfl, rfl⟩
  · intro u w hR hd; exact runs_sub2 (ev (hd.1 rfl)) (ev (hd.2.1 rfl)) (by omega) ⟨rfl, rfl⟩
  · intro u w hR hd; exact runs_c1 enters_clamp (ev (hd.1 rfl)) (callp (fun _ e => e) (clamp_any _ _))
  · intro u w hR hd; exact runs_fld23_1 (ev rfl) ⟨rfl, rfl⟩
  · intro u w hR hd; exact runs_ld2 (ev (hd.1 rfl)) (hA.kept hR).c1 ⟨rfl, rfl⟩
  · intro u w hR hd; exact runs_fld23_0 (ev rfl) ⟨rfl, rfl⟩
  · intro u w hR hd; exact runs_ld2 (ev (hd.1 rfl)) (hB.kept hR).c0 ⟨rfl, rfl⟩
  · intro u w hR hd; exact runs_sub2 (ev (hd.1 rfl)) (ev (hd.2.1 rfl)) (by omega) ⟨rfl, rfl⟩
  · intro u w hR hd; exact runs_c1 enters_clamp (ev (hd.1 rfl)) (callp (fun _ e => e) (clamp_any _ _))
  · intro u w hR hd; exact runs_bld23 (ev (hd.1 rfl)) (ev (hd.2.1 rfl)) ⟨rfl, rfl⟩
  · intro uu h
    refine wpAny_one (i := 13) none (by kernel_rfl) rfl rfl rfl (runs_sto23 (ev rfl) (ev (h 12 (by decide))) hC hF ?_)
    refine wpAny_one (i := 14) (some 5) (by kernel_rfl) rfl rfl rfl (runs_mva rfl ?_)
    refine wpAny_done (by kernel_rfl) ?_ _
    have hC := hC.put2 (cl (x - q)) (cl (y - p))
    have hG := hG.put2 (S := w.heap.size + 1 + 1) (by omega) (cl (x - q)) (cl (y - p))
    generalize put2 _ _ _ _ = W1 at hC hG ⊢
    simp only [Act.put, mixA, mixL, cond_true, cond_false, List.setIfInBounds_toArray, List.set_cons_succ, List.set_cons_zero]
    go_wp2
    exact ret_iv2 Tryd.results18 rfl rfl hC ⟨rfl, hG⟩
theorem sub_no (x y p q : Int) (h : (va x y && va p q) = false) (w : World) :
    Calls Tryd.prog 18 #[iv x y, iv p q] w fun e w' => e = .returned (.tuple #[iv 0 0, .int .i64 1]) ∧ Grew w w' := by
  cases h1 : va x y
  · clear h
    go_enter Tryd.func18, Tryd.ntmps18
    go_wp2_with (go_at_call 14; (with_reducible refine (valid_any _ _ _).mono ?_); rintro e _ ⟨rfl, rfl⟩)
    refine bodyPost_ret (v := .tuple #[iv 0 0, .int .i64 1]) (by simp [results, Tryd.results18, go_sem]) rfl ⟨rfl, ?_⟩
    repeat (first | with_reducible exact Grew.refl _ | with_reducible refine Grew.alloc ?_ _ | with_reducible refine Grew.drw ?_ | with_reducible refine Grew.drwN ?_ _ | refine Grew.put2 ?_ (by omega) _ _)
  · have h2 : va p q = false := by rw [h1] at h; exact h
    clear h
    go_enter Tryd.func18, Tryd.ntmps18
    go_wp2_with (go_at_call 14; (with_reducible refine (valid_any _ _ _).mono ?_); rintro e _ ⟨rfl, rfl⟩)
    refine bodyPost_ret (v := .tuple #[iv 0 0, .int .i64 1]) (by simp [results, Tryd.results18, go_sem]) rfl ⟨rfl, ?_⟩
    repeat (first | with_reducible exact Grew.refl _ | with_reducible refine Grew.alloc ?_ _ | with_reducible refine Grew.drw ?_ | with_reducible refine Grew.drwN ?_ _ | refine Grew.put2 ?_ (by omega) _ _)
theorem radd_yes (x y p q : Int) (h1 : va x y = true) (h2 : va p q = true) (w : World) :
    Calls Tryd.prog 11 #[iv x y, iv p q] w fun e w' => e = .returned (.tuple #[iv (cl (x + p)) (cl (y + q)), .int .i64 0]) ∧ Grew w w' := by
  have a1 := Lib.hid (va_iff.1 h1)
  have a2 := Lib.hid (va_iff.1 h2)
  go_enter Tryd.func11, Tryd.ntmps11
  go_wp2_with (go_at_call 15; (with_reducible refine (rvalid_any _ _ _).mono ?_); rintro e _ ⟨rfl, rfl⟩)
  generalize hW : World.drew _ = W0
  have hA : Box w.heap.size x y W0.drew := by subst hW; exact ⟨by go_simp, by go_simp⟩
  have hB : Box (w.heap.size + 1) p q W0.drew := by subst hW; exact ⟨by go_simp, by go_simp⟩
  have hC : Box (w.heap.size + 1 + 1) 0 0 W0.drew := by subst hW; exact ⟨by go_simp, by go_simp⟩
  have hF : ∀ k, W0.drew.frozen? ⟨w.heap.size + 1 + 1, k, none⟩ = false := by intro k; subst hW; go_simp
  have hG : Grew w W0.drew := by subst hW; repeat (first | with_reducible exact Grew.refl _ | with_reducible refine Grew.alloc ?_ _ | with_reducible refine Grew.drw ?_ | with_reducible refine Grew.drwN ?_ _ | refine Grew.put2 ?_ (by omega) _ _)
  clear hW
  replace a1 := a1.out
  replace a2 := a2.out
  refine wp_still_tail 13 [some 15, some 16, some 17, some 18, some 19, some 20, some 21, some 22, some 23, some 24, some 25, some 26, some 27] [false, false, false, false, false, false, false, false, false, false, false, false, false, false, false, true, true, true, true, true, true, true, true, true, true, true, true, true] [fun v _ => v = .pointer (some ⟨w.heap.size, 0, none⟩), fun v _ => v = .int .i64 (x), fun v _ => v = .pointer (some ⟨(w.heap.size + 1), 0, none⟩), fun v _ => v = .int .i64 (p), fun v _ => v = .int .i64 (x + p), fun v _ => v = .int .i64 (cl (x + p)), fun v _ => v = .pointer (some ⟨w.heap.size, 1, none⟩), fun v _ => v = .int .i64 (y), fun v _ => v = .pointer (some ⟨(w.heap.size + 1), 1, none⟩), fun v _ => v = .int .i64 (q), fun v _ => v = .int .i64 (y + q), fun v _ => v = .int .i64 (cl (y + q)), fun v _ => v = iv (cl (x + p)) (cl (y + q))] (by kernel_rfl) (by kernel_rfl) (by kernel_rfl) rfl ⟨?_, ?_, ?_, ?_, ?_, ?_, ?_, ?_, ?_, ?_, ?_, ?_, ?_, trivial⟩ ?_
  · intro u w hR hd; exact runs_fld23_0 (ev rfl) ⟨rfl, rfl⟩
  · intro u w hR hd; exact runs_ld2 (ev (hd.1 rfl)) (hA.kept hR).c0 ⟨rfl, rfl⟩
  · intro u w hR hd; exact runs_fld23_0 (ev rfl) ⟨rfl, rfl⟩
  · intro u w hR hd; exact runs_ld2 (ev (hd.1 rfl)) (hB.kept hR).c0 ⟨rfl, rfl⟩
  · intro u w hR hd; exact runs_add2 (ev (hd.1 rfl)) (ev (hd.2.1 rfl)) (by omega) ⟨rfl, rfl⟩
  · intro u w hR hd; exact runs_c1 enters_rclamp (ev (hd.1 rfl)) (callp (fun _ e => e) (rclamp_any _ _))
  · intro u w hR hd; exact runs_fld23_1 (ev rfl) ⟨rfl, rfl⟩
  · intro u w hR hd; exact runs_ld2 (ev (hd.1 rfl)) (hA.kept hR).c1 ⟨rfl, rfl⟩
  · intro u w hR hd; exact runs_fld23_1 (ev rfl) ⟨rfl, rfl⟩
  · intro u w hR hd; exact runs_ld2 (ev (hd.1 rfl)) (hB.kept hR).c1 ⟨rfl, rfl⟩
  · intro u w hR hd; exact runs_add2 (ev (hd.1 rfl)) (ev (hd.2.1 rfl)) (by omega) ⟨rfl, rfl⟩
  · intro u w hR hd; exact runs_c1 enters_rclamp (ev (hd.1 rfl)) (callp (fun _ e => e) (rclamp_any _ _))
  · intro u w hR hd; exact runs_bld23 (ev (hd.1 rfl)) (ev (hd.2.1 rfl)) ⟨rfl, rfl⟩
  · intro uu h
    refine wpAny_one (i := 13) none (by kernel_rfl) rfl rfl rfl (runs_sto23 (ev rfl) (ev (h 12 (by decide))) hC hF ?_)
    refine wpAny_one (i := 14) (some 5) (by kernel_rfl) rfl rfl rfl (runs_mva rfl ?_)
    refine wpAny_done (by kernel_rfl) ?_ _
    have hC := hC.put2 (cl (x + p)) (cl (y + q))
    have hG := hG.put2 (S := w.heap.size + 1 + 1) (by omega) (cl (x + p)) (cl (y + q))
    generalize put2 _ _ _ _ = W1 at hC hG ⊢
    simp only [Act.put, mixA, mixL, cond_true, cond_false, List.setIfInBounds_toArray, List.set_cons_succ, List.set_cons_zero]
    go_wp2
    exact ret_iv2 Tryd.results11 rfl rfl hC ⟨rfl, hG⟩
theorem radd_no (x y p q : Int) (h : (va x y && va p q) = false) (w : World) :
    Calls Tryd.prog 11 #[iv x y, iv p q] w fun e w' => e = .returned (.tuple #[iv 0 0, .int .i64 1]) ∧ Grew w w' := by
  cases h1 : va x y
  · clear h
    go_enter Tryd.func11, Tryd.ntmps11
    go_wp2_with (go_at_call 15; (with_reducible refine (rvalid_any _ _ _).mono ?_); rintro e _ ⟨rfl, rfl⟩)
    refine bodyPost_ret (v := .tuple #[iv 0 0, .int .i64 1]) (by simp [results, Tryd.results11, go_sem]) rfl ⟨rfl, ?_⟩
    repeat (first | with_reducible exact Grew.refl _ | with_reducible refine Grew.alloc ?_ _ | with_reducible refine Grew.drw ?_ | with_reducible refine Grew.drwN ?_ _ | refine Grew.put2 ?_ (by omega) _ _)
  · have h2 : va p q = false := by rw [h1] at h; exact h
    clear h
    go_enter Tryd.func11, Tryd.ntmps11
    go_wp2_with (go_at_call 15; (with_reducible refine (rvalid_any _ _ _).mono ?_); rintro e _ ⟨rfl, rfl⟩)
    refine bodyPost_ret (v := .tuple #[iv 0 0, .int .i64 1]) (by simp [results, Tryd.results11, go_sem]) rfl ⟨rfl, ?_⟩
    repeat (first | with_reducible exact Grew.refl _ | with_reducible refine Grew.alloc ?_ _ | with_reducible refine Grew.drw ?_ | with_reducible refine Grew.drwN ?_ _ | refine Grew.put2 ?_ (by omega) _ _)
theorem rsub_yes (x y p q : Int) (h1 : va x y = true) (h2 : va p q = true) (w : World) :
    Calls Tryd.prog 19 #[iv x y, iv p q] w fun e w' => e = .returned (.tuple #[iv (cl (x - q)) (cl (y - p)), .int .i64 0]) ∧ Grew w w' := by
  have a1 := Lib.hid (va_iff.1 h1)
  have a2 := Lib.hid (va_iff.1 h2)
  go_enter Tryd.func19, Tryd.ntmps19
  go_wp2_with (go_at_call 15; (with_reducible refine (rvalid_any _ _ _).mono ?_); rintro e _ ⟨rfl, rfl⟩)
  generalize hW : World.drew _ = W0
  have hA : Box w.heap.size x y W0.drew := by subst hW; exact ⟨by go_simp, by go_simp⟩
  have hB : Box (w.heap.size + 1) p q W0.drew := by subst hW; exact ⟨by go_simp, by go_simp⟩
  have hC : Box (w.heap.size + 1 + 1) 0 0 W0.drew := by subst hW; exact ⟨by go_simp, by go_simp⟩
  have hF : ∀ k, W0.drew.frozen? ⟨w.heap.size + 1 + 1, k, none⟩ = false := by intro k; subst hW; go_simp
  have hG : Grew w W0.drew := by subst hW; repeat (first | with_reducible exact Grew.refl _ | with_reducible refine Grew.alloc ?_ _ | with_reducible refine Grew.drw ?_ | with_reducible refine Grew.drwN ?_ _ | refine Grew.put2 ?_ (by omega) _ _)
  clear hW
  replace a1 := a1.out
  replace a2 := a2.out
  refine wp_still_tail 13 [some 15, some 16, some 17, some 18, some 19, some 20, some 21, some 22, some 23, some 24, some 25, some 26, some 27] [false, false, false, false, false, false, false, false, false, false, false, false, false, false, false, true, true, true, true, true, true, true, true, true, true, true, true, true] [fun v _ => v = .pointer (some ⟨w.heap.size, 0, none⟩), fun v _ => v = .int .i64 (x), fun v _ => v = .pointer (some ⟨(w.heap.size + 1), 1, none⟩), fun v _ => v = .int .i64 (q), fun v _ => v = .int .i64 (x - q), fun v _ => v = .int .i64 (cl (x - q)), fun v _ => v = .pointer (some ⟨w.heap.size, 1, none⟩), fun v _ => v = .int .i64 (y), fun v _ => v = .pointer (some ⟨(w.heap.size + 1), 0, none⟩), fun v _ => v = .int .i64 (p), fun v _ => v = .int .i64 (y - p), fun v _ => v = .int .i64 (cl (y - p)), fun v _ => v = iv (cl (x - q)) (cl (y - p))] (by kernel_rfl) (by kernel_rfl) (by kernel_rfl) rfl ⟨?_, ?_, ?_, ?_, ?_, ?_, ?_, ?_, ?_, ?_, ?_, ?_, ?_, trivial⟩ ?_
  · intro u w hR hd; exact runs_fld23_0 (ev rfl) ⟨rfl, rfl⟩
  · intro u w hR hd; exact runs_ld2 (ev (hd.1 rfl)) (hA.kept hR).c0 ⟨rfl, rfl⟩
  · intro u w hR hd; exact runs_fld23_1 (ev rfl) ⟨rfl, rfl⟩
  · intro u w hR hd; exact runs_ld2 (ev (hd.1 rfl)) (hB.kept hR).c1 ⟨rfl, rfl⟩
  · intro u w hR hd; exact runs_sub2 (ev (hd.1 rfl)) (ev (hd.2.1 rfl)) (by omega) ⟨rfl, rfl⟩
  · intro u w hR hd; exact runs_c1 enters_rclamp (ev (hd.1 rfl)) (callp (fun _ e => e) (rclamp_any _ _))
  · intro u w hR hd; exact runs_fld23_1 (ev rfl) ⟨rfl, rfl⟩
  · intro u w hR hd; exact runs_ld2 (ev (hd.1 rfl)) (hA.kept hR).c1 ⟨rfl, rfl⟩
  · intro u w hR hd; exact runs_fld23_0 (ev rfl) ⟨rfl, rfl⟩
  · intro u w hR hd; exact runs_ld2 (ev (hd.1 rfl)) (hB.kept hR).c0 ⟨rfl, rfl⟩
  · intro u w hR hd; exact runs_sub2 (ev (hd.1 rfl)) (ev (hd.2.1 rfl)) (by omega) ⟨rfl, rfl⟩
  · intro u w hR hd; exact runs_c1 enters_rclamp (ev (hd.1 rfl)) (callp (fun _ e => e) (rclamp_any _ _))
  · intro u w hR hd; exact runs_bld23 (ev (hd.1 rfl)) (ev (hd.2.1 rfl)) ⟨rfl, rfl⟩
  · intro uu h
    refine wpAny_one (i := 13) none (by kernel_rfl) rfl rfl rfl (runs_sto23 (ev rfl) (ev (h 12 (by decide))) hC hF ?_)
    refine wpAny_one (i := 14) (some 5) (by kernel_rfl) rfl rfl rfl (runs_mva rfl ?_)
    refine wpAny_done (by kernel_rfl) ?_ _
    have hC := hC.put2 (cl (x - q)) (cl (y - p))
    have hG := hG.put2 (S := w.heap.size + 1 + 1) (by omega) (cl (x - q)) (cl (y - p))
    generalize put2 _ _ _ _ = W1 at hC hG ⊢
    simp only [Act.put, mixA, mixL, cond_true, cond_false, List.setIfInBounds_toArray, List.set_cons_succ, List.set_cons_zero]
    go_wp2
    exact ret_iv2 Tryd.results19 rfl rfl hC ⟨rfl, hG⟩
theorem rsub_no (x y p q : Int) (h : (va x y && va p q) = false) (w : World) :
    Calls Tryd.prog 19 #[iv x y, iv p q] w fun e w' => e = .returned (.tuple #[iv 0 0, .int .i64 1]) ∧ Grew w w' := by
  cases h1 : va x y
  · clear h
    go_enter Tryd.func19, Tryd.ntmps19
    go_wp2_with (go_at_call 15; (with_reducible refine (rvalid_any _ _ _).mono ?_); rintro e _ ⟨rfl, rfl⟩)
    refine bodyPost_ret (v := .tuple #[iv 0 0, .int .i64 1]) (by simp [results, Tryd.results19, go_sem]) rfl ⟨rfl, ?_⟩
    repeat (first | with_reducible exact Grew.refl _ | with_reducible refine Grew.alloc ?_ _ | with_reducible refine Grew.drw ?_ | with_reducible refine Grew.drwN ?_ _ | refine Grew.put2 ?_ (by omega) _ _)
  · have h2 : va p q = false := by rw [h1] at h; exact h
    clear h
    go_enter Tryd.func19, Tryd.ntmps19
    go_wp2_with (go_at_call 15; (with_reducible refine (rvalid_any _ _ _).mono ?_); rintro e _ ⟨rfl, rfl⟩)
    refine bodyPost_ret (v := .tuple #[iv 0 0, .int .i64 1]) (by simp [results, Tryd.results19, go_sem]) rfl ⟨rfl, ?_⟩
    repeat (first | with_reducible exact Grew.refl _ | with_reducible refine Grew.alloc ?_ _ | with_reducible refine Grew.drw ?_ | with_reducible refine Grew.drwN ?_ _ | refine Grew.put2 ?_ (by omega) _ _)
theorem hull_yes (x y p q : Int) (h1 : va x y = true) (h2 : va p q = true) (w : World) :
    Calls Tryd.prog 20 #[iv x y, iv p q] w fun e w' => e = .returned (.tuple #[iv (min x p) (max y q), .int .i64 0]) ∧ Grew w w' := by
  go_enter Tryd.func20, Tryd.ntmps20
  go_wp2_with (go_at_call 14; (with_reducible refine (valid_any _ _ _).mono ?_); rintro e _ ⟨rfl, rfl⟩)
  all_goals
    refine bodyPost_ret (v := .tuple #[iv (min x p) (max y q), .int .i64 0]) ?_ rfl ⟨rfl, ?_⟩
    · simp [results, Tryd.results20, go_sem] <;> omega
    · repeat (first | with_reducible exact Grew.refl _ | with_reducible refine Grew.alloc ?_ _ | with_reducible refine Grew.drw ?_ | with_reducible refine Grew.drwN ?_ _ | refine Grew.put2 ?_ (by omega) _ _)
theorem hull_no (x y p q : Int) (h : (va x y && va p q) = false) (w : World) :
    Calls Tryd.prog 20 #[iv x y, iv p q] w fun e w' => e = .returned (.tuple #[iv 0 0, .int .i64 1]) ∧ Grew w w' := by
  cases h1 : va x y
  · clear h
    go_enter Tryd.func20, Tryd.ntmps20
    go_wp2_with (go_at_call 14; (with_reducible refine (valid_any _ _ _).mono ?_); rintro e _ ⟨rfl, rfl⟩)
    refine bodyPost_ret (v := .tuple #[iv 0 0, .int .i64 1]) (by simp [results, Tryd.results20, go_sem]) rfl ⟨rfl, ?_⟩
    repeat (first | with_reducible exact Grew.refl _ | with_reducible refine Grew.alloc ?_ _ | with_reducible refine Grew.drw ?_ | with_reducible refine Grew.drwN ?_ _ | refine Grew.put2 ?_ (by omega) _ _)
  · have h2 : va p q = false := by rw [h1] at h; exact h
    clear h
    go_enter Tryd.func20, Tryd.ntmps20
    go_wp2_with (go_at_call 14; (with_reducible refine (valid_any _ _ _).mono ?_); rintro e _ ⟨rfl, rfl⟩)
    refine bodyPost_ret (v := .tuple #[iv 0 0, .int .i64 1]) (by simp [results, Tryd.results20, go_sem]) rfl ⟨rfl, ?_⟩
    repeat (first | with_reducible exact Grew.refl _ | with_reducible refine Grew.alloc ?_ _ | with_reducible refine Grew.drw ?_ | with_reducible refine Grew.drwN ?_ _ | refine Grew.put2 ?_ (by omega) _ _)
theorem rhull_yes (x y p q : Int) (h1 : va x y = true) (h2 : va p q = true) (w : World) :
    Calls Tryd.prog 22 #[iv x y, iv p q] w fun e w' => e = .returned (.tuple #[iv (min x p) (max y q), .int .i64 0]) ∧ Grew w w' := by
  go_enter Tryd.func22, Tryd.ntmps22
  go_wp2_with (go_at_call 15; (with_reducible refine (rvalid_any _ _ _).mono ?_); rintro e _ ⟨rfl, rfl⟩)
  all_goals
    refine bodyPost_ret (v := .tuple #[iv (min x p) (max y q), .int .i64 0]) ?_ rfl ⟨rfl, ?_⟩
    · simp [results, Tryd.results22, go_sem] <;> omega
    · repeat (first | with_reducible exact Grew.refl _ | with_reducible refine Grew.alloc ?_ _ | with_reducible refine Grew.drw ?_ | with_reducible refine Grew.drwN ?_ _ | refine Grew.put2 ?_ (by omega) _ _)
theorem rhull_no (x y p q : Int) (h : (va x y && va p q) = false) (w : World) :
    Calls Tryd.prog 22 #[iv x y, iv p q] w fun e w' => e = .returned (.tuple #[iv 0 0, .int .i64 1]) ∧ Grew w w' := by
  cases h1 : va x y
  · clear h
    go_enter Tryd.func22, Tryd.ntmps22
    go_wp2_with (go_at_call 15; (with_reducible refine (rvalid_any _ _ _).mono ?_); rintro e _ ⟨rfl, rfl⟩)
    refine bodyPost_ret (v := .tuple #[iv 0 0, .int .i64 1]) (by simp [results, Tryd.results22, go_sem]) rfl ⟨rfl, ?_⟩
    repeat (first | with_reducible exact Grew.refl _ | with_reducible refine Grew.alloc ?_ _ | with_reducible refine Grew.drw ?_ | with_reducible refine Grew.drwN ?_ _ | refine Grew.put2 ?_ (by omega) _ _)
  · have h2 : va p q = false := by rw [h1] at h; exact h
    clear h
    go_enter Tryd.func22, Tryd.ntmps22
    go_wp2_with (go_at_call 15; (with_reducible refine (rvalid_any _ _ _).mono ?_); rintro e _ ⟨rfl, rfl⟩)
    refine bodyPost_ret (v := .tuple #[iv 0 0, .int .i64 1]) (by simp [results, Tryd.results22, go_sem]) rfl ⟨rfl, ?_⟩
    repeat (first | with_reducible exact Grew.refl _ | with_reducible refine Grew.alloc ?_ _ | with_reducible refine Grew.drw ?_ | with_reducible refine Grew.drwN ?_ _ | refine Grew.put2 ?_ (by omega) _ _)
theorem meet_yes (x y p q : Int) (h1 : va x y = true) (h2 : va p q = true) (h : max x p ≤ min y q) (w : World) :
    Calls Tryd.prog 21 #[iv x y, iv p q] w fun e w' => e = .returned (.tuple #[iv (max x p) (min y q), .int .i64 0]) ∧ Grew w w' := by
  have HM := Lib.hid h
  clear h
  go_enter Tryd.func21, Tryd.ntmps21
  go_wp2_with (go_at_call 14; (with_reducible refine (valid_any _ _ _).mono ?_); rintro e _ ⟨rfl, rfl⟩)
  go_quiet (fail)
  go_wp2
  all_goals
    have hm := HM.out
    first
      | (exfalso; omega)
      | (refine bodyPost_ret (v := .tuple #[iv (max x p) (min y q), .int .i64 0]) ?_ rfl ⟨rfl, ?_⟩
         · simp [results, Tryd.results21, go_sem] <;> omega
         · repeat (first | with_reducible exact Grew.refl _ | with_reducible refine Grew.alloc ?_ _ | with_reducible refine Grew.drw ?_ | with_reducible refine Grew.drwN ?_ _ | refine Grew.put2 ?_ (by omega) _ _))
theorem meet_none (x y p q : Int) (h1 : va x y = true) (h2 : va p q = true) (h : min y q < max x p) (w : World) :
    Calls Tryd.prog 21 #[iv x y, iv p q] w fun e w' => e = .returned (.tuple #[iv 0 0, .int .i64 8]) ∧ Grew w w' := by
  have HM := Lib.hid h
  clear h
  go_enter Tryd.func21, Tryd.ntmps21
  go_wp2_with (go_at_call 14; (with_reducible refine (valid_any _ _ _).mono ?_); rintro e _ ⟨rfl, rfl⟩)
  go_quiet (fail)
  go_wp2
  all_goals
    have hm := HM.out
    first
      | (exfalso; omega)
      | (refine bodyPost_ret (v := .tuple #[iv 0 0, .int .i64 8]) ?_ rfl ⟨rfl, ?_⟩
         · simp [results, Tryd.results21, go_sem] <;> omega
         · repeat (first | with_reducible exact Grew.refl _ | with_reducible refine Grew.alloc ?_ _ | with_reducible refine Grew.drw ?_ | with_reducible refine Grew.drwN ?_ _ | refine Grew.put2 ?_ (by omega) _ _))
theorem meet_no (x y p q : Int) (h : (va x y && va p q) = false) (w : World) :
    Calls Tryd.prog 21 #[iv x y, iv p q] w fun e w' => e = .returned (.tuple #[iv 0 0, .int .i64 1]) ∧ Grew w w' := by
  cases h1 : va x y
  · clear h
    go_enter Tryd.func21, Tryd.ntmps21
    go_wp2_with (go_at_call 14; (with_reducible refine (valid_any _ _ _).mono ?_); rintro e _ ⟨rfl, rfl⟩)
    refine bodyPost_ret (v := .tuple #[iv 0 0, .int .i64 1]) (by simp [results, Tryd.results21, go_sem]) rfl ⟨rfl, ?_⟩
    repeat (first | with_reducible exact Grew.refl _ | with_reducible refine Grew.alloc ?_ _ | with_reducible refine Grew.drw ?_ | with_reducible refine Grew.drwN ?_ _ | refine Grew.put2 ?_ (by omega) _ _)
  · have h2 : va p q = false := by rw [h1] at h; exact h
    clear h
    go_enter Tryd.func21, Tryd.ntmps21
    go_wp2_with (go_at_call 14; (with_reducible refine (valid_any _ _ _).mono ?_); rintro e _ ⟨rfl, rfl⟩)
    refine bodyPost_ret (v := .tuple #[iv 0 0, .int .i64 1]) (by simp [results, Tryd.results21, go_sem]) rfl ⟨rfl, ?_⟩
    repeat (first | with_reducible exact Grew.refl _ | with_reducible refine Grew.alloc ?_ _ | with_reducible refine Grew.drw ?_ | with_reducible refine Grew.drwN ?_ _ | refine Grew.put2 ?_ (by omega) _ _)
theorem rmeet_yes (x y p q : Int) (h1 : va x y = true) (h2 : va p q = true) (h : max x p ≤ min y q) (w : World) :
    Calls Tryd.prog 23 #[iv x y, iv p q] w fun e w' => e = .returned (.tuple #[iv (max x p) (min y q), .int .i64 0]) ∧ Grew w w' := by
  have HM := Lib.hid h
  clear h
  go_enter Tryd.func23, Tryd.ntmps23
  go_wp2_with (go_at_call 15; (with_reducible refine (rvalid_any _ _ _).mono ?_); rintro e _ ⟨rfl, rfl⟩)
  all_goals
    have hm := HM.out
    first
      | (exfalso; omega)
      | (refine bodyPost_ret (v := .tuple #[iv (max x p) (min y q), .int .i64 0]) ?_ rfl ⟨rfl, ?_⟩
         · simp [results, Tryd.results23, go_sem] <;> omega
         · repeat (first | with_reducible exact Grew.refl _ | with_reducible refine Grew.alloc ?_ _ | with_reducible refine Grew.drw ?_ | with_reducible refine Grew.drwN ?_ _ | refine Grew.put2 ?_ (by omega) _ _))
theorem rmeet_none (x y p q : Int) (h1 : va x y = true) (h2 : va p q = true) (h : min y q < max x p) (w : World) :
    Calls Tryd.prog 23 #[iv x y, iv p q] w fun e w' => e = .returned (.tuple #[iv 0 0, .int .i64 8]) ∧ Grew w w' := by
  have HM := Lib.hid h
  clear h
  go_enter Tryd.func23, Tryd.ntmps23
  go_wp2_with (go_at_call 15; (with_reducible refine (rvalid_any _ _ _).mono ?_); rintro e _ ⟨rfl, rfl⟩)
  all_goals
    have hm := HM.out
    first
      | (exfalso; omega)
      | (refine bodyPost_ret (v := .tuple #[iv 0 0, .int .i64 8]) ?_ rfl ⟨rfl, ?_⟩
         · simp [results, Tryd.results23, go_sem] <;> omega
         · repeat (first | with_reducible exact Grew.refl _ | with_reducible refine Grew.alloc ?_ _ | with_reducible refine Grew.drw ?_ | with_reducible refine Grew.drwN ?_ _ | refine Grew.put2 ?_ (by omega) _ _))
theorem rmeet_no (x y p q : Int) (h : (va x y && va p q) = false) (w : World) :
    Calls Tryd.prog 23 #[iv x y, iv p q] w fun e w' => e = .returned (.tuple #[iv 0 0, .int .i64 1]) ∧ Grew w w' := by
  cases h1 : va x y
  · clear h
    go_enter Tryd.func23, Tryd.ntmps23
    go_wp2_with (go_at_call 15; (with_reducible refine (rvalid_any _ _ _).mono ?_); rintro e _ ⟨rfl, rfl⟩)
    refine bodyPost_ret (v := .tuple #[iv 0 0, .int .i64 1]) (by simp [results, Tryd.results23, go_sem]) rfl ⟨rfl, ?_⟩
    repeat (first | with_reducible exact Grew.refl _ | with_reducible refine Grew.alloc ?_ _ | with_reducible refine Grew.drw ?_ | with_reducible refine Grew.drwN ?_ _ | refine Grew.put2 ?_ (by omega) _ _)
  · have h2 : va p q = false := by rw [h1] at h; exact h
    clear h
    go_enter Tryd.func23, Tryd.ntmps23
    go_wp2_with (go_at_call 15; (with_reducible refine (rvalid_any _ _ _).mono ?_); rintro e _ ⟨rfl, rfl⟩)
    refine bodyPost_ret (v := .tuple #[iv 0 0, .int .i64 1]) (by simp [results, Tryd.results23, go_sem]) rfl ⟨rfl, ?_⟩
    repeat (first | with_reducible exact Grew.refl _ | with_reducible refine Grew.alloc ?_ _ | with_reducible refine Grew.drw ?_ | with_reducible refine Grew.drwN ?_ _ | refine Grew.put2 ?_ (by omega) _ _)
theorem before_any (x y p q : Int) (w : World) :
    Calls Tryd.prog 24 #[iv x y, iv p q] w fun e w' => e = .returned (.bool (va x y && va p q && decide (y < p))) ∧ Grew w w' := by
  cases h1 : va x y <;> cases h2 : va p q
  all_goals
    go_enter Tryd.func24, Tryd.ntmps24
    go_wp2_with (go_at_call 14; (with_reducible refine (valid_any _ _ _).mono ?_); rintro e _ ⟨rfl, rfl⟩)
  all_goals
    go_ret
    refine ⟨ret_bool (by simp), ?_⟩
    repeat (first | with_reducible exact Grew.refl _ | with_reducible refine Grew.alloc ?_ _ | with_reducible refine Grew.drw ?_ | with_reducible refine Grew.drwN ?_ _ | refine Grew.put2 ?_ (by omega) _ _)
theorem maybe_any (x y p q : Int) (w : World) :
    Calls Tryd.prog 25 #[iv x y, iv p q] w fun e w' => e = .returned (.bool (va x y && va p q && decide (x < q))) ∧ Grew w w' := by
  cases h1 : va x y <;> cases h2 : va p q
  all_goals
    go_enter Tryd.func25, Tryd.ntmps25
    go_wp2_with (go_at_call 14; (with_reducible refine (valid_any _ _ _).mono ?_); rintro e _ ⟨rfl, rfl⟩)
  all_goals
    go_ret
    refine ⟨ret_bool (by simp), ?_⟩
    repeat (first | with_reducible exact Grew.refl _ | with_reducible refine Grew.alloc ?_ _ | with_reducible refine Grew.drw ?_ | with_reducible refine Grew.drwN ?_ _ | refine Grew.put2 ?_ (by omega) _ _)
theorem has_any (x y t : Int) (w : World) :
    Calls Tryd.prog 26 #[iv x y, .int .i64 t] w fun e w' => e = .returned (.bool (va x y && decide (x ≤ t) && decide (t ≤ y))) ∧ Grew w w' := by
  cases h1 : va x y
  all_goals
    go_enter Tryd.func26, Tryd.ntmps26
    go_wp2_with (go_at_call 14; (with_reducible refine (valid_any _ _ _).mono ?_); rintro e _ ⟨rfl, rfl⟩)
  all_goals
    go_ret
    refine ⟨ret_bool (by simp [*] <;> omega), ?_⟩
    repeat (first | with_reducible exact Grew.refl _ | with_reducible refine Grew.alloc ?_ _ | with_reducible refine Grew.drw ?_ | with_reducible refine Grew.drwN ?_ _ | refine Grew.put2 ?_ (by omega) _ _)
theorem width_any (x y : Int) (w : World) :
    Calls Tryd.prog 27 #[iv x y] w fun e w' => e = .returned (.int .i64 (if va x y = true then y - x else 0)) ∧ Grew w w' := by
  cases h1 : va x y
  · go_enter Tryd.func27, Tryd.ntmps27
    go_wp2_with (go_at_call 14; (with_reducible refine (valid_any _ _ _).mono ?_); rintro e _ ⟨rfl, rfl⟩)
    go_ret
    refine ⟨rfl, ?_⟩
    repeat (first | with_reducible exact Grew.refl _ | with_reducible refine Grew.alloc ?_ _ | with_reducible refine Grew.drw ?_ | with_reducible refine Grew.drwN ?_ _ | refine Grew.put2 ?_ (by omega) _ _)
  · have hb := va_iff.1 h1
    obtain ⟨b0, b1, b2⟩ := hb
    go_enter Tryd.func27, Tryd.ntmps27
    go_wp2_with (go_at_call 14; (with_reducible refine (valid_any _ _ _).mono ?_); rintro e _ ⟨rfl, rfl⟩)
    go_ret
    refine ⟨rfl, ?_⟩
    repeat (first | with_reducible exact Grew.refl _ | with_reducible refine Grew.alloc ?_ _ | with_reducible refine Grew.drw ?_ | with_reducible refine Grew.drwN ?_ _ | refine Grew.put2 ?_ (by omega) _ _)
end Go.Proofs.YtoehjejpkaffiaaDoor
