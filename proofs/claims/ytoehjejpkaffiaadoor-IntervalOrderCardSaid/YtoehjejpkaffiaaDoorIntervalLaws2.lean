/-
  THE STATEMENTS OF LAYER 5 (interval) ON ORDER, TEXTS AND POINTS, WALKED: each returns true, and nothing that was there before has changed.
-/
import Derived.Test.YtoehjejpkaffiaaDoorIntervalLaws
namespace Go.Proofs.YtoehjejpkaffiaaDoor
open Go.RowKit Go.IntWalk

set_option maxRecDepth 20000 in
set_option maxHeartbeats 2000000 in
theorem order_walk (x y p q t : Int) (w : World) (he : Env w) : Calls Tryd.prog 6 #[iv x y, iv p q, .int .i64 t] w fun e w' => e = .returned (.bool true) ∧ Grew w w' := by
  have HE := Lib.hid he
  clear he
  obtain ⟨b1, h1⟩ : ∃ b1, va x y = b1 := ⟨_, rfl⟩
  obtain ⟨b2, h2⟩ : ∃ b2, va p q = b2 := ⟨_, rfl⟩
  have HV := Lib.hid (fun (e : b1 = true) => va_iff.1 (h1.trans e))
  have tk0 := Lib.hid trivial
  have tk1 := Lib.hid trivial
  have tk2 := Lib.hid trivial
  have tk3 := Lib.hid trivial
  have tk4 := Lib.hid trivial
  go_enter Tryd.func6, Tryd.ntmps6
  go_wp2
  generalize hW : World.alloc (World.alloc _ _) _ = V
  have ba : Box w.heap.size x y V.drew := by subst hW; exact ⟨by go_simp, by go_simp⟩
  have bb : Box (w.heap.size + 1) p q V.drew := by subst hW; exact ⟨by go_simp, by go_simp⟩
  have hG : Grew w V.drew := by subst hW; exact (((Grew.refl _).alloc _).alloc _).drw
  clear hW
  refine wp_posts [some 10, some 11, some 12, some 13, some 7, some 8] [false, false, false, false, false, false, false, true, true, false, true, true, true, true, false, false, false, false, false, false, false, false, false, false, false, false, false, false, false, false, false, false, false, false, false, false, false, false, false, false, false, false, false, false, false, false, false, false, false, false, false, false, false, false, false, false, false, false, false, false, false, false, false, false, false, false, false, false, false, false, false, false, false, false, false, false, false, false, false, false] [fun v _ => v = iv (x) (y), fun v _ => v = .bool (va x y), fun v _ => v = iv (p) (q), fun v _ => v = .bool (va p q), fun v _ => v = .bool (va x y), fun v _ => v = .bool (va p q)] (by kernel_rfl) (by kernel_rfl) rfl ?_ ⟨?_, ?_, ?_, ?_, ?_, ?_, trivial⟩ ?_
  · exact ⟨fun _ _ _ _ h => h, fun _ _ _ _ h => h, fun _ _ _ _ h => h, fun _ _ _ _ h => h, fun _ _ _ _ h => h, fun _ _ _ _ h => h, trivial⟩
  · intro u w hR hd; exact runs_box23 (ev rfl) (ba.kept hR) ⟨Grew.refl _, rfl⟩
  · intro u w hR hd; exact runs_c1 enters_rvalid (ev (hd.1 rfl)) (callp (fun _ e => e) (rvalid_g _ _ _))
  · intro u w hR hd; exact runs_box23 (ev rfl) (bb.kept hR) ⟨Grew.refl _, rfl⟩
  · intro u w hR hd; exact runs_c1 enters_rvalid (ev (hd.1 rfl)) (callp (fun _ e => e) (rvalid_g _ _ _))
  · intro u w hR hd; exact runs_mva (ev (hd.1 rfl)) ⟨Grew.refl _, rfl⟩
  · intro u w hR hd; exact runs_mva (ev (hd.1 rfl)) ⟨Grew.refl _, rfl⟩
  · intro u w1 hR h
    have e7 : u 7 = .bool b1 := (h 4 (by decide)).trans (congrArg Value.bool h1)
    have e8 : u 8 = .bool b2 := (h 5 (by decide)).trans (congrArg Value.bool h2)
    simp only [mixA, mixL, cond_true, cond_false]
    rw [e7, e8]
    clear e7 e8 h
    have hg := Lib.hid (hG.trans hR)
    replace ba := ba.grew hR
    replace bb := bb.grew hR
    clear hR hG
    have ba0 := ba.c0
    have ba1 := ba.c1
    have bal : w.heap.size < w1.heap.size := World.block_lt_of_cell? _ _ ba0
    have bb0 := bb.c0
    have bb1 := bb.c1
    have bbl : w.heap.size + 1 < w1.heap.size := World.block_lt_of_cell? _ _ bb0
    cases b1
    · cases b2
      all_goals
        go_wp2_with (first
          | (go_at_call 13; clear tk0; (with_reducible refine (examples_any _ (HE.out.grew hg.out)).mono ?_); rintro e w2 ⟨rfl, hg1⟩; clear ba0 ba1 bal; clear bb0 bb1 bbl; replace ba := ba.grew hg1; replace bb := bb.grew hg1; replace hg := Lib.hid (hg.out.trans hg1); clear hg1; have ba0 := ba.c0; have ba1 := ba.c1; have bal : w.heap.size < w2.heap.size := World.block_lt_of_cell? _ _ ba0; have bb0 := bb.c0; have bb1 := bb.c1; have bbl : w.heap.size + 1 < w2.heap.size := World.block_lt_of_cell? _ _ bb0)
          | (go_at_call 24; clear tk1; (with_reducible refine (before_any _ _ _ _ _).mono ?_); rintro e w3 ⟨rfl, hg1⟩; clear ba0 ba1 bal; clear bb0 bb1 bbl; replace ba := ba.grew hg1; replace bb := bb.grew hg1; replace hg := Lib.hid (hg.out.trans hg1); clear hg1; have ba0 := ba.c0; have ba1 := ba.c1; have bal : w.heap.size < w3.heap.size := World.block_lt_of_cell? _ _ ba0; have bb0 := bb.c0; have bb1 := bb.c1; have bbl : w.heap.size + 1 < w3.heap.size := World.block_lt_of_cell? _ _ bb0)
          | (go_at_call 25; clear tk2; (with_reducible refine (maybe_any _ _ _ _ _).mono ?_); rintro e w4 ⟨rfl, hg1⟩; clear ba0 ba1 bal; clear bb0 bb1 bbl; replace ba := ba.grew hg1; replace bb := bb.grew hg1; replace hg := Lib.hid (hg.out.trans hg1); clear hg1; have ba0 := ba.c0; have ba1 := ba.c1; have bal : w.heap.size < w4.heap.size := World.block_lt_of_cell? _ _ ba0; have bb0 := bb.c0; have bb1 := bb.c1; have bbl : w.heap.size + 1 < w4.heap.size := World.block_lt_of_cell? _ _ bb0)
          | (go_at_call 26; clear tk3; (with_reducible refine (has_any _ _ _ _).mono ?_); rintro e w5 ⟨rfl, hg1⟩; clear ba0 ba1 bal; clear bb0 bb1 bbl; replace ba := ba.grew hg1; replace bb := bb.grew hg1; replace hg := Lib.hid (hg.out.trans hg1); clear hg1; have ba0 := ba.c0; have ba1 := ba.c1; have bal : w.heap.size < w5.heap.size := World.block_lt_of_cell? _ _ ba0; have bb0 := bb.c0; have bb1 := bb.c1; have bbl : w.heap.size + 1 < w5.heap.size := World.block_lt_of_cell? _ _ bb0)
          | (go_at_call 27; clear tk4; (with_reducible refine (width_any _ _ _).mono ?_); rintro e w6 ⟨rfl, hg1⟩; clear ba0 ba1 bal; clear bb0 bb1 bbl; replace ba := ba.grew hg1; replace bb := bb.grew hg1; replace hg := Lib.hid (hg.out.trans hg1); clear hg1; have ba0 := ba.c0; have ba1 := ba.c1; have bal : w.heap.size < w6.heap.size := World.block_lt_of_cell? _ _ ba0; have bb0 := bb.c0; have bb1 := bb.c1; have bbl : w.heap.size + 1 < w6.heap.size := World.block_lt_of_cell? _ _ bb0))
        go_ret
        exact ⟨rfl, hg.out⟩
    · obtain ⟨v0, v1, v2⟩ := HV.out rfl
      cases b2
      all_goals
        go_wp2_with (first
          | (go_at_call 13; clear tk0; (with_reducible refine (examples_any _ (HE.out.grew hg.out)).mono ?_); rintro e w2 ⟨rfl, hg1⟩; clear ba0 ba1 bal; clear bb0 bb1 bbl; replace ba := ba.grew hg1; replace bb := bb.grew hg1; replace hg := Lib.hid (hg.out.trans hg1); clear hg1; have ba0 := ba.c0; have ba1 := ba.c1; have bal : w.heap.size < w2.heap.size := World.block_lt_of_cell? _ _ ba0; have bb0 := bb.c0; have bb1 := bb.c1; have bbl : w.heap.size + 1 < w2.heap.size := World.block_lt_of_cell? _ _ bb0)
          | (go_at_call 24; clear tk1; (with_reducible refine (before_any _ _ _ _ _).mono ?_); rintro e w3 ⟨rfl, hg1⟩; clear ba0 ba1 bal; clear bb0 bb1 bbl; replace ba := ba.grew hg1; replace bb := bb.grew hg1; replace hg := Lib.hid (hg.out.trans hg1); clear hg1; have ba0 := ba.c0; have ba1 := ba.c1; have bal : w.heap.size < w3.heap.size := World.block_lt_of_cell? _ _ ba0; have bb0 := bb.c0; have bb1 := bb.c1; have bbl : w.heap.size + 1 < w3.heap.size := World.block_lt_of_cell? _ _ bb0)
          | (go_at_call 25; clear tk2; (with_reducible refine (maybe_any _ _ _ _ _).mono ?_); rintro e w4 ⟨rfl, hg1⟩; clear ba0 ba1 bal; clear bb0 bb1 bbl; replace ba := ba.grew hg1; replace bb := bb.grew hg1; replace hg := Lib.hid (hg.out.trans hg1); clear hg1; have ba0 := ba.c0; have ba1 := ba.c1; have bal : w.heap.size < w4.heap.size := World.block_lt_of_cell? _ _ ba0; have bb0 := bb.c0; have bb1 := bb.c1; have bbl : w.heap.size + 1 < w4.heap.size := World.block_lt_of_cell? _ _ bb0)
          | (go_at_call 26; clear tk3; (with_reducible refine (has_any _ _ _ _).mono ?_); rintro e w5 ⟨rfl, hg1⟩; clear ba0 ba1 bal; clear bb0 bb1 bbl; replace ba := ba.grew hg1; replace bb := bb.grew hg1; replace hg := Lib.hid (hg.out.trans hg1); clear hg1; have ba0 := ba.c0; have ba1 := ba.c1; have bal : w.heap.size < w5.heap.size := World.block_lt_of_cell? _ _ ba0; have bb0 := bb.c0; have bb1 := bb.c1; have bbl : w.heap.size + 1 < w5.heap.size := World.block_lt_of_cell? _ _ bb0)
          | (go_at_call 27; clear tk4; (with_reducible refine (width_any _ _ _).mono ?_); rintro e w6 ⟨rfl, hg1⟩; clear ba0 ba1 bal; clear bb0 bb1 bbl; replace ba := ba.grew hg1; replace bb := bb.grew hg1; replace hg := Lib.hid (hg.out.trans hg1); clear hg1; have ba0 := ba.c0; have ba1 := ba.c1; have bal : w.heap.size < w6.heap.size := World.block_lt_of_cell? _ _ ba0; have bb0 := bb.c0; have bb1 := bb.c1; have bbl : w.heap.size + 1 < w6.heap.size := World.block_lt_of_cell? _ _ bb0))
        all_goals
          go_ret
          exact ⟨ret_bool (by simp), hg.out⟩
end Go.Proofs.YtoehjejpkaffiaaDoor
