/-
  The fixed examples of layer 5 (interval) hold: 'examples' returns true, and nothing that was there before has changed.
-/
import Derived.Test.YtoehjejpkaffiaaDoorIntervalParse
namespace Go.Proofs.YtoehjejpkaffiaaDoor
open Go.RowKit Go.IntWalk

theorem add_ex (w : World) : Calls Tryd.prog 10 #[iv 3 5, iv 10 10] w fun e w' => e = .returned (.tuple #[iv 13 15, .int .i64 0]) ∧ Grew w w' := add_yes 3 5 10 10 (by decide) (by decide) w
theorem add_ex2 (w : World) : Calls Tryd.prog 10 #[iv 2 1, iv 0 0] w fun e w' => e = .returned (.tuple #[iv 0 0, .int .i64 1]) ∧ Grew w w' := add_no 2 1 0 0 (by decide) w
theorem sub_ex (w : World) : Calls Tryd.prog 18 #[iv 20 25, iv 10 12] w fun e w' => e = .returned (.tuple #[iv 8 15, .int .i64 0]) ∧ Grew w w' := sub_yes 20 25 10 12 (by decide) (by decide) w
theorem sub_ex2 (w : World) : Calls Tryd.prog 18 #[iv 5 9, iv 7 7] w fun e w' => e = .returned (.tuple #[iv 0 2, .int .i64 0]) ∧ Grew w w' := sub_yes 5 9 7 7 (by decide) (by decide) w
theorem meet_ex (w : World) : Calls Tryd.prog 21 #[iv 1 2, iv 3 4] w fun e w' => e = .returned (.tuple #[iv 0 0, .int .i64 8]) ∧ Grew w w' := meet_none 1 2 3 4 (by decide) (by decide) (by decide) w
theorem parse_ex (w : World) (he : Env w) : Calls Tryd.prog 30 #[.string ⟨#[51, 46, 46, 55]⟩] w fun e w' => e = .returned (.tuple #[iv 3 7, .int .i64 0]) ∧ Grew w w' := by
  refine (parse_any ⟨#[51, 46, 46, 55]⟩ (by decide) w he).mono ?_
  rintro e w' ⟨u, v, k, rfl, hp, hg⟩
  have h0 : ParsesTo [51, 46, 46, 55] 3 7 0 := .inl ⟨rfl, 3, 7, rfl, rfl, by omega, by omega, by kernel_rfl⟩
  obtain ⟨rfl, rfl, rfl⟩ := h0.one hp
  exact ⟨rfl, hg⟩
theorem parse_ex2 (w : World) (he : Env w) : Calls Tryd.prog 30 #[.string ⟨#[55, 46, 46, 55]⟩] w fun e w' => e = .returned (.tuple #[iv 0 0, .int .i64 2]) ∧ Grew w w' := by
  refine (parse_any ⟨#[55, 46, 46, 55]⟩ (by decide) w he).mono ?_
  rintro e w' ⟨u, v, k, rfl, hp, hg⟩
  have h1 : Lib.parseIntB 64 (piece1 [55, 46, 46, 55]) = .ok 7 := by kernel_rfl
  have h2 : Lib.parseIntB 64 (piece2 [55, 46, 46, 55]) = .ok 7 := by kernel_rfl
  have h3 : txt 7 7 = [55] := by kernel_rfl
  have h0 : ParsesTo [55, 46, 46, 55] 0 0 2 := .inr ⟨rfl, rfl, rfl, not_spelt3 h1 h2 (by rw [h3]; decide)⟩
  obtain ⟨rfl, rfl, rfl⟩ := h0.one hp
  exact ⟨rfl, hg⟩
theorem format_ex (w : World) (he : Env w) : Calls Tryd.prog 28 #[iv 3 7] w fun e w' => e = .returned (.string ⟨[51, 46, 46, 55].toArray⟩) ∧ Grew w w' := by
  refine (format_any 3 7 w he).mono ?_
  rintro e w' ⟨rfl, hg⟩
  have h3 : txt 3 7 = [51, 46, 46, 55] := by kernel_rfl
  exact ⟨by rw [h3], hg⟩
theorem format_ex2 (w : World) (he : Env w) : Calls Tryd.prog 28 #[iv 4 4] w fun e w' => e = .returned (.string ⟨[52].toArray⟩) ∧ Grew w w' := by
  refine (format_any 4 4 w he).mono ?_
  rintro e w' ⟨rfl, hg⟩
  have h3 : txt 4 4 = [52] := by kernel_rfl
  exact ⟨by rw [h3], hg⟩
theorem before_ex (w : World) : Calls Tryd.prog 24 #[iv 1 2, iv 3 4] w fun e w' => e = .returned (.bool true) ∧ Grew w w' := before_any 1 2 3 4 w
theorem before_ex2 (w : World) : Calls Tryd.prog 24 #[iv 1 3, iv 3 4] w fun e w' => e = .returned (.bool false) ∧ Grew w w' := before_any 1 3 3 4 w
theorem maybe_ex (w : World) : Calls Tryd.prog 25 #[iv 3 4, iv 1 4] w fun e w' => e = .returned (.bool true) ∧ Grew w w' := maybe_any 3 4 1 4 w
theorem has_ex (w : World) : Calls Tryd.prog 26 #[iv 3 4, .int .i64 4] w fun e w' => e = .returned (.bool true) ∧ Grew w w' := has_any 3 4 4 w
theorem width_ex (w : World) : Calls Tryd.prog 27 #[iv 3 9] w fun e w' => e = .returned (.int .i64 6) ∧ Grew w w' := width_any 3 9 w
theorem at_ex (w : World) : Calls Tryd.prog 16 #[.int .i64 (-4)] w fun e w' => e = .returned (iv 0 0) ∧ Grew w w' := (at_any (-4) w).mono fun _ _ ⟨h1, h2⟩ => ⟨h1, h2 ▸ bx_grew _ _ _⟩
theorem of_g (x y : Int) (w : World) : Calls Tryd.prog 17 #[.int .i64 x, .int .i64 y] w fun e w' => e = .returned (iv x y) ∧ Grew w w' := (of_any x y w).mono fun _ _ ⟨h1, h2⟩ => ⟨h1, h2 ▸ bx_grew _ _ _⟩
theorem enters_of : Enters Tryd.prog 17 := fun args w => by go_simp
theorem enters_at : Enters Tryd.prog 16 := fun args w => by go_simp
theorem enters_format : Enters Tryd.prog 28 := fun args w => by go_simp
theorem enters_before : Enters Tryd.prog 24 := fun args w => by go_simp
theorem enters_maybe : Enters Tryd.prog 25 := fun args w => by go_simp
theorem enters_has : Enters Tryd.prog 26 := fun args w => by go_simp
theorem enters_width : Enters Tryd.prog 27 := fun args w => by go_simp
set_option maxRecDepth 20000 in
set_option maxHeartbeats 4000000 in
theorem examples_any (w : World) (he : Env w) : Calls Tryd.prog 13 #[] w fun e w' => e = .returned (.bool true) ∧ Grew w w' := by
  have HE := Lib.hid he
  clear he
  have hg := Lib.hid (Grew.refl w)
  have tk0 := Lib.hid trivial
  have tk1 := Lib.hid trivial
  have tk2 := Lib.hid trivial
  have tk3 := Lib.hid trivial
  have tk4 := Lib.hid trivial
  have tk5 := Lib.hid trivial
  have tk6 := Lib.hid trivial
  have tk7 := Lib.hid trivial
  have tk8 := Lib.hid trivial
  have tk9 := Lib.hid trivial
  have tk10 := Lib.hid trivial
  have tk11 := Lib.hid trivial
  have tk12 := Lib.hid trivial
  have tk13 := Lib.hid trivial
  have tk14 := Lib.hid trivial
  have tk15 := Lib.hid trivial
  have tk16 := Lib.hid trivial
  go_enter Tryd.func13, Tryd.ntmps13
  go_wp2_with (first
    | (go_at_call 17; clear tk0; (with_reducible refine (of_any _ _ _).mono ?_); rintro e _ ⟨rfl, rfl⟩)
    | (go_at_call 17; clear tk1; (with_reducible refine (of_any _ _ _).mono ?_); rintro e _ ⟨rfl, rfl⟩)
    | (go_at_call 10; clear tk2; generalize hW : bx (bx _ _ _) _ _ = V; have hv : Grew w V := (by subst hW; repeat (first | with_reducible exact Grew.refl _ | with_reducible refine Grew.alloc ?_ _ | with_reducible refine Grew.drw ?_ | with_reducible refine Grew.drwN ?_ _)); clear hW; replace hg := Lib.hid (hg.out.trans hv); clear hv; (with_reducible refine (add_ex _).mono ?_); rintro e w1 ⟨rfl, hg1⟩; replace hg := Lib.hid (hg.out.trans hg1); clear hg1)
    | (go_at_call 17; clear tk3; (with_reducible refine (of_any _ _ _).mono ?_); rintro e _ ⟨rfl, rfl⟩)
    | (go_at_call 17; clear tk4; (with_reducible refine (of_any _ _ _).mono ?_); rintro e _ ⟨rfl, rfl⟩)
    | (go_at_call 18; clear tk5; generalize hW : bx (bx _ _ _) _ _ = V; have ba : Box (w1.heap.size) 13 15 V := (by subst hW; exact ⟨by go_simp, by go_simp⟩); have hv : Grew w1 V := (by subst hW; repeat (first | with_reducible exact Grew.refl _ | with_reducible refine Grew.alloc ?_ _ | with_reducible refine Grew.drw ?_ | with_reducible refine Grew.drwN ?_ _)); clear hW; replace hg := Lib.hid (hg.out.trans hv); clear hv; (with_reducible refine (sub_ex _).mono ?_); rintro e w2 ⟨rfl, hg1⟩; replace ba := ba.grew hg1; replace hg := Lib.hid (hg.out.trans hg1); clear hg1; have ba0 := ba.c0; have ba1 := ba.c1; have bal : w1.heap.size < w2.heap.size := World.block_lt_of_cell? _ _ ba0)
    | (go_at_call 17; clear tk6; (with_reducible refine (of_any _ _ _).mono ?_); rintro e _ ⟨rfl, rfl⟩)
    | (go_at_call 17; clear tk7; (with_reducible refine (of_any _ _ _).mono ?_); rintro e _ ⟨rfl, rfl⟩)
    | (go_at_call 18; clear tk8; generalize hW : bx (bx _ _ _) _ _ = V; have bb : Box (w2.heap.size) 8 15 V := (by subst hW; exact ⟨by go_simp, by go_simp⟩); have hv : Grew w2 V := (by subst hW; repeat (first | with_reducible exact Grew.refl _ | with_reducible refine Grew.alloc ?_ _ | with_reducible refine Grew.drw ?_ | with_reducible refine Grew.drwN ?_ _)); clear hW; clear ba0 ba1 bal; replace ba := ba.grew hv; replace hg := Lib.hid (hg.out.trans hv); clear hv; (with_reducible refine (sub_ex2 _).mono ?_); rintro e w3 ⟨rfl, hg1⟩; replace ba := ba.grew hg1; replace bb := bb.grew hg1; replace hg := Lib.hid (hg.out.trans hg1); clear hg1; have ba0 := ba.c0; have ba1 := ba.c1; have bal : w1.heap.size < w3.heap.size := World.block_lt_of_cell? _ _ ba0; have bb0 := bb.c0; have bb1 := bb.c1; have bbl : w2.heap.size < w3.heap.size := World.block_lt_of_cell? _ _ bb0)
    | (go_at_call 17; clear tk9; (with_reducible refine (of_any _ _ _).mono ?_); rintro e _ ⟨rfl, rfl⟩)
    | (go_at_call 17; clear tk10; (with_reducible refine (of_any _ _ _).mono ?_); rintro e _ ⟨rfl, rfl⟩)
    | (go_at_call 21; clear tk11; generalize hW : bx (bx _ _ _) _ _ = V; have bc : Box (w3.heap.size) 0 2 V := (by subst hW; exact ⟨by go_simp, by go_simp⟩); have hv : Grew w3 V := (by subst hW; repeat (first | with_reducible exact Grew.refl _ | with_reducible refine Grew.alloc ?_ _ | with_reducible refine Grew.drw ?_ | with_reducible refine Grew.drwN ?_ _)); clear hW; clear ba0 ba1 bal; replace ba := ba.grew hv; clear bb0 bb1 bbl; replace bb := bb.grew hv; replace hg := Lib.hid (hg.out.trans hv); clear hv; (with_reducible refine (meet_ex _).mono ?_); rintro e w4 ⟨rfl, hg1⟩; replace ba := ba.grew hg1; replace bb := bb.grew hg1; replace bc := bc.grew hg1; replace hg := Lib.hid (hg.out.trans hg1); clear hg1; have ba0 := ba.c0; have ba1 := ba.c1; have bal : w1.heap.size < w4.heap.size := World.block_lt_of_cell? _ _ ba0; have bb0 := bb.c0; have bb1 := bb.c1; have bbl : w2.heap.size < w4.heap.size := World.block_lt_of_cell? _ _ bb0; have bc0 := bc.c0; have bc1 := bc.c1; have bcl : w3.heap.size < w4.heap.size := World.block_lt_of_cell? _ _ bc0)
    | (go_at_call 30; clear tk12; generalize hW : World.alloc _ _ = V; have hv : Grew w4 V := (by subst hW; repeat (first | with_reducible exact Grew.refl _ | with_reducible refine Grew.alloc ?_ _ | with_reducible refine Grew.drw ?_ | with_reducible refine Grew.drwN ?_ _)); clear hW; clear ba0 ba1 bal; replace ba := ba.grew hv; clear bb0 bb1 bbl; replace bb := bb.grew hv; clear bc0 bc1 bcl; replace bc := bc.grew hv; replace hg := Lib.hid (hg.out.trans hv); clear hv; (with_reducible refine (parse_ex _ (HE.out.grew hg.out)).mono ?_); rintro e w5 ⟨rfl, hg1⟩; replace ba := ba.grew hg1; replace bb := bb.grew hg1; replace bc := bc.grew hg1; replace hg := Lib.hid (hg.out.trans hg1); clear hg1; have ba0 := ba.c0; have ba1 := ba.c1; have bal : w1.heap.size < w5.heap.size := World.block_lt_of_cell? _ _ ba0; have bb0 := bb.c0; have bb1 := bb.c1; have bbl : w2.heap.size < w5.heap.size := World.block_lt_of_cell? _ _ bb0; have bc0 := bc.c0; have bc1 := bc.c1; have bcl : w3.heap.size < w5.heap.size := World.block_lt_of_cell? _ _ bc0)
    | (go_at_call 30; clear tk13; generalize hW : World.alloc _ _ = V; have bd : Box (w5.heap.size) 3 7 V := (by subst hW; exact ⟨by go_simp, by go_simp⟩); have hv : Grew w5 V := (by subst hW; repeat (first | with_reducible exact Grew.refl _ | with_reducible refine Grew.alloc ?_ _ | with_reducible refine Grew.drw ?_ | with_reducible refine Grew.drwN ?_ _)); clear hW; clear ba0 ba1 bal; replace ba := ba.grew hv; clear bb0 bb1 bbl; replace bb := bb.grew hv; clear bc0 bc1 bcl; replace bc := bc.grew hv; replace hg := Lib.hid (hg.out.trans hv); clear hv; (with_reducible refine (parse_ex2 _ (HE.out.grew hg.out)).mono ?_); rintro e w6 ⟨rfl, hg1⟩; replace ba := ba.grew hg1; replace bb := bb.grew hg1; replace bc := bc.grew hg1; replace bd := bd.grew hg1; replace hg := Lib.hid (hg.out.trans hg1); clear hg1; have ba0 := ba.c0; have ba1 := ba.c1; have bal : w1.heap.size < w6.heap.size := World.block_lt_of_cell? _ _ ba0; have bb0 := bb.c0; have bb1 := bb.c1; have bbl : w2.heap.size < w6.heap.size := World.block_lt_of_cell? _ _ bb0; have bc0 := bc.c0; have bc1 := bc.c1; have bcl : w3.heap.size < w6.heap.size := World.block_lt_of_cell? _ _ bc0; have bd0 := bd.c0; have bd1 := bd.c1; have bdl : w5.heap.size < w6.heap.size := World.block_lt_of_cell? _ _ bd0)
    | (go_at_call 17; clear tk14; (with_reducible refine (of_any _ _ _).mono ?_); rintro e _ ⟨rfl, rfl⟩)
    | (go_at_call 17; clear tk15; (with_reducible refine (of_any _ _ _).mono ?_); rintro e _ ⟨rfl, rfl⟩)
    | (go_at_call 10; clear tk16; generalize hW : bx (bx _ _ _) _ _ = V; have hv : Grew w6 V := (by subst hW; repeat (first | with_reducible exact Grew.refl _ | with_reducible refine Grew.alloc ?_ _ | with_reducible refine Grew.drw ?_ | with_reducible refine Grew.drwN ?_ _)); clear hW; clear ba0 ba1 bal; replace ba := ba.grew hv; clear bb0 bb1 bbl; replace bb := bb.grew hv; clear bc0 bc1 bcl; replace bc := bc.grew hv; clear bd0 bd1 bdl; replace bd := bd.grew hv; replace hg := Lib.hid (hg.out.trans hv); clear hv; (with_reducible refine (add_ex2 _).mono ?_); rintro e w7 ⟨rfl, hg1⟩; replace ba := ba.grew hg1; replace bb := bb.grew hg1; replace bc := bc.grew hg1; replace bd := bd.grew hg1; replace hg := Lib.hid (hg.out.trans hg1); clear hg1; have ba0 := ba.c0; have ba1 := ba.c1; have bal : w1.heap.size < w7.heap.size := World.block_lt_of_cell? _ _ ba0; have bb0 := bb.c0; have bb1 := bb.c1; have bbl : w2.heap.size < w7.heap.size := World.block_lt_of_cell? _ _ bb0; have bc0 := bc.c0; have bc1 := bc.c1; have bcl : w3.heap.size < w7.heap.size := World.block_lt_of_cell? _ _ bc0; have bd0 := bd.c0; have bd1 := bd.c1; have bdl : w5.heap.size < w7.heap.size := World.block_lt_of_cell? _ _ bd0))
  generalize hW : World.alloc _ _ = V
  have hv : Grew w7 V.drew := by subst hW; exact ((Grew.refl _).alloc _).drw
  clear hW
  replace ba := ba.grew hv
  replace bb := bb.grew hv
  replace bc := bc.grew hv
  replace bd := bd.grew hv
  have hG : Grew w V.drew := hg.out.trans hv
  refine wp_posts [some 53, some 54, some 55, some 56, some 57, some 58, some 59, some 60, some 61, some 62, some 63, some 64, some 65, some 66, some 67, some 68, some 69, some 70, some 71, some 72, some 73, some 74, some 75, some 76, some 77, some 78, some 79, some 80, some 81, some 82, some 83, some 84, some 85, some 86, some 87, some 88, some 89, some 90, some 91, some 92, some 93, some 94, some 95, some 96, some 97, some 98, some 99, some 100, some 101, some 102, some 103, some 104, some 105, some 106, some 107, some 108, some 109, some 110, some 111, some 112, some 113, some 114, some 115, some 116, some 117, some 118, some 119, some 120, some 121, some 122, some 123, some 124, some 125, some 126, some 127, some 128, some 129, some 130, some 131, some 132, some 133, some 134, some 135, some 136, some 137, some 138, some 0] [true, false, false, false, false, false, false, false, false, false, false, false, false, false, false, false, false, false, false, false, false, false, false, false, false, false, false, false, false, false, false, false, false, false, false, false, false, false, false, false, false, false, false, false, false, false, false, false, false, false, false, false, false, true, true, true, true, true, true, true, true, true, true, true, true, true, true, true, true, true, true, true, true, true, true, true, true, true, true, true, true, true, true, true, true, true, true, true, true, true, true, true, true, true, true, true, true, true, true, true, true, true, true, true, true, true, true, true, true, true, true, true, true, true, true, true, true, true, true, true, true, true, true, true, true, true, true, true, true, true, true, true, true, true, true, true, true, true, true] [fun v _ => v = iv (13) (15), fun v _ => v = iv (13) (15), fun v _ => v = .bool (true), fun v _ => v = .bool (true), fun v _ => v = .int .i64 (0), fun v _ => v = .bool (true), fun v _ => v = .bool (true), fun v _ => v = .bool (true), fun v _ => v = iv (8) (15), fun v _ => v = iv (8) (15), fun v _ => v = .bool (true), fun v _ => v = .bool (true), fun v _ => v = .bool (true), fun v _ => v = .int .i64 (0), fun v _ => v = .bool (true), fun v _ => v = .bool (true), fun v _ => v = .bool (true), fun v _ => v = iv (0) (2), fun v _ => v = iv (0) (2), fun v _ => v = .bool (true), fun v _ => v = .bool (true), fun v _ => v = .bool (true), fun v _ => v = .int .i64 (0), fun v _ => v = .bool (true), fun v _ => v = .bool (true), fun v _ => v = .bool (true), fun v _ => v = .int .i64 (8), fun v _ => v = .bool (true), fun v _ => v = .bool (true), fun v _ => v = .bool (true), fun v _ => v = iv (3) (7), fun v _ => v = iv (3) (7), fun v _ => v = .bool (true), fun v _ => v = .bool (true), fun v _ => v = .bool (true), fun v _ => v = .int .i64 (0), fun v _ => v = .bool (true), fun v _ => v = .bool (true), fun v _ => v = .bool (true), fun v _ => v = .int .i64 (2), fun v _ => v = .bool (true), fun v _ => v = .bool (true), fun v _ => v = .bool (true), fun v _ => v = .int .i64 (1), fun v _ => v = .bool (true), fun v _ => v = .bool (true), fun v _ => v = .bool (true), fun v _ => v = iv (0) (0), fun v _ => v = iv (0) (0), fun v _ => v = .bool (true), fun v _ => v = .bool (true), fun v _ => v = .bool (true), fun v _ => v = iv (3) (7), fun v _ => v = .string ⟨([51, 46, 46, 55]).toArray⟩, fun v _ => v = .bool (true), fun v _ => v = .bool (true), fun v _ => v = .bool (true), fun v _ => v = iv (4) (4), fun v _ => v = .string ⟨([52]).toArray⟩, fun v _ => v = .bool (true), fun v _ => v = .bool (true), fun v _ => v = .bool (true), fun v _ => v = iv (1) (2), fun v _ => v = iv (3) (4), fun v _ => v = .bool (true), fun v _ => v = .bool (true), fun v _ => v = .bool (true), fun v _ => v = iv (1) (3), fun v _ => v = iv (3) (4), fun v _ => v = .bool (false), fun v _ => v = .bool (true), fun v _ => v = .bool (true), fun v _ => v = .bool (true), fun v _ => v = iv (3) (4), fun v _ => v = iv (1) (4), fun v _ => v = .bool (true), fun v _ => v = .bool (true), fun v _ => v = .bool (true), fun v _ => v = iv (3) (4), fun v _ => v = .bool (true), fun v _ => v = .bool (true), fun v _ => v = .bool (true), fun v _ => v = iv (3) (9), fun v _ => v = .int .i64 (6), fun v _ => v = .bool (true), fun v _ => v = .bool (true), fun v _ => v = .bool (true)] (by kernel_rfl) (by kernel_rfl) rfl ?_ ⟨?_, ?_, ?_, ?_, ?_, ?_, ?_, ?_, ?_, ?_, ?_, ?_, ?_, ?_, ?_, ?_, ?_, ?_, ?_, ?_, ?_, ?_, ?_, ?_, ?_, ?_, ?_, ?_, ?_, ?_, ?_, ?_, ?_, ?_, ?_, ?_, ?_, ?_, ?_, ?_, ?_, ?_, ?_, ?_, ?_, ?_, ?_, ?_, ?_, ?_, ?_, ?_, ?_, ?_, ?_, ?_, ?_, ?_, ?_, ?_, ?_, ?_, ?_, ?_, ?_, ?_, ?_, ?_, ?_, ?_, ?_, ?_, ?_, ?_, ?_, ?_, ?_, ?_, ?_, ?_, ?_, ?_, ?_, ?_, ?_, ?_, ?_, trivial⟩ ?_
  · exact ⟨fun _ _ _ _ h => h, fun _ _ _ _ h => h, fun _ _ _ _ h => h, fun _ _ _ _ h => h, fun _ _ _ _ h => h, fun _ _ _ _ h => h, fun _ _ _ _ h => h, fun _ _ _ _ h => h, fun _ _ _ _ h => h, fun _ _ _ _ h => h, fun _ _ _ _ h => h, fun _ _ _ _ h => h, fun _ _ _ _ h => h, fun _ _ _ _ h => h, fun _ _ _ _ h => h, fun _ _ _ _ h => h, fun _ _ _ _ h => h, fun _ _ _ _ h => h, fun _ _ _ _ h => h, fun _ _ _ _ h => h, fun _ _ _ _ h => h, fun _ _ _ _ h => h, fun _ _ _ _ h => h, fun _ _ _ _ h => h, fun _ _ _ _ h => h, fun _ _ _ _ h => h, fun _ _ _ _ h => h, fun _ _ _ _ h => h, fun _ _ _ _ h => h, fun _ _ _ _ h => h, fun _ _ _ _ h => h, fun _ _ _ _ h => h, fun _ _ _ _ h => h, fun _ _ _ _ h => h, fun _ _ _ _ h => h, fun _ _ _ _ h => h, fun _ _ _ _ h => h, fun _ _ _ _ h => h, fun _ _ _ _ h => h, fun _ _ _ _ h => h, fun _ _ _ _ h => h, fun _ _ _ _ h => h, fun _ _ _ _ h => h, fun _ _ _ _ h => h, fun _ _ _ _ h => h, fun _ _ _ _ h => h, fun _ _ _ _ h => h, fun _ _ _ _ h => h, fun _ _ _ _ h => h, fun _ _ _ _ h => h, fun _ _ _ _ h => h, fun _ _ _ _ h => h, fun _ _ _ _ h => h, fun _ _ _ _ h => h, fun _ _ _ _ h => h, fun _ _ _ _ h => h, fun _ _ _ _ h => h, fun _ _ _ _ h => h, fun _ _ _ _ h => h, fun _ _ _ _ h => h, fun _ _ _ _ h => h, fun _ _ _ _ h => h, fun _ _ _ _ h => h, fun _ _ _ _ h => h, fun _ _ _ _ h => h, fun _ _ _ _ h => h, fun _ _ _ _ h => h, fun _ _ _ _ h => h, fun _ _ _ _ h => h, fun _ _ _ _ h => h, fun _ _ _ _ h => h, fun _ _ _ _ h => h, fun _ _ _ _ h => h, fun _ _ _ _ h => h, fun _ _ _ _ h => h, fun _ _ _ _ h => h, fun _ _ _ _ h => h, fun _ _ _ _ h => h, fun _ _ _ _ h => h, fun _ _ _ _ h => h, fun _ _ _ _ h => h, fun _ _ _ _ h => h, fun _ _ _ _ h => h, fun _ _ _ _ h => h, fun _ _ _ _ h => h, fun _ _ _ _ h => h, fun _ _ _ _ h => h, trivial⟩
  · intro u w hR hd; exact runs_box23 (ev rfl) (ba.kept hR) ⟨Grew.refl _, rfl⟩
  · intro u w hR hd; exact runs_c2 enters_of rfl rfl (callp (fun _ e => e) (of_g 13 15 _))
  · intro u w hR hd; exact runs_eql23 (ev (hd.1 rfl)) (ev (hd.2.1 rfl)) ⟨Grew.refl _, (congrArg Value.bool (by decide))⟩
  · intro u w hR hd; exact runs_mv (ev (hd.1 rfl)) ⟨Grew.refl _, rfl⟩
  · intro u w hR hd; exact ⟨fun _ => runs_mv (ev rfl) ⟨Grew.refl _, rfl⟩, fun hn => absurd (hd.1 rfl) hn⟩
  · intro u w hR hd; exact ⟨fun _ => runs_eql24 (ev (hd.1 rfl)) rfl ⟨Grew.refl _, (congrArg Value.bool (by decide))⟩, fun hn => absurd (hd.2.1 rfl) hn⟩
  · intro u w hR hd; exact runs_an (ev (hd.1 rfl)) (fun hb => ev ((hd.2.1 rfl))) ⟨Grew.refl _, rfl⟩
  · intro u w hR hd; exact runs_mv (ev (hd.1 rfl)) ⟨Grew.refl _, rfl⟩
  · intro u w hR hd; exact ⟨fun _ => runs_box23 (ev rfl) (bb.kept hR) ⟨Grew.refl _, rfl⟩, fun hn => absurd (hd.1 rfl) hn⟩
  · intro u w hR hd; exact ⟨fun _ => runs_c2 enters_of rfl rfl (callp (fun _ e => e) (of_g 8 15 _)), fun hn => absurd (hd.1 rfl) hn⟩
  · intro u w hR hd; exact ⟨fun _ => runs_eql23 (ev (hd.1 rfl)) (ev (hd.2.1 rfl)) ⟨Grew.refl _, (congrArg Value.bool (by decide))⟩, fun hn => absurd (hd.2.2.1 rfl) hn⟩
  · intro u w hR hd; exact runs_an (ev (hd.1 rfl)) (fun hb => ev ((hd.2.1 rfl))) ⟨Grew.refl _, rfl⟩
  · intro u w hR hd; exact runs_mv (ev (hd.1 rfl)) ⟨Grew.refl _, rfl⟩
  · intro u w hR hd; exact ⟨fun _ => runs_mv (ev rfl) ⟨Grew.refl _, rfl⟩, fun hn => absurd (hd.1 rfl) hn⟩
  · intro u w hR hd; exact ⟨fun _ => runs_eql24 (ev (hd.1 rfl)) rfl ⟨Grew.refl _, (congrArg Value.bool (by decide))⟩, fun hn => absurd (hd.2.1 rfl) hn⟩
  · intro u w hR hd; exact runs_an (ev (hd.1 rfl)) (fun hb => ev ((hd.2.1 rfl))) ⟨Grew.refl _, rfl⟩
  · intro u w hR hd; exact runs_mv (ev (hd.1 rfl)) ⟨Grew.refl _, rfl⟩
  · intro u w hR hd; exact ⟨fun _ => runs_box23 (ev rfl) (bc.kept hR) ⟨Grew.refl _, rfl⟩, fun hn => absurd (hd.1 rfl) hn⟩
  · intro u w hR hd; exact ⟨fun _ => runs_c2 enters_of rfl rfl (callp (fun _ e => e) (of_g 0 2 _)), fun hn => absurd (hd.1 rfl) hn⟩
  · intro u w hR hd; exact ⟨fun _ => runs_eql23 (ev (hd.1 rfl)) (ev (hd.2.1 rfl)) ⟨Grew.refl _, (congrArg Value.bool (by decide))⟩, fun hn => absurd (hd.2.2.1 rfl) hn⟩
  · intro u w hR hd; exact runs_an (ev (hd.1 rfl)) (fun hb => ev ((hd.2.1 rfl))) ⟨Grew.refl _, rfl⟩
  · intro u w hR hd; exact runs_mv (ev (hd.1 rfl)) ⟨Grew.refl _, rfl⟩
  · intro u w hR hd; exact ⟨fun _ => runs_mv (ev rfl) ⟨Grew.refl _, rfl⟩, fun hn => absurd (hd.1 rfl) hn⟩
  · intro u w hR hd; exact ⟨fun _ => runs_eql24 (ev (hd.1 rfl)) rfl ⟨Grew.refl _, (congrArg Value.bool (by decide))⟩, fun hn => absurd (hd.2.1 rfl) hn⟩
  · intro u w hR hd; exact runs_an (ev (hd.1 rfl)) (fun hb => ev ((hd.2.1 rfl))) ⟨Grew.refl _, rfl⟩
  · intro u w hR hd; exact runs_mv (ev (hd.1 rfl)) ⟨Grew.refl _, rfl⟩
  · intro u w hR hd; exact ⟨fun _ => runs_mv (ev rfl) ⟨Grew.refl _, rfl⟩, fun hn => absurd (hd.1 rfl) hn⟩
  · intro u w hR hd; exact ⟨fun _ => runs_eql24 (ev (hd.1 rfl)) rfl ⟨Grew.refl _, (congrArg Value.bool (by decide))⟩, fun hn => absurd (hd.2.1 rfl) hn⟩
  · intro u w hR hd; exact runs_an (ev (hd.1 rfl)) (fun hb => ev ((hd.2.1 rfl))) ⟨Grew.refl _, rfl⟩
  · intro u w hR hd; exact runs_mv (ev (hd.1 rfl)) ⟨Grew.refl _, rfl⟩
  · intro u w hR hd; exact ⟨fun _ => runs_box23 (ev rfl) (bd.kept hR) ⟨Grew.refl _, rfl⟩, fun hn => absurd (hd.1 rfl) hn⟩
  · intro u w hR hd; exact ⟨fun _ => runs_c2 enters_of rfl rfl (callp (fun _ e => e) (of_g 3 7 _)), fun hn => absurd (hd.1 rfl) hn⟩
  · intro u w hR hd; exact ⟨fun _ => runs_eql23 (ev (hd.1 rfl)) (ev (hd.2.1 rfl)) ⟨Grew.refl _, (congrArg Value.bool (by decide))⟩, fun hn => absurd (hd.2.2.1 rfl) hn⟩
  · intro u w hR hd; exact runs_an (ev (hd.1 rfl)) (fun hb => ev ((hd.2.1 rfl))) ⟨Grew.refl _, rfl⟩
  · intro u w hR hd; exact runs_mv (ev (hd.1 rfl)) ⟨Grew.refl _, rfl⟩
  · intro u w hR hd; exact ⟨fun _ => runs_mv (ev rfl) ⟨Grew.refl _, rfl⟩, fun hn => absurd (hd.1 rfl) hn⟩
  · intro u w hR hd; exact ⟨fun _ => runs_eql24 (ev (hd.1 rfl)) rfl ⟨Grew.refl _, (congrArg Value.bool (by decide))⟩, fun hn => absurd (hd.2.1 rfl) hn⟩
  · intro u w hR hd; exact runs_an (ev (hd.1 rfl)) (fun hb => ev ((hd.2.1 rfl))) ⟨Grew.refl _, rfl⟩
  · intro u w hR hd; exact runs_mv (ev (hd.1 rfl)) ⟨Grew.refl _, rfl⟩
  · intro u w hR hd; exact ⟨fun _ => runs_mv (ev rfl) ⟨Grew.refl _, rfl⟩, fun hn => absurd (hd.1 rfl) hn⟩
  · intro u w hR hd; exact ⟨fun _ => runs_eql24 (ev (hd.1 rfl)) rfl ⟨Grew.refl _, (congrArg Value.bool (by decide))⟩, fun hn => absurd (hd.2.1 rfl) hn⟩
  · intro u w hR hd; exact runs_an (ev (hd.1 rfl)) (fun hb => ev ((hd.2.1 rfl))) ⟨Grew.refl _, rfl⟩
  · intro u w hR hd; exact runs_mv (ev (hd.1 rfl)) ⟨Grew.refl _, rfl⟩
  · intro u w hR hd; exact ⟨fun _ => runs_mv (ev rfl) ⟨Grew.refl _, rfl⟩, fun hn => absurd (hd.1 rfl) hn⟩
  · intro u w hR hd; exact ⟨fun _ => runs_eql24 (ev (hd.1 rfl)) rfl ⟨Grew.refl _, (congrArg Value.bool (by decide))⟩, fun hn => absurd (hd.2.1 rfl) hn⟩
  · intro u w hR hd; exact runs_an (ev (hd.1 rfl)) (fun hb => ev ((hd.2.1 rfl))) ⟨Grew.refl _, rfl⟩
  · intro u w hR hd; exact runs_mv (ev (hd.1 rfl)) ⟨Grew.refl _, rfl⟩
  · intro u w hR hd; exact ⟨fun _ => runs_c1 enters_at rfl (callp (fun _ e => e) (at_ex _)), fun hn => absurd (hd.1 rfl) hn⟩
  · intro u w hR hd; exact ⟨fun _ => runs_c2 enters_of rfl rfl (callp (fun _ e => e) (of_g 0 0 _)), fun hn => absurd (hd.2.1 rfl) hn⟩
  · intro u w hR hd; exact ⟨fun _ => runs_eql23 (ev (hd.1 rfl)) (ev (hd.2.1 rfl)) ⟨Grew.refl _, (congrArg Value.bool (by decide))⟩, fun hn => absurd (hd.2.2.1 rfl) hn⟩
  · intro u w hR hd; exact runs_an (ev (hd.1 rfl)) (fun hb => ev ((hd.2.1 rfl))) ⟨Grew.refl _, rfl⟩
  · intro u w hR hd; exact runs_mv (ev (hd.1 rfl)) ⟨Grew.refl _, rfl⟩
  · intro u w hR hd; exact ⟨fun _ => runs_c2 enters_of rfl rfl (callp (fun _ e => e) (of_g 3 7 _)), fun hn => absurd (hd.1 rfl) hn⟩
  · intro u w hR hd; exact ⟨fun _ => runs_c1 enters_format (ev (hd.1 rfl)) (callp (fun _ e => e) (format_ex _ (HE.out.grew (hG.trans hR)))), fun hn => absurd (hd.2.2.1 rfl) hn⟩
  · intro u w hR hd; exact ⟨fun _ => runs_eql9 (ev (hd.1 rfl)) rfl ⟨Grew.refl _, (congrArg Value.bool (by decide))⟩, fun hn => absurd (hd.2.1 rfl) hn⟩
  · intro u w hR hd; exact runs_an (ev (hd.1 rfl)) (fun hb => ev ((hd.2.1 rfl))) ⟨Grew.refl _, rfl⟩
  · intro u w hR hd; exact runs_mv (ev (hd.1 rfl)) ⟨Grew.refl _, rfl⟩
  · intro u w hR hd; exact ⟨fun _ => runs_c2 enters_of rfl rfl (callp (fun _ e => e) (of_g 4 4 _)), fun hn => absurd (hd.1 rfl) hn⟩
  · intro u w hR hd; exact ⟨fun _ => runs_c1 enters_format (ev (hd.1 rfl)) (callp (fun _ e => e) (format_ex2 _ (HE.out.grew (hG.trans hR)))), fun hn => absurd (hd.2.2.1 rfl) hn⟩
  · intro u w hR hd; exact ⟨fun _ => runs_eql9 (ev (hd.1 rfl)) rfl ⟨Grew.refl _, (congrArg Value.bool (by decide))⟩, fun hn => absurd (hd.2.1 rfl) hn⟩
  · intro u w hR hd; exact runs_an (ev (hd.1 rfl)) (fun hb => ev ((hd.2.1 rfl))) ⟨Grew.refl _, rfl⟩
  · intro u w hR hd; exact runs_mv (ev (hd.1 rfl)) ⟨Grew.refl _, rfl⟩
  · intro u w hR hd; exact ⟨fun _ => runs_c2 enters_of rfl rfl (callp (fun _ e => e) (of_g 1 2 _)), fun hn => absurd (hd.1 rfl) hn⟩
  · intro u w hR hd; exact ⟨fun _ => runs_c2 enters_of rfl rfl (callp (fun _ e => e) (of_g 3 4 _)), fun hn => absurd (hd.2.1 rfl) hn⟩
  · intro u w hR hd; exact ⟨fun _ => runs_c2 enters_before (ev (hd.1 rfl)) (ev (hd.2.1 rfl)) (callp (fun _ e => e) (before_ex _)), fun hn => absurd (hd.2.2.2.1 rfl) hn⟩
  · intro u w hR hd; exact runs_an (ev (hd.1 rfl)) (fun hb => ev ((hd.2.1 rfl))) ⟨Grew.refl _, rfl⟩
  · intro u w hR hd; exact runs_mv (ev (hd.1 rfl)) ⟨Grew.refl _, rfl⟩
  · intro u w hR hd; exact ⟨fun _ => runs_c2 enters_of rfl rfl (callp (fun _ e => e) (of_g 1 3 _)), fun hn => absurd (hd.1 rfl) hn⟩
  · intro u w hR hd; exact ⟨fun _ => runs_c2 enters_of rfl rfl (callp (fun _ e => e) (of_g 3 4 _)), fun hn => absurd (hd.2.1 rfl) hn⟩
  · intro u w hR hd; exact ⟨fun _ => runs_c2 enters_before (ev (hd.1 rfl)) (ev (hd.2.1 rfl)) (callp (fun _ e => e) (before_ex2 _)), fun hn => absurd (hd.2.2.2.1 rfl) hn⟩
  · intro u w hR hd; exact ⟨fun _ => runs_nt (ev (hd.1 rfl)) ⟨Grew.refl _, rfl⟩, fun hn => absurd (hd.2.1 rfl) hn⟩
  · intro u w hR hd; exact runs_an (ev (hd.1 rfl)) (fun hb => ev ((hd.2.1 rfl))) ⟨Grew.refl _, rfl⟩
  · intro u w hR hd; exact runs_mv (ev (hd.1 rfl)) ⟨Grew.refl _, rfl⟩
  · intro u w hR hd; exact ⟨fun _ => runs_c2 enters_of rfl rfl (callp (fun _ e => e) (of_g 3 4 _)), fun hn => absurd (hd.1 rfl) hn⟩
  · intro u w hR hd; exact ⟨fun _ => runs_c2 enters_of rfl rfl (callp (fun _ e => e) (of_g 1 4 _)), fun hn => absurd (hd.2.1 rfl) hn⟩
  · intro u w hR hd; exact ⟨fun _ => runs_c2 enters_maybe (ev (hd.1 rfl)) (ev (hd.2.1 rfl)) (callp (fun _ e => e) (maybe_ex _)), fun hn => absurd (hd.2.2.2.1 rfl) hn⟩
  · intro u w hR hd; exact runs_an (ev (hd.1 rfl)) (fun hb => ev ((hd.2.1 rfl))) ⟨Grew.refl _, rfl⟩
  · intro u w hR hd; exact runs_mv (ev (hd.1 rfl)) ⟨Grew.refl _, rfl⟩
  · intro u w hR hd; exact ⟨fun _ => runs_c2 enters_of rfl rfl (callp (fun _ e => e) (of_g 3 4 _)), fun hn => absurd (hd.1 rfl) hn⟩
  · intro u w hR hd; exact ⟨fun _ => runs_c2 enters_has (ev (hd.1 rfl)) rfl (callp (fun _ e => e) (has_ex _)), fun hn => absurd (hd.2.2.1 rfl) hn⟩
  · intro u w hR hd; exact runs_an (ev (hd.1 rfl)) (fun hb => ev ((hd.2.1 rfl))) ⟨Grew.refl _, rfl⟩
  · intro u w hR hd; exact runs_mv (ev (hd.1 rfl)) ⟨Grew.refl _, rfl⟩
  · intro u w hR hd; exact ⟨fun _ => runs_c2 enters_of rfl rfl (callp (fun _ e => e) (of_g 3 9 _)), fun hn => absurd (hd.1 rfl) hn⟩
  · intro u w hR hd; exact ⟨fun _ => runs_c1 enters_width (ev (hd.1 rfl)) (callp (fun _ e => e) (width_ex _)), fun hn => absurd (hd.2.2.1 rfl) hn⟩
  · intro u w hR hd; exact ⟨fun _ => runs_eql2 (ev (hd.1 rfl)) rfl ⟨Grew.refl _, (congrArg Value.bool (by decide))⟩, fun hn => absurd (hd.2.1 rfl) hn⟩
  · intro u w hR hd; exact runs_an (ev (hd.1 rfl)) (fun hb => ev ((hd.2.1 rfl))) ⟨Grew.refl _, rfl⟩
  · intro u w hR hd; exact runs_mva (ev (hd.1 rfl)) ⟨Grew.refl _, rfl⟩
  · intro u w' hR h
    have he : u 0 = .bool true := h 86 (by decide)
    simp only [mixA, mixL, cond_true, cond_false]
    rw [he]
    go_wp2
    go_ret
    exact ⟨rfl, hG.trans hR⟩
end Go.Proofs.YtoehjejpkaffiaaDoor
