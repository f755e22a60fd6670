/-
  THE STATEMENTS OF LAYER 5 (interval) ON SUMS, DIFFERENCES, SETS AND ORDER, WALKED: each returns true, and nothing that was there before has changed.
-/
import Derived.Test.YtoehjejpkaffiaaDoorIntervalExamples
namespace Go.Proofs.YtoehjejpkaffiaaDoor
open Go.RowKit Go.IntWalk

/-- A call on two intervals that returns an interval and a number. -/
abbrev Gives (f : FuncId) (x y p q X Y c : Int) : Prop := ∀ w, Calls Tryd.prog f #[iv x y, iv p q] w fun e w' => e = .returned (.tuple #[iv X Y, .int .i64 c]) ∧ Grew w w'
theorem add_both (x y p q : Int) : ∃ X Y c : Int, Gives 10 x y p q X Y c ∧ Gives 11 x y p q X Y c := by
  cases h : (va x y && va p q)
  · exact ⟨0, 0, 1, fun w => add_no x y p q h w, fun w => radd_no x y p q h w⟩
  · obtain ⟨h1, h2⟩ := Bool.and_eq_true_iff.1 h
    exact ⟨_, _, 0, fun w => add_yes x y p q h1 h2 w, fun w => radd_yes x y p q h1 h2 w⟩
theorem sub_both (x y p q : Int) : ∃ X Y c : Int, Gives 18 x y p q X Y c ∧ Gives 19 x y p q X Y c := by
  cases h : (va x y && va p q)
  · exact ⟨0, 0, 1, fun w => sub_no x y p q h w, fun w => rsub_no x y p q h w⟩
  · obtain ⟨h1, h2⟩ := Bool.and_eq_true_iff.1 h
    exact ⟨_, _, 0, fun w => sub_yes x y p q h1 h2 w, fun w => rsub_yes x y p q h1 h2 w⟩
theorem hull_both (x y p q : Int) : ∃ X Y c : Int, Gives 20 x y p q X Y c ∧ Gives 22 x y p q X Y c ∧ Gives 20 p q x y X Y c := by
  cases h : (va x y && va p q)
  · have h' : (va p q && va x y) = false := by rw [Bool.and_comm]; exact h
    exact ⟨0, 0, 1, fun w => hull_no x y p q h w, fun w => rhull_no x y p q h w, fun w => hull_no p q x y h' w⟩
  · obtain ⟨h1, h2⟩ := Bool.and_eq_true_iff.1 h
    refine ⟨_, _, 0, fun w => hull_yes x y p q h1 h2 w, fun w => rhull_yes x y p q h1 h2 w, fun w => ?_⟩
    rw [Int.min_comm, Int.max_comm]
    exact hull_yes p q x y h2 h1 w
theorem meet_both (x y p q : Int) : ∃ X Y c : Int, Gives 21 x y p q X Y c ∧ Gives 23 x y p q X Y c ∧ Gives 21 p q x y X Y c := by
  cases h : (va x y && va p q)
  · have h' : (va p q && va x y) = false := by rw [Bool.and_comm]; exact h
    exact ⟨0, 0, 1, fun w => meet_no x y p q h w, fun w => rmeet_no x y p q h w, fun w => meet_no p q x y h' w⟩
  · obtain ⟨h1, h2⟩ := Bool.and_eq_true_iff.1 h
    rcases Int.lt_or_le (min y q) (max x p) with hlt | hle
    · exact ⟨0, 0, 8, fun w => meet_none x y p q h1 h2 hlt w, fun w => rmeet_none x y p q h1 h2 hlt w, fun w => meet_none p q x y h2 h1 (by omega) w⟩
    · refine ⟨_, _, 0, fun w => meet_yes x y p q h1 h2 hle w, fun w => rmeet_yes x y p q h1 h2 hle w, fun w => ?_⟩
      rw [Int.min_comm, Int.max_comm]
      exact meet_yes p q x y h2 h1 (by omega) w
set_option maxRecDepth 20000 in
set_option maxHeartbeats 2000000 in
theorem sub_walk (x y p q : Int) (w : World) (he : Env w) : Calls Tryd.prog 4 #[iv x y, iv p q] w fun e w' => e = .returned (.bool true) ∧ Grew w w' := by
  obtain ⟨X, Y, c, C1, C2⟩ := sub_both x y p q
  replace C1 := Lib.hid C1
  replace C2 := Lib.hid C2
  have HE := Lib.hid he
  clear he
  have hg := Lib.hid (Grew.refl w)
  have tk0 := Lib.hid trivial
  have tk1 := Lib.hid trivial
  have tk2 := Lib.hid trivial
  go_enter Tryd.func4, Tryd.ntmps4
  go_wp2_with (first
    | (go_at_call 18; clear tk0; generalize hW : World.alloc _ _ = V; have ba : Box (w.heap.size) x y V := (by subst hW; exact ⟨by go_simp, by go_simp⟩); have bb : Box (w.heap.size + 1) p q V := (by subst hW; exact ⟨by go_simp, by go_simp⟩); have hv : Grew w V := (by subst hW; repeat (first | with_reducible exact Grew.refl _ | with_reducible refine Grew.alloc ?_ _ | with_reducible refine Grew.drw ?_ | with_reducible refine Grew.drwN ?_ _)); clear hW; replace hg := Lib.hid (hg.out.trans hv); clear hv; (with_reducible refine (C1.out _).mono ?_); rintro e w1 ⟨rfl, hg1⟩; replace ba := ba.grew hg1; replace bb := bb.grew hg1; replace hg := Lib.hid (hg.out.trans hg1); clear hg1; have ba0 := ba.c0; have ba1 := ba.c1; have bal : w.heap.size < w1.heap.size := World.block_lt_of_cell? _ _ ba0; have bb0 := bb.c0; have bb1 := bb.c1; have bbl : w.heap.size + 1 < w1.heap.size := World.block_lt_of_cell? _ _ bb0)
    | (go_at_call 19; clear tk1; generalize hW : World.alloc _ _ = V; have bc : Box (w1.heap.size) X Y V := (by subst hW; exact ⟨by go_simp, by go_simp⟩); have hv : Grew w1 V := (by subst hW; repeat (first | with_reducible exact Grew.refl _ | with_reducible refine Grew.alloc ?_ _ | with_reducible refine Grew.drw ?_ | with_reducible refine Grew.drwN ?_ _)); clear hW; clear ba0 ba1 bal; replace ba := ba.grew hv; clear bb0 bb1 bbl; replace bb := bb.grew hv; replace hg := Lib.hid (hg.out.trans hv); clear hv; (with_reducible refine (C2.out _).mono ?_); rintro e w2 ⟨rfl, hg1⟩; replace ba := ba.grew hg1; replace bb := bb.grew hg1; replace bc := bc.grew hg1; replace hg := Lib.hid (hg.out.trans hg1); clear hg1; have ba0 := ba.c0; have ba1 := ba.c1; have bal : w.heap.size < w2.heap.size := World.block_lt_of_cell? _ _ ba0; have bb0 := bb.c0; have bb1 := bb.c1; have bbl : w.heap.size + 1 < w2.heap.size := World.block_lt_of_cell? _ _ bb0; have bc0 := bc.c0; have bc1 := bc.c1; have bcl : w1.heap.size < w2.heap.size := World.block_lt_of_cell? _ _ bc0)
    | (go_at_call 13; clear tk2; generalize hW : World.alloc _ _ = V; have bd : Box (w2.heap.size) X Y V := (by subst hW; exact ⟨by go_simp, by go_simp⟩); have hv : Grew w2 V := (by subst hW; repeat (first | with_reducible exact Grew.refl _ | with_reducible refine Grew.alloc ?_ _ | with_reducible refine Grew.drw ?_ | with_reducible refine Grew.drwN ?_ _)); clear hW; clear ba0 ba1 bal; replace ba := ba.grew hv; clear bb0 bb1 bbl; replace bb := bb.grew hv; clear bc0 bc1 bcl; replace bc := bc.grew hv; replace hg := Lib.hid (hg.out.trans hv); clear hv; (with_reducible refine (examples_any _ (HE.out.grew hg.out)).mono ?_); rintro e w3 ⟨rfl, hg1⟩; replace ba := ba.grew hg1; replace bb := bb.grew hg1; replace bc := bc.grew hg1; replace bd := bd.grew hg1; replace hg := Lib.hid (hg.out.trans hg1); clear hg1; have ba0 := ba.c0; have ba1 := ba.c1; have bal : w.heap.size < w3.heap.size := World.block_lt_of_cell? _ _ ba0; have bb0 := bb.c0; have bb1 := bb.c1; have bbl : w.heap.size + 1 < w3.heap.size := World.block_lt_of_cell? _ _ bb0; have bc0 := bc.c0; have bc1 := bc.c1; have bcl : w1.heap.size < w3.heap.size := World.block_lt_of_cell? _ _ bc0; have bd0 := bd.c0; have bd1 := bd.c1; have bdl : w2.heap.size < w3.heap.size := World.block_lt_of_cell? _ _ bd0))
  go_ret
  exact ⟨rfl, hg.out⟩
set_option maxRecDepth 20000 in
set_option maxHeartbeats 2000000 in
theorem sets_walk (x y p q : Int) (w : World) (he : Env w) : Calls Tryd.prog 5 #[iv x y, iv p q] w fun e w' => e = .returned (.bool true) ∧ Grew w w' := by
  obtain ⟨X, Y, c, C1, C2, C3⟩ := hull_both x y p q
  obtain ⟨U, Z, d, D1, D2, D3⟩ := meet_both x y p q
  replace C1 := Lib.hid C1
  replace C2 := Lib.hid C2
  replace C3 := Lib.hid C3
  replace D1 := Lib.hid D1
  replace D2 := Lib.hid D2
  replace D3 := Lib.hid D3
  have HE := Lib.hid he
  clear he
  have hg := Lib.hid (Grew.refl w)
  have tk0 := Lib.hid trivial
  have tk1 := Lib.hid trivial
  have tk2 := Lib.hid trivial
  have tk3 := Lib.hid trivial
  have tk4 := Lib.hid trivial
  have tk5 := Lib.hid trivial
  have tk6 := Lib.hid trivial
  go_enter Tryd.func5, Tryd.ntmps5
  go_wp2_with (first
    | (go_at_call 20; clear tk0; generalize hW : World.alloc _ _ = V; have ba : Box (w.heap.size) x y V := (by subst hW; exact ⟨by go_simp, by go_simp⟩); have bb : Box (w.heap.size + 1) p q V := (by subst hW; exact ⟨by go_simp, by go_simp⟩); have hv : Grew w V := (by subst hW; repeat (first | with_reducible exact Grew.refl _ | with_reducible refine Grew.alloc ?_ _ | with_reducible refine Grew.drw ?_ | with_reducible refine Grew.drwN ?_ _)); clear hW; replace hg := Lib.hid (hg.out.trans hv); clear hv; (with_reducible refine (C1.out _).mono ?_); rintro e w1 ⟨rfl, hg1⟩; replace ba := ba.grew hg1; replace bb := bb.grew hg1; replace hg := Lib.hid (hg.out.trans hg1); clear hg1; have ba0 := ba.c0; have ba1 := ba.c1; have bal : w.heap.size < w1.heap.size := World.block_lt_of_cell? _ _ ba0; have bb0 := bb.c0; have bb1 := bb.c1; have bbl : w.heap.size + 1 < w1.heap.size := World.block_lt_of_cell? _ _ bb0)
    | (go_at_call 21; clear tk1; generalize hW : World.alloc _ _ = V; have bc : Box (w1.heap.size) X Y V := (by subst hW; exact ⟨by go_simp, by go_simp⟩); have hv : Grew w1 V := (by subst hW; repeat (first | with_reducible exact Grew.refl _ | with_reducible refine Grew.alloc ?_ _ | with_reducible refine Grew.drw ?_ | with_reducible refine Grew.drwN ?_ _)); clear hW; clear ba0 ba1 bal; replace ba := ba.grew hv; clear bb0 bb1 bbl; replace bb := bb.grew hv; replace hg := Lib.hid (hg.out.trans hv); clear hv; (with_reducible refine (D1.out _).mono ?_); rintro e w2 ⟨rfl, hg1⟩; replace ba := ba.grew hg1; replace bb := bb.grew hg1; replace bc := bc.grew hg1; replace hg := Lib.hid (hg.out.trans hg1); clear hg1; have ba0 := ba.c0; have ba1 := ba.c1; have bal : w.heap.size < w2.heap.size := World.block_lt_of_cell? _ _ ba0; have bb0 := bb.c0; have bb1 := bb.c1; have bbl : w.heap.size + 1 < w2.heap.size := World.block_lt_of_cell? _ _ bb0; have bc0 := bc.c0; have bc1 := bc.c1; have bcl : w1.heap.size < w2.heap.size := World.block_lt_of_cell? _ _ bc0)
    | (go_at_call 22; clear tk2; generalize hW : World.alloc _ _ = V; have bd : Box (w2.heap.size) U Z V := (by subst hW; exact ⟨by go_simp, by go_simp⟩); have hv : Grew w2 V := (by subst hW; repeat (first | with_reducible exact Grew.refl _ | with_reducible refine Grew.alloc ?_ _ | with_reducible refine Grew.drw ?_ | with_reducible refine Grew.drwN ?_ _)); clear hW; clear ba0 ba1 bal; replace ba := ba.grew hv; clear bb0 bb1 bbl; replace bb := bb.grew hv; clear bc0 bc1 bcl; replace bc := bc.grew hv; replace hg := Lib.hid (hg.out.trans hv); clear hv; (with_reducible refine (C2.out _).mono ?_); rintro e w3 ⟨rfl, hg1⟩; replace ba := ba.grew hg1; replace bb := bb.grew hg1; replace bc := bc.grew hg1; replace bd := bd.grew hg1; replace hg := Lib.hid (hg.out.trans hg1); clear hg1; have ba0 := ba.c0; have ba1 := ba.c1; have bal : w.heap.size < w3.heap.size := World.block_lt_of_cell? _ _ ba0; have bb0 := bb.c0; have bb1 := bb.c1; have bbl : w.heap.size + 1 < w3.heap.size := World.block_lt_of_cell? _ _ bb0; have bc0 := bc.c0; have bc1 := bc.c1; have bcl : w1.heap.size < w3.heap.size := World.block_lt_of_cell? _ _ bc0; have bd0 := bd.c0; have bd1 := bd.c1; have bdl : w2.heap.size < w3.heap.size := World.block_lt_of_cell? _ _ bd0)
    | (go_at_call 23; clear tk3; generalize hW : World.alloc _ _ = V; have be : Box (w3.heap.size) X Y V := (by subst hW; exact ⟨by go_simp, by go_simp⟩); have hv : Grew w3 V := (by subst hW; repeat (first | with_reducible exact Grew.refl _ | with_reducible refine Grew.alloc ?_ _ | with_reducible refine Grew.drw ?_ | with_reducible refine Grew.drwN ?_ _)); clear hW; clear ba0 ba1 bal; replace ba := ba.grew hv; clear bb0 bb1 bbl; replace bb := bb.grew hv; clear bc0 bc1 bcl; replace bc := bc.grew hv; clear bd0 bd1 bdl; replace bd := bd.grew hv; replace hg := Lib.hid (hg.out.trans hv); clear hv; (with_reducible refine (D2.out _).mono ?_); rintro e w4 ⟨rfl, hg1⟩; replace ba := ba.grew hg1; replace bb := bb.grew hg1; replace bc := bc.grew hg1; replace bd := bd.grew hg1; replace be := be.grew hg1; replace hg := Lib.hid (hg.out.trans hg1); clear hg1; have ba0 := ba.c0; have ba1 := ba.c1; have bal : w.heap.size < w4.heap.size := World.block_lt_of_cell? _ _ ba0; have bb0 := bb.c0; have bb1 := bb.c1; have bbl : w.heap.size + 1 < w4.heap.size := World.block_lt_of_cell? _ _ bb0; have bc0 := bc.c0; have bc1 := bc.c1; have bcl : w1.heap.size < w4.heap.size := World.block_lt_of_cell? _ _ bc0; have bd0 := bd.c0; have bd1 := bd.c1; have bdl : w2.heap.size < w4.heap.size := World.block_lt_of_cell? _ _ bd0; have be0 := be.c0; have be1 := be.c1; have bel : w3.heap.size < w4.heap.size := World.block_lt_of_cell? _ _ be0)
    | (go_at_call 20; clear tk4; generalize hW : World.alloc _ _ = V; have bf : Box (w4.heap.size) U Z V := (by subst hW; exact ⟨by go_simp, by go_simp⟩); have hv : Grew w4 V := (by subst hW; repeat (first | with_reducible exact Grew.refl _ | with_reducible refine Grew.alloc ?_ _ | with_reducible refine Grew.drw ?_ | with_reducible refine Grew.drwN ?_ _)); clear hW; clear ba0 ba1 bal; replace ba := ba.grew hv; clear bb0 bb1 bbl; replace bb := bb.grew hv; clear bc0 bc1 bcl; replace bc := bc.grew hv; clear bd0 bd1 bdl; replace bd := bd.grew hv; clear be0 be1 bel; replace be := be.grew hv; replace hg := Lib.hid (hg.out.trans hv); clear hv; (with_reducible refine (C3.out _).mono ?_); rintro e w5 ⟨rfl, hg1⟩; replace ba := ba.grew hg1; replace bb := bb.grew hg1; replace bc := bc.grew hg1; replace bd := bd.grew hg1; replace be := be.grew hg1; replace bf := bf.grew hg1; replace hg := Lib.hid (hg.out.trans hg1); clear hg1; have ba0 := ba.c0; have ba1 := ba.c1; have bal : w.heap.size < w5.heap.size := World.block_lt_of_cell? _ _ ba0; have bb0 := bb.c0; have bb1 := bb.c1; have bbl : w.heap.size + 1 < w5.heap.size := World.block_lt_of_cell? _ _ bb0; have bc0 := bc.c0; have bc1 := bc.c1; have bcl : w1.heap.size < w5.heap.size := World.block_lt_of_cell? _ _ bc0; have bd0 := bd.c0; have bd1 := bd.c1; have bdl : w2.heap.size < w5.heap.size := World.block_lt_of_cell? _ _ bd0; have be0 := be.c0; have be1 := be.c1; have bel : w3.heap.size < w5.heap.size := World.block_lt_of_cell? _ _ be0; have bf0 := bf.c0; have bf1 := bf.c1; have bfl : w4.heap.size < w5.heap.size := World.block_lt_of_cell? _ _ bf0)
    | (go_at_call 21; clear tk5; generalize hW : World.alloc _ _ = V; have bh : Box (w5.heap.size) X Y V := (by subst hW; exact ⟨by go_simp, by go_simp⟩); have hv : Grew w5 V := (by subst hW; repeat (first | with_reducible exact Grew.refl _ | with_reducible refine Grew.alloc ?_ _ | with_reducible refine Grew.drw ?_ | with_reducible refine Grew.drwN ?_ _)); clear hW; clear ba0 ba1 bal; replace ba := ba.grew hv; clear bb0 bb1 bbl; replace bb := bb.grew hv; clear bc0 bc1 bcl; replace bc := bc.grew hv; clear bd0 bd1 bdl; replace bd := bd.grew hv; clear be0 be1 bel; replace be := be.grew hv; clear bf0 bf1 bfl; replace bf := bf.grew hv; replace hg := Lib.hid (hg.out.trans hv); clear hv; (with_reducible refine (D3.out _).mono ?_); rintro e w6 ⟨rfl, hg1⟩; replace ba := ba.grew hg1; replace bb := bb.grew hg1; replace bc := bc.grew hg1; replace bd := bd.grew hg1; replace be := be.grew hg1; replace bf := bf.grew hg1; replace bh := bh.grew hg1; replace hg := Lib.hid (hg.out.trans hg1); clear hg1; have ba0 := ba.c0; have ba1 := ba.c1; have bal : w.heap.size < w6.heap.size := World.block_lt_of_cell? _ _ ba0; have bb0 := bb.c0; have bb1 := bb.c1; have bbl : w.heap.size + 1 < w6.heap.size := World.block_lt_of_cell? _ _ bb0; have bc0 := bc.c0; have bc1 := bc.c1; have bcl : w1.heap.size < w6.heap.size := World.block_lt_of_cell? _ _ bc0; have bd0 := bd.c0; have bd1 := bd.c1; have bdl : w2.heap.size < w6.heap.size := World.block_lt_of_cell? _ _ bd0; have be0 := be.c0; have be1 := be.c1; have bel : w3.heap.size < w6.heap.size := World.block_lt_of_cell? _ _ be0; have bf0 := bf.c0; have bf1 := bf.c1; have bfl : w4.heap.size < w6.heap.size := World.block_lt_of_cell? _ _ bf0; have bh0 := bh.c0; have bh1 := bh.c1; have bhl : w5.heap.size < w6.heap.size := World.block_lt_of_cell? _ _ bh0)
    | (go_at_call 13; clear tk6; generalize hW : World.alloc _ _ = V; have bi : Box (w6.heap.size) U Z V := (by subst hW; exact ⟨by go_simp, by go_simp⟩); have hv : Grew w6 V := (by subst hW; repeat (first | with_reducible exact Grew.refl _ | with_reducible refine Grew.alloc ?_ _ | with_reducible refine Grew.drw ?_ | with_reducible refine Grew.drwN ?_ _)); clear hW; clear ba0 ba1 bal; replace ba := ba.grew hv; clear bb0 bb1 bbl; replace bb := bb.grew hv; clear bc0 bc1 bcl; replace bc := bc.grew hv; clear bd0 bd1 bdl; replace bd := bd.grew hv; clear be0 be1 bel; replace be := be.grew hv; clear bf0 bf1 bfl; replace bf := bf.grew hv; clear bh0 bh1 bhl; replace bh := bh.grew hv; replace hg := Lib.hid (hg.out.trans hv); clear hv; (with_reducible refine (examples_any _ (HE.out.grew hg.out)).mono ?_); rintro e w7 ⟨rfl, hg1⟩; replace ba := ba.grew hg1; replace bb := bb.grew hg1; replace bc := bc.grew hg1; replace bd := bd.grew hg1; replace be := be.grew hg1; replace bf := bf.grew hg1; replace bh := bh.grew hg1; replace bi := bi.grew hg1; replace hg := Lib.hid (hg.out.trans hg1); clear hg1; have ba0 := ba.c0; have ba1 := ba.c1; have bal : w.heap.size < w7.heap.size := World.block_lt_of_cell? _ _ ba0; have bb0 := bb.c0; have bb1 := bb.c1; have bbl : w.heap.size + 1 < w7.heap.size := World.block_lt_of_cell? _ _ bb0; have bc0 := bc.c0; have bc1 := bc.c1; have bcl : w1.heap.size < w7.heap.size := World.block_lt_of_cell? _ _ bc0; have bd0 := bd.c0; have bd1 := bd.c1; have bdl : w2.heap.size < w7.heap.size := World.block_lt_of_cell? _ _ bd0; have be0 := be.c0; have be1 := be.c1; have bel : w3.heap.size < w7.heap.size := World.block_lt_of_cell? _ _ be0; have bf0 := bf.c0; have bf1 := bf.c1; have bfl : w4.heap.size < w7.heap.size := World.block_lt_of_cell? _ _ bf0; have bh0 := bh.c0; have bh1 := bh.c1; have bhl : w5.heap.size < w7.heap.size := World.block_lt_of_cell? _ _ bh0; have bi0 := bi.c0; have bi1 := bi.c1; have bil : w6.heap.size < w7.heap.size := World.block_lt_of_cell? _ _ bi0))
  go_ret
  exact ⟨rfl, hg.out⟩
theorem enters_ex : Enters Tryd.prog 13 := fun args w => by go_simp
theorem enters_valid : Enters Tryd.prog 14 := fun args w => by go_simp
theorem enters_rvalid : Enters Tryd.prog 15 := fun args w => by go_simp
theorem valid_g (x y : Int) (w : World) : Calls Tryd.prog 14 #[iv x y] w fun e w' => e = .returned (.bool (va x y)) ∧ Grew w w' := (valid_any x y w).mono fun _ _ ⟨h1, h2⟩ => ⟨h1, h2 ▸ bx_grew _ _ _⟩
theorem at_g (t : Int) (w : World) : Calls Tryd.prog 16 #[.int .i64 t] w fun e w' => e = .returned (iv (cl t) (cl t)) ∧ Grew w w' := (at_any t w).mono fun _ _ ⟨h1, h2⟩ => ⟨h1, h2 ▸ bx_grew _ _ _⟩
set_option maxRecDepth 20000 in
set_option maxHeartbeats 2000000 in
theorem add_walk (x y p q t : Int) (w : World) (he : Env w) : Calls Tryd.prog 3 #[iv x y, iv p q, .int .i64 t] w fun e w' => e = .returned (.bool true) ∧ Grew w w' := by
  obtain ⟨X, Y, c, C1, C2⟩ := add_both x y p q
  replace C1 := Lib.hid C1
  replace C2 := Lib.hid C2
  have HE := Lib.hid he
  clear he
  have hg := Lib.hid (Grew.refl w)
  have tk0 := Lib.hid trivial
  have tk1 := Lib.hid trivial
  have tk2 := Lib.hid trivial
  go_enter Tryd.func3, Tryd.ntmps3
  go_wp2_with (first
    | (go_at_call 10; clear tk0; generalize hW : World.alloc _ _ = V; have ba : Box (w.heap.size) x y V := (by subst hW; exact ⟨by go_simp, by go_simp⟩); have bb : Box (w.heap.size + 1) p q V := (by subst hW; exact ⟨by go_simp, by go_simp⟩); have hv : Grew w V := (by subst hW; repeat (first | with_reducible exact Grew.refl _ | with_reducible refine Grew.alloc ?_ _ | with_reducible refine Grew.drw ?_ | with_reducible refine Grew.drwN ?_ _)); clear hW; replace hg := Lib.hid (hg.out.trans hv); clear hv; (with_reducible refine (C1.out _).mono ?_); rintro e w1 ⟨rfl, hg1⟩; replace ba := ba.grew hg1; replace bb := bb.grew hg1; replace hg := Lib.hid (hg.out.trans hg1); clear hg1; have ba0 := ba.c0; have ba1 := ba.c1; have bal : w.heap.size < w1.heap.size := World.block_lt_of_cell? _ _ ba0; have bb0 := bb.c0; have bb1 := bb.c1; have bbl : w.heap.size + 1 < w1.heap.size := World.block_lt_of_cell? _ _ bb0)
    | (go_at_call 11; clear tk1; generalize hW : World.alloc _ _ = V; have bc : Box (w1.heap.size) X Y V := (by subst hW; exact ⟨by go_simp, by go_simp⟩); have hv : Grew w1 V := (by subst hW; repeat (first | with_reducible exact Grew.refl _ | with_reducible refine Grew.alloc ?_ _ | with_reducible refine Grew.drw ?_ | with_reducible refine Grew.drwN ?_ _)); clear hW; clear ba0 ba1 bal; replace ba := ba.grew hv; clear bb0 bb1 bbl; replace bb := bb.grew hv; replace hg := Lib.hid (hg.out.trans hv); clear hv; (with_reducible refine (C2.out _).mono ?_); rintro e w2 ⟨rfl, hg1⟩; replace ba := ba.grew hg1; replace bb := bb.grew hg1; replace bc := bc.grew hg1; replace hg := Lib.hid (hg.out.trans hg1); clear hg1; have ba0 := ba.c0; have ba1 := ba.c1; have bal : w.heap.size < w2.heap.size := World.block_lt_of_cell? _ _ ba0; have bb0 := bb.c0; have bb1 := bb.c1; have bbl : w.heap.size + 1 < w2.heap.size := World.block_lt_of_cell? _ _ bb0; have bc0 := bc.c0; have bc1 := bc.c1; have bcl : w1.heap.size < w2.heap.size := World.block_lt_of_cell? _ _ bc0)
    | (go_at_call 12; clear tk2; (with_reducible refine (rclamp_any _ _).mono ?_); rintro e _ ⟨rfl, rfl⟩))
  generalize hW : World.alloc _ _ = V
  have bd : Box w2.heap.size X Y V.drew := by subst hW; exact ⟨by go_simp, by go_simp⟩
  have hv : Grew w2 V.drew := by subst hW; exact ((Grew.refl _).alloc _).drw
  clear hW
  replace ba := ba.grew hv
  replace bb := bb.grew hv
  replace bc := bc.grew hv
  have hG : Grew w V.drew := hg.out.trans hv
  refine wp_posts [some 26, some 27, some 28, some 29, some 30, some 31, some 32, some 33, some 34, some 35, some 36, some 37, some 38, some 39, some 40, some 41, some 42, some 43, some 44, some 45, some 46, some 47, some 48, some 49, some 50, some 51, some 6] [false, false, false, false, false, false, true, false, false, false, false, false, false, false, false, false, false, false, false, false, false, false, false, false, false, false, true, true, true, true, true, true, true, true, true, true, true, true, true, true, true, true, true, true, true, true, true, true, true, true, true, true] [fun v _ => v = .bool (true), fun v _ => v = .bool (true), fun v _ => v = iv (x) (y), fun v _ => v = .bool (va x y), fun v _ => v = iv (x) (y), fun v _ => v = .bool (va x y), fun v _ => v = .bool (true), fun v _ => v = .bool (true), fun v _ => v = .bool (true), fun v _ => v = .int .i64 (t), fun v _ => v = iv (cl t) (cl t), fun v _ => v = .int .i64 (cl t), fun v _ => v = .int .i64 (cl t), fun v _ => v = iv (cl t) (cl t), fun v _ => v = .bool (true), fun v _ => v = .bool (true), fun v _ => v = .bool (true), fun v _ => v = iv (X) (Y), fun v _ => v = iv (X) (Y), fun v _ => v = .bool (true), fun v _ => v = .bool (true), fun v _ => v = .bool (true), fun v _ => v = .int .i64 (c), fun v _ => v = .int .i64 (c), fun v _ => v = .bool (true), fun v _ => v = .bool (true), fun v _ => v = .bool (true)] (by kernel_rfl) (by kernel_rfl) rfl ?_ ⟨?_, ?_, ?_, ?_, ?_, ?_, ?_, ?_, ?_, ?_, ?_, ?_, ?_, ?_, ?_, ?_, ?_, ?_, ?_, ?_, ?_, ?_, ?_, ?_, ?_, ?_, ?_, trivial⟩ ?_
  · exact ⟨fun _ _ _ _ h => h, fun _ _ _ _ h => h, fun _ _ _ _ h => h, fun _ _ _ _ h => h, fun _ _ _ _ h => h, fun _ _ _ _ h => h, fun _ _ _ _ h => h, fun _ _ _ _ h => h, fun _ _ _ _ h => h, fun _ _ _ _ h => h, fun _ _ _ _ h => h, fun _ _ _ _ h => h, fun _ _ _ _ h => h, fun _ _ _ _ h => h, fun _ _ _ _ h => h, fun _ _ _ _ h => h, fun _ _ _ _ h => h, fun _ _ _ _ h => h, fun _ _ _ _ h => h, fun _ _ _ _ h => h, fun _ _ _ _ h => h, fun _ _ _ _ h => h, fun _ _ _ _ h => h, fun _ _ _ _ h => h, fun _ _ _ _ h => h, fun _ _ _ _ h => h, fun _ _ _ _ h => h, trivial⟩
  · intro u w hR hd; exact runs_c0 enters_ex  (callp (fun _ e => e) (examples_any _ (HE.out.grew (hG.trans hR))))
  · intro u w hR hd; exact runs_mv (ev (hd.1 rfl)) ⟨Grew.refl _, rfl⟩
  · intro u w hR hd; exact ⟨fun _ => runs_box23 (ev rfl) (ba.kept hR) ⟨Grew.refl _, rfl⟩, fun hn => absurd (hd.1 rfl) hn⟩
  · intro u w hR hd; exact ⟨fun _ => runs_c1 enters_valid (ev (hd.1 rfl)) (callp (fun _ e => e) (valid_g _ _ _)), fun hn => absurd (hd.2.1 rfl) hn⟩
  · intro u w hR hd; exact ⟨fun _ => runs_box23 (ev rfl) (ba.kept hR) ⟨Grew.refl _, rfl⟩, fun hn => absurd (hd.1 rfl) hn⟩
  · intro u w hR hd; exact ⟨fun _ => runs_c1 enters_rvalid (ev (hd.1 rfl)) (callp (fun _ e => e) (rvalid_g _ _ _)), fun hn => absurd (hd.2.2.1 rfl) hn⟩
  · intro u w hR hd; exact ⟨fun _ => runs_eql4 (ev (hd.1 rfl)) (ev (hd.2.1 rfl)) ⟨Grew.refl _, (congrArg Value.bool (by simp))⟩, fun hn => absurd (hd.2.2.1 rfl) hn⟩
  · intro u w hR hd; exact runs_an (ev (hd.1 rfl)) (fun hb => ev ((hd.2.1 rfl))) ⟨Grew.refl _, rfl⟩
  · intro u w hR hd; exact runs_mv (ev (hd.1 rfl)) ⟨Grew.refl _, rfl⟩
  · intro u w hR hd; exact ⟨fun _ => runs_mv (ev rfl) ⟨Grew.refl _, rfl⟩, fun hn => absurd (hd.1 rfl) hn⟩
  · intro u w hR hd; exact ⟨fun _ => runs_c1 enters_at (ev (hd.1 rfl)) (callp (fun _ e => e) (at_g _ _)), fun hn => absurd (hd.2.1 rfl) hn⟩
  · intro u w hR hd; exact ⟨fun _ => runs_mv (ev rfl) ⟨Grew.refl _, rfl⟩, fun hn => absurd (hd.1 rfl) hn⟩
  · intro u w hR hd; exact ⟨fun _ => runs_mv (ev rfl) ⟨Grew.refl _, rfl⟩, fun hn => absurd (hd.1 rfl) hn⟩
  · intro u w hR hd; exact ⟨fun _ => runs_c2 enters_of (ev (hd.1 rfl)) (ev (hd.2.1 rfl)) (callp (fun _ e => e) (of_g _ _ _)), fun hn => absurd (hd.2.2.2.1 rfl) hn⟩
  · intro u w hR hd; exact ⟨fun _ => runs_eql23 (ev (hd.1 rfl)) (ev (hd.2.1 rfl)) ⟨Grew.refl _, (congrArg Value.bool (by simp))⟩, fun hn => absurd (hd.2.2.1 rfl) hn⟩
  · intro u w hR hd; exact runs_an (ev (hd.1 rfl)) (fun hb => ev ((hd.2.1 rfl))) ⟨Grew.refl _, rfl⟩
  · intro u w hR hd; exact runs_mv (ev (hd.1 rfl)) ⟨Grew.refl _, rfl⟩
  · intro u w hR hd; exact ⟨fun _ => runs_box23 (ev rfl) (bc.kept hR) ⟨Grew.refl _, rfl⟩, fun hn => absurd (hd.1 rfl) hn⟩
  · intro u w hR hd; exact ⟨fun _ => runs_box23 (ev rfl) (bd.kept hR) ⟨Grew.refl _, rfl⟩, fun hn => absurd (hd.1 rfl) hn⟩
  · intro u w hR hd; exact ⟨fun _ => runs_eql23 (ev (hd.1 rfl)) (ev (hd.2.1 rfl)) ⟨Grew.refl _, (congrArg Value.bool (by simp))⟩, fun hn => absurd (hd.2.2.1 rfl) hn⟩
  · intro u w hR hd; exact runs_an (ev (hd.1 rfl)) (fun hb => ev ((hd.2.1 rfl))) ⟨Grew.refl _, rfl⟩
  · intro u w hR hd; exact runs_mv (ev (hd.1 rfl)) ⟨Grew.refl _, rfl⟩
  · intro u w hR hd; exact ⟨fun _ => runs_mv (ev rfl) ⟨Grew.refl _, rfl⟩, fun hn => absurd (hd.1 rfl) hn⟩
  · intro u w hR hd; exact ⟨fun _ => runs_mv (ev rfl) ⟨Grew.refl _, rfl⟩, fun hn => absurd (hd.1 rfl) hn⟩
  · intro u w hR hd; exact ⟨fun _ => runs_eql24 (ev (hd.1 rfl)) (ev (hd.2.1 rfl)) ⟨Grew.refl _, (congrArg Value.bool (by simp))⟩, fun hn => absurd (hd.2.2.1 rfl) hn⟩
  · intro u w hR hd; exact runs_an (ev (hd.1 rfl)) (fun hb => ev ((hd.2.1 rfl))) ⟨Grew.refl _, rfl⟩
  · intro u w hR hd; exact runs_mva (ev (hd.1 rfl)) ⟨Grew.refl _, rfl⟩
  · intro u w' hR h
    have he : u 6 = .bool true := h 26 (by decide)
    simp only [mixA, mixL, cond_true, cond_false]
    rw [he]
    go_wp2
    go_ret
    exact ⟨rfl, hG.trans hR⟩
end Go.Proofs.YtoehjejpkaffiaaDoor
