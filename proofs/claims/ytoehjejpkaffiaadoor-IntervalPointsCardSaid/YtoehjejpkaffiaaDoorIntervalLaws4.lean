/-
  THE STATEMENT IntervalPoints OF LAYER 5 (interval), WALKED: it returns true, and nothing that was there before has changed.
-/
import Derived.Test.YtoehjejpkaffiaaDoorIntervalLaws
import Derived.Deep.QuietTactic
import Derived.BigQuiet
namespace Go.Proofs.YtoehjejpkaffiaaDoor
open Go.RowKit Go.IntWalk

/-- The time t lies in the interval from x to y. -/
def In (x y t : Int) : Prop := (0 ≤ x ∧ y ≤ 1099511627776) ∧ x ≤ t ∧ t ≤ y
theorem In.va {x y t : Int} (h : In x y t) : va x y = true := va_iff.2 ⟨h.1.1, Int.le_trans h.2.1 h.2.2, h.1.2⟩
theorem has_in {x y t : Int} (h : In x y t) (w : World) : Calls Tryd.prog 26 #[iv x y, .int .i64 t] w fun e w' => e = .returned (.bool true) ∧ Grew w w' :=
  (has_any x y t w).mono fun _ _ ⟨h1, h2⟩ => ⟨h1.trans (congrArg (fun b => Ending.returned (.bool b)) (by rw [h.va]; simp [h.2.1, h.2.2])), h2⟩
theorem has_out {x y t : Int} (h : ¬ In x y t) (w : World) : Calls Tryd.prog 26 #[iv x y, .int .i64 t] w fun e w' => e = .returned (.bool false) ∧ Grew w w' :=
  (has_any x y t w).mono fun _ _ ⟨h1, h2⟩ => ⟨h1.trans (congrArg (fun b => Ending.returned (.bool b)) (by
    cases hv : Go.Proofs.YtoehjejpkaffiaaDoor.va x y
    · rfl
    · obtain ⟨a, b, c⟩ := va_iff.1 hv
      rw [Bool.eq_false_iff]
      intro e
      simp only [Bool.and_eq_true, decide_eq_true_eq] at e
      exact h ⟨⟨a, c⟩, e.1.2, e.2⟩)), h2⟩
theorem In.sum {x y p q t u : Int} (h : In x y t) (h' : In p q u) {T : Int} (hT : T = min (t + u) 1099511627776) : In (cl (x + p)) (cl (y + q)) T := by
  obtain ⟨⟨a1, a2⟩, a3, a4⟩ := h
  obtain ⟨⟨b1, b2⟩, b3, b4⟩ := h'
  unfold In cl
  omega
theorem In.diff {x y p q t u : Int} (h : In x y t) (h' : In p q u) (hT : u ≤ t) : In (cl (x - q)) (cl (y - p)) (t - u) := by
  obtain ⟨⟨a1, a2⟩, a3, a4⟩ := h
  obtain ⟨⟨b1, b2⟩, b3, b4⟩ := h'
  unfold In cl
  omega
theorem In.hull {x y p q t : Int} (h : In x y t) (h' : 0 ≤ p ∧ q ≤ 1099511627776) : In (min x p) (max y q) t := by
  obtain ⟨⟨a1, a2⟩, a3, a4⟩ := h
  unfold In
  omega
theorem In.hull2 {x y p q t : Int} (h : In x y t) (h' : 0 ≤ p ∧ q ≤ 1099511627776) : In (min p x) (max q y) t := by
  obtain ⟨⟨a1, a2⟩, a3, a4⟩ := h
  unfold In
  omega
theorem before_lit {x y p q : Int} (h1 : va x y = true) (h2 : va p q = true) (b : Bool) (hb : decide (y < p) = b) (w : World) : Calls Tryd.prog 24 #[iv x y, iv p q] w fun e w' => e = .returned (.bool b) ∧ Grew w w' := by
  have := before_any x y p q w
  rw [h1, h2, hb] at this
  exact this
theorem maybe_lit {x y p q : Int} (h1 : va x y = true) (h2 : va p q = true) (b : Bool) (hb : decide (x < q) = b) (w : World) : Calls Tryd.prog 25 #[iv x y, iv p q] w fun e w' => e = .returned (.bool b) ∧ Grew w w' := by
  have := maybe_any x y p q w
  rw [h1, h2, hb] at this
  exact this
set_option maxRecDepth 20000 in
set_option maxHeartbeats 4000000 in
theorem points_a (x y p q t u : Int) (ha : ¬ In x y t) (w : World) (he : Env w) : Calls Tryd.prog 9 #[iv x y, iv p q, .agg #[.int .i64 t, .int .i64 u]] w fun e w' => e = .returned (.bool true) ∧ Grew w w' := by
  have HE := Lib.hid he
  have HA := Lib.hid ha
  clear he ha
  have hg := Lib.hid (Grew.refl w)
  have tk0 := Lib.hid trivial
  have tk1 := Lib.hid trivial
  have tk2 := Lib.hid trivial
  go_enter Tryd.func9, Tryd.ntmps9
  go_wp2
  go_quiet (fail)
  go_wp2_with (first
    | (go_at_call 13; clear tk0; generalize hW : World.drewN _ _ = V; have ba : Box (w.heap.size) x y V := (by subst hW; exact ⟨by go_simp, by go_simp⟩); have bb : Box (w.heap.size + 1) p q V := (by subst hW; exact ⟨by go_simp, by go_simp⟩); have hv : Grew w V := (by subst hW; repeat (first | with_reducible exact Grew.refl _ | with_reducible refine Grew.alloc ?_ _ | with_reducible refine Grew.drw ?_ | with_reducible refine Grew.drwN ?_ _)); clear hW; replace hg := Lib.hid (hg.out.trans hv); clear hv; (with_reducible refine (examples_any _ (HE.out.grew hg.out)).mono ?_); rintro e w1 ⟨rfl, hg1⟩; replace ba := ba.grew hg1; replace bb := bb.grew hg1; replace hg := Lib.hid (hg.out.trans hg1); clear hg1; have ba0 := ba.c0; have ba1 := ba.c1; have bal : w.heap.size < w1.heap.size := World.block_lt_of_cell? _ _ ba0; have bb0 := bb.c0; have bb1 := bb.c1; have bbl : w.heap.size + 1 < w1.heap.size := World.block_lt_of_cell? _ _ bb0)
    | (go_at_call 26; clear tk1; (with_reducible refine (has_out HA.out _).mono ?_); rintro e w2 ⟨rfl, hg1⟩; clear ba0 ba1 bal; clear bb0 bb1 bbl; replace ba := ba.grew hg1; replace bb := bb.grew hg1; replace hg := Lib.hid (hg.out.trans hg1); clear hg1; have ba0 := ba.c0; have ba1 := ba.c1; have bal : w.heap.size < w2.heap.size := World.block_lt_of_cell? _ _ ba0; have bb0 := bb.c0; have bb1 := bb.c1; have bbl : w.heap.size + 1 < w2.heap.size := World.block_lt_of_cell? _ _ bb0)
    | (go_at_call 13; clear tk2; (with_reducible refine (examples_any _ (HE.out.grew hg.out)).mono ?_); rintro e w3 ⟨rfl, hg1⟩; clear ba0 ba1 bal; clear bb0 bb1 bbl; replace ba := ba.grew hg1; replace bb := bb.grew hg1; replace hg := Lib.hid (hg.out.trans hg1); clear hg1; have ba0 := ba.c0; have ba1 := ba.c1; have bal : w.heap.size < w3.heap.size := World.block_lt_of_cell? _ _ ba0; have bb0 := bb.c0; have bb1 := bb.c1; have bbl : w.heap.size + 1 < w3.heap.size := World.block_lt_of_cell? _ _ bb0))
  go_ret
  exact ⟨rfl, hg.out⟩
set_option maxRecDepth 20000 in
set_option maxHeartbeats 4000000 in
theorem points_b (x y p q t u : Int) (ha : In x y t) (hb : ¬ In p q u) (w : World) (he : Env w) : Calls Tryd.prog 9 #[iv x y, iv p q, .agg #[.int .i64 t, .int .i64 u]] w fun e w' => e = .returned (.bool true) ∧ Grew w w' := by
  have HE := Lib.hid he
  have HA := Lib.hid ha
  have HB := Lib.hid hb
  clear he ha hb
  have hg := Lib.hid (Grew.refl w)
  have tk0 := Lib.hid trivial
  have tk1 := Lib.hid trivial
  have tk2 := Lib.hid trivial
  have tk3 := Lib.hid trivial
  go_enter Tryd.func9, Tryd.ntmps9
  go_wp2
  go_quiet (fail)
  go_wp2_with (first
    | (go_at_call 13; clear tk0; generalize hW : World.drewN _ _ = V; have ba : Box (w.heap.size) x y V := (by subst hW; exact ⟨by go_simp, by go_simp⟩); have bb : Box (w.heap.size + 1) p q V := (by subst hW; exact ⟨by go_simp, by go_simp⟩); have hv : Grew w V := (by subst hW; repeat (first | with_reducible exact Grew.refl _ | with_reducible refine Grew.alloc ?_ _ | with_reducible refine Grew.drw ?_ | with_reducible refine Grew.drwN ?_ _)); clear hW; replace hg := Lib.hid (hg.out.trans hv); clear hv; (with_reducible refine (examples_any _ (HE.out.grew hg.out)).mono ?_); rintro e w1 ⟨rfl, hg1⟩; replace ba := ba.grew hg1; replace bb := bb.grew hg1; replace hg := Lib.hid (hg.out.trans hg1); clear hg1; have ba0 := ba.c0; have ba1 := ba.c1; have bal : w.heap.size < w1.heap.size := World.block_lt_of_cell? _ _ ba0; have bb0 := bb.c0; have bb1 := bb.c1; have bbl : w.heap.size + 1 < w1.heap.size := World.block_lt_of_cell? _ _ bb0)
    | (go_at_call 26; clear tk1; (with_reducible refine (has_in HA.out _).mono ?_); rintro e w2 ⟨rfl, hg1⟩; clear ba0 ba1 bal; clear bb0 bb1 bbl; replace ba := ba.grew hg1; replace bb := bb.grew hg1; replace hg := Lib.hid (hg.out.trans hg1); clear hg1; have ba0 := ba.c0; have ba1 := ba.c1; have bal : w.heap.size < w2.heap.size := World.block_lt_of_cell? _ _ ba0; have bb0 := bb.c0; have bb1 := bb.c1; have bbl : w.heap.size + 1 < w2.heap.size := World.block_lt_of_cell? _ _ bb0)
    | (go_at_call 26; clear tk2; (with_reducible refine (has_out HB.out _).mono ?_); rintro e w3 ⟨rfl, hg1⟩; clear ba0 ba1 bal; clear bb0 bb1 bbl; replace ba := ba.grew hg1; replace bb := bb.grew hg1; replace hg := Lib.hid (hg.out.trans hg1); clear hg1; have ba0 := ba.c0; have ba1 := ba.c1; have bal : w.heap.size < w3.heap.size := World.block_lt_of_cell? _ _ ba0; have bb0 := bb.c0; have bb1 := bb.c1; have bbl : w.heap.size + 1 < w3.heap.size := World.block_lt_of_cell? _ _ bb0)
    | (go_at_call 13; clear tk3; (with_reducible refine (examples_any _ (HE.out.grew hg.out)).mono ?_); rintro e w4 ⟨rfl, hg1⟩; clear ba0 ba1 bal; clear bb0 bb1 bbl; replace ba := ba.grew hg1; replace bb := bb.grew hg1; replace hg := Lib.hid (hg.out.trans hg1); clear hg1; have ba0 := ba.c0; have ba1 := ba.c1; have bal : w.heap.size < w4.heap.size := World.block_lt_of_cell? _ _ ba0; have bb0 := bb.c0; have bb1 := bb.c1; have bbl : w.heap.size + 1 < w4.heap.size := World.block_lt_of_cell? _ _ bb0))
  go_ret
  exact ⟨rfl, hg.out⟩
set_option maxRecDepth 20000 in
set_option maxHeartbeats 4000000 in
theorem points_in (x y p q t u : Int) (ha : In x y t) (hb : In p q u) (bB bM : Bool) (hB : decide (y < p) = bB) (hM : decide (x < q) = bM) (w : World) (he : Env w) : Calls Tryd.prog 9 #[iv x y, iv p q, .agg #[.int .i64 t, .int .i64 u]] w fun e w' => e = .returned (.bool true) ∧ Grew w w' := by
  have HE := Lib.hid he
  have HA := Lib.hid ha
  have HB := Lib.hid hb
  have HJ := Lib.hid (ha.hull hb.1)
  have HK := Lib.hid (hb.hull2 ha.1)
  have HC := Lib.hid hB
  have HD := Lib.hid hM
  have t0 : 0 ≤ t := Int.le_trans ha.1.1 ha.2.1
  have t1 : t ≤ 1099511627776 := Int.le_trans ha.2.2 ha.1.2
  have u0 : 0 ≤ u := Int.le_trans hb.1.1 hb.2.1
  have u1 : u ≤ 1099511627776 := Int.le_trans hb.2.2 hb.1.2
  have f1 : bB = true → t < u := fun e => by
    rw [e] at hB
    have := of_decide_eq_true hB
    have := ha.2.2
    have := hb.2.1
    omega
  have f2 : bM = false → u ≤ t := fun e => by
    rw [e] at hM
    have := of_decide_eq_false hM
    have := ha.2.1
    have := hb.2.2
    omega
  have F1 := Lib.hid f1
  have F2 := Lib.hid f2
  clear he ha hb hB hM f1 f2
  have hg := Lib.hid (Grew.refl w)
  have tk0 := Lib.hid trivial
  have tk1 := Lib.hid trivial
  have tk2 := Lib.hid trivial
  have tk3 := Lib.hid trivial
  have tk4 := Lib.hid trivial
  have tk5 := Lib.hid trivial
  have tk6 := Lib.hid trivial
  have tk7 := Lib.hid trivial
  have tk8 := Lib.hid trivial
  have tk9 := Lib.hid trivial
  have tk10 := Lib.hid trivial
  have tk11 := Lib.hid trivial
  go_enter Tryd.func9, Tryd.ntmps9
  go_wp2
  go_quiet (fail)
  go_wp2_with (first
    | (go_at_call 13; clear tk0; generalize hW : World.drewN _ _ = V; have ba : Box (w.heap.size) x y V := (by subst hW; exact ⟨by go_simp, by go_simp⟩); have bb : Box (w.heap.size + 1) p q V := (by subst hW; exact ⟨by go_simp, by go_simp⟩); have hv : Grew w V := (by subst hW; repeat (first | with_reducible exact Grew.refl _ | with_reducible refine Grew.alloc ?_ _ | with_reducible refine Grew.drw ?_ | with_reducible refine Grew.drwN ?_ _)); clear hW; replace hg := Lib.hid (hg.out.trans hv); clear hv; (with_reducible refine (examples_any _ (HE.out.grew hg.out)).mono ?_); rintro e w1 ⟨rfl, hg1⟩; replace ba := ba.grew hg1; replace bb := bb.grew hg1; replace hg := Lib.hid (hg.out.trans hg1); clear hg1; have ba0 := ba.c0; have ba1 := ba.c1; have bal : w.heap.size < w1.heap.size := World.block_lt_of_cell? _ _ ba0; have bb0 := bb.c0; have bb1 := bb.c1; have bbl : w.heap.size + 1 < w1.heap.size := World.block_lt_of_cell? _ _ bb0)
    | (go_at_call 26; clear tk1; (with_reducible refine (has_in HA.out _).mono ?_); rintro e w2 ⟨rfl, hg1⟩; clear ba0 ba1 bal; clear bb0 bb1 bbl; replace ba := ba.grew hg1; replace bb := bb.grew hg1; replace hg := Lib.hid (hg.out.trans hg1); clear hg1; have ba0 := ba.c0; have ba1 := ba.c1; have bal : w.heap.size < w2.heap.size := World.block_lt_of_cell? _ _ ba0; have bb0 := bb.c0; have bb1 := bb.c1; have bbl : w.heap.size + 1 < w2.heap.size := World.block_lt_of_cell? _ _ bb0)
    | (go_at_call 26; clear tk2; (with_reducible refine (has_in HB.out _).mono ?_); rintro e w3 ⟨rfl, hg1⟩; clear ba0 ba1 bal; clear bb0 bb1 bbl; replace ba := ba.grew hg1; replace bb := bb.grew hg1; replace hg := Lib.hid (hg.out.trans hg1); clear hg1; have ba0 := ba.c0; have ba1 := ba.c1; have bal : w.heap.size < w3.heap.size := World.block_lt_of_cell? _ _ ba0; have bb0 := bb.c0; have bb1 := bb.c1; have bbl : w.heap.size + 1 < w3.heap.size := World.block_lt_of_cell? _ _ bb0)
    | (go_at_call 10; clear tk3; (with_reducible refine (add_yes _ _ _ _ HA.out.va HB.out.va _).mono ?_); rintro e w4 ⟨rfl, hg1⟩; clear ba0 ba1 bal; clear bb0 bb1 bbl; replace ba := ba.grew hg1; replace bb := bb.grew hg1; replace hg := Lib.hid (hg.out.trans hg1); clear hg1; have ba0 := ba.c0; have ba1 := ba.c1; have bal : w.heap.size < w4.heap.size := World.block_lt_of_cell? _ _ ba0; have bb0 := bb.c0; have bb1 := bb.c1; have bbl : w.heap.size + 1 < w4.heap.size := World.block_lt_of_cell? _ _ bb0)
    | (go_at_call 18; clear tk4; generalize hW : World.alloc _ _ = V; have bc : Box (w4.heap.size) (cl (x + p)) (cl (y + q)) V := (by subst hW; exact ⟨by go_simp, by go_simp⟩); have hv : Grew w4 V := (by subst hW; repeat (first | with_reducible exact Grew.refl _ | with_reducible refine Grew.alloc ?_ _ | with_reducible refine Grew.drw ?_ | with_reducible refine Grew.drwN ?_ _)); clear hW; clear ba0 ba1 bal; replace ba := ba.grew hv; clear bb0 bb1 bbl; replace bb := bb.grew hv; replace hg := Lib.hid (hg.out.trans hv); clear hv; (with_reducible refine (sub_yes _ _ _ _ HA.out.va HB.out.va _).mono ?_); rintro e w5 ⟨rfl, hg1⟩; replace ba := ba.grew hg1; replace bb := bb.grew hg1; replace bc := bc.grew hg1; replace hg := Lib.hid (hg.out.trans hg1); clear hg1; have ba0 := ba.c0; have ba1 := ba.c1; have bal : w.heap.size < w5.heap.size := World.block_lt_of_cell? _ _ ba0; have bb0 := bb.c0; have bb1 := bb.c1; have bbl : w.heap.size + 1 < w5.heap.size := World.block_lt_of_cell? _ _ bb0; have bc0 := bc.c0; have bc1 := bc.c1; have bcl : w4.heap.size < w5.heap.size := World.block_lt_of_cell? _ _ bc0)
    | (go_at_call 20; clear tk5; generalize hW : World.alloc _ _ = V; have bd : Box (w5.heap.size) (cl (x - q)) (cl (y - p)) V := (by subst hW; exact ⟨by go_simp, by go_simp⟩); have hv : Grew w5 V := (by subst hW; repeat (first | with_reducible exact Grew.refl _ | with_reducible refine Grew.alloc ?_ _ | with_reducible refine Grew.drw ?_ | with_reducible refine Grew.drwN ?_ _)); clear hW; clear ba0 ba1 bal; replace ba := ba.grew hv; clear bb0 bb1 bbl; replace bb := bb.grew hv; clear bc0 bc1 bcl; replace bc := bc.grew hv; replace hg := Lib.hid (hg.out.trans hv); clear hv; (with_reducible refine (hull_yes _ _ _ _ HA.out.va HB.out.va _).mono ?_); rintro e w6 ⟨rfl, hg1⟩; replace ba := ba.grew hg1; replace bb := bb.grew hg1; replace bc := bc.grew hg1; replace bd := bd.grew hg1; replace hg := Lib.hid (hg.out.trans hg1); clear hg1; have ba0 := ba.c0; have ba1 := ba.c1; have bal : w.heap.size < w6.heap.size := World.block_lt_of_cell? _ _ ba0; have bb0 := bb.c0; have bb1 := bb.c1; have bbl : w.heap.size + 1 < w6.heap.size := World.block_lt_of_cell? _ _ bb0; have bc0 := bc.c0; have bc1 := bc.c1; have bcl : w4.heap.size < w6.heap.size := World.block_lt_of_cell? _ _ bc0; have bd0 := bd.c0; have bd1 := bd.c1; have bdl : w5.heap.size < w6.heap.size := World.block_lt_of_cell? _ _ bd0)
    | (go_at_call 26; clear tk6; generalize hW : World.alloc _ _ = V; have be : Box (w6.heap.size) (min x p) (max y q) V := (by subst hW; exact ⟨by go_simp, by go_simp⟩); have hv : Grew w6 V := (by subst hW; repeat (first | with_reducible exact Grew.refl _ | with_reducible refine Grew.alloc ?_ _ | with_reducible refine Grew.drw ?_ | with_reducible refine Grew.drwN ?_ _)); clear hW; clear ba0 ba1 bal; replace ba := ba.grew hv; clear bb0 bb1 bbl; replace bb := bb.grew hv; clear bc0 bc1 bcl; replace bc := bc.grew hv; clear bd0 bd1 bdl; replace bd := bd.grew hv; replace hg := Lib.hid (hg.out.trans hv); clear hv; (with_reducible refine (has_in (HA.out.sum HB.out (by omega)) _).mono ?_); rintro e w7 ⟨rfl, hg1⟩; replace ba := ba.grew hg1; replace bb := bb.grew hg1; replace bc := bc.grew hg1; replace bd := bd.grew hg1; replace be := be.grew hg1; replace hg := Lib.hid (hg.out.trans hg1); clear hg1; have ba0 := ba.c0; have ba1 := ba.c1; have bal : w.heap.size < w7.heap.size := World.block_lt_of_cell? _ _ ba0; have bb0 := bb.c0; have bb1 := bb.c1; have bbl : w.heap.size + 1 < w7.heap.size := World.block_lt_of_cell? _ _ bb0; have bc0 := bc.c0; have bc1 := bc.c1; have bcl : w4.heap.size < w7.heap.size := World.block_lt_of_cell? _ _ bc0; have bd0 := bd.c0; have bd1 := bd.c1; have bdl : w5.heap.size < w7.heap.size := World.block_lt_of_cell? _ _ bd0; have be0 := be.c0; have be1 := be.c1; have bel : w6.heap.size < w7.heap.size := World.block_lt_of_cell? _ _ be0)
    | (go_at_call 26; clear tk7; (with_reducible refine (has_in (HA.out.diff HB.out (by omega)) _).mono ?_); rintro e w8 ⟨rfl, hg1⟩; clear ba0 ba1 bal; clear bb0 bb1 bbl; clear bc0 bc1 bcl; clear bd0 bd1 bdl; clear be0 be1 bel; replace ba := ba.grew hg1; replace bb := bb.grew hg1; replace bc := bc.grew hg1; replace bd := bd.grew hg1; replace be := be.grew hg1; replace hg := Lib.hid (hg.out.trans hg1); clear hg1; have ba0 := ba.c0; have ba1 := ba.c1; have bal : w.heap.size < w8.heap.size := World.block_lt_of_cell? _ _ ba0; have bb0 := bb.c0; have bb1 := bb.c1; have bbl : w.heap.size + 1 < w8.heap.size := World.block_lt_of_cell? _ _ bb0; have bc0 := bc.c0; have bc1 := bc.c1; have bcl : w4.heap.size < w8.heap.size := World.block_lt_of_cell? _ _ bc0; have bd0 := bd.c0; have bd1 := bd.c1; have bdl : w5.heap.size < w8.heap.size := World.block_lt_of_cell? _ _ bd0; have be0 := be.c0; have be1 := be.c1; have bel : w6.heap.size < w8.heap.size := World.block_lt_of_cell? _ _ be0)
    | (go_at_call 26; clear tk8; (with_reducible refine (has_in HJ.out _).mono ?_); rintro e w9 ⟨rfl, hg1⟩; clear ba0 ba1 bal; clear bb0 bb1 bbl; clear bc0 bc1 bcl; clear bd0 bd1 bdl; clear be0 be1 bel; replace ba := ba.grew hg1; replace bb := bb.grew hg1; replace bc := bc.grew hg1; replace bd := bd.grew hg1; replace be := be.grew hg1; replace hg := Lib.hid (hg.out.trans hg1); clear hg1; have ba0 := ba.c0; have ba1 := ba.c1; have bal : w.heap.size < w9.heap.size := World.block_lt_of_cell? _ _ ba0; have bb0 := bb.c0; have bb1 := bb.c1; have bbl : w.heap.size + 1 < w9.heap.size := World.block_lt_of_cell? _ _ bb0; have bc0 := bc.c0; have bc1 := bc.c1; have bcl : w4.heap.size < w9.heap.size := World.block_lt_of_cell? _ _ bc0; have bd0 := bd.c0; have bd1 := bd.c1; have bdl : w5.heap.size < w9.heap.size := World.block_lt_of_cell? _ _ bd0; have be0 := be.c0; have be1 := be.c1; have bel : w6.heap.size < w9.heap.size := World.block_lt_of_cell? _ _ be0)
    | (go_at_call 26; clear tk9; (with_reducible refine (has_in HK.out _).mono ?_); rintro e w10 ⟨rfl, hg1⟩; clear ba0 ba1 bal; clear bb0 bb1 bbl; clear bc0 bc1 bcl; clear bd0 bd1 bdl; clear be0 be1 bel; replace ba := ba.grew hg1; replace bb := bb.grew hg1; replace bc := bc.grew hg1; replace bd := bd.grew hg1; replace be := be.grew hg1; replace hg := Lib.hid (hg.out.trans hg1); clear hg1; have ba0 := ba.c0; have ba1 := ba.c1; have bal : w.heap.size < w10.heap.size := World.block_lt_of_cell? _ _ ba0; have bb0 := bb.c0; have bb1 := bb.c1; have bbl : w.heap.size + 1 < w10.heap.size := World.block_lt_of_cell? _ _ bb0; have bc0 := bc.c0; have bc1 := bc.c1; have bcl : w4.heap.size < w10.heap.size := World.block_lt_of_cell? _ _ bc0; have bd0 := bd.c0; have bd1 := bd.c1; have bdl : w5.heap.size < w10.heap.size := World.block_lt_of_cell? _ _ bd0; have be0 := be.c0; have be1 := be.c1; have bel : w6.heap.size < w10.heap.size := World.block_lt_of_cell? _ _ be0)
    | (go_at_call 24; clear tk10; (with_reducible refine (before_lit HA.out.va HB.out.va _ HC.out _).mono ?_); rintro e w11 ⟨rfl, hg1⟩; clear ba0 ba1 bal; clear bb0 bb1 bbl; clear bc0 bc1 bcl; clear bd0 bd1 bdl; clear be0 be1 bel; replace ba := ba.grew hg1; replace bb := bb.grew hg1; replace bc := bc.grew hg1; replace bd := bd.grew hg1; replace be := be.grew hg1; replace hg := Lib.hid (hg.out.trans hg1); clear hg1; have ba0 := ba.c0; have ba1 := ba.c1; have bal : w.heap.size < w11.heap.size := World.block_lt_of_cell? _ _ ba0; have bb0 := bb.c0; have bb1 := bb.c1; have bbl : w.heap.size + 1 < w11.heap.size := World.block_lt_of_cell? _ _ bb0; have bc0 := bc.c0; have bc1 := bc.c1; have bcl : w4.heap.size < w11.heap.size := World.block_lt_of_cell? _ _ bc0; have bd0 := bd.c0; have bd1 := bd.c1; have bdl : w5.heap.size < w11.heap.size := World.block_lt_of_cell? _ _ bd0; have be0 := be.c0; have be1 := be.c1; have bel : w6.heap.size < w11.heap.size := World.block_lt_of_cell? _ _ be0)
    | (go_at_call 25; clear tk11; (with_reducible refine (maybe_lit HA.out.va HB.out.va _ HD.out _).mono ?_); rintro e w12 ⟨rfl, hg1⟩; clear ba0 ba1 bal; clear bb0 bb1 bbl; clear bc0 bc1 bcl; clear bd0 bd1 bdl; clear be0 be1 bel; replace ba := ba.grew hg1; replace bb := bb.grew hg1; replace bc := bc.grew hg1; replace bd := bd.grew hg1; replace be := be.grew hg1; replace hg := Lib.hid (hg.out.trans hg1); clear hg1; have ba0 := ba.c0; have ba1 := ba.c1; have bal : w.heap.size < w12.heap.size := World.block_lt_of_cell? _ _ ba0; have bb0 := bb.c0; have bb1 := bb.c1; have bbl : w.heap.size + 1 < w12.heap.size := World.block_lt_of_cell? _ _ bb0; have bc0 := bc.c0; have bc1 := bc.c1; have bcl : w4.heap.size < w12.heap.size := World.block_lt_of_cell? _ _ bc0; have bd0 := bd.c0; have bd1 := bd.c1; have bdl : w5.heap.size < w12.heap.size := World.block_lt_of_cell? _ _ bd0; have be0 := be.c0; have be1 := be.c1; have bel : w6.heap.size < w12.heap.size := World.block_lt_of_cell? _ _ be0))
  all_goals first
    | (exfalso; have := F1.out (by assumption); omega)
    | (exfalso; have := F2.out (Bool.eq_false_iff.2 (by assumption)); omega)
    | (go_ret; exact ⟨rfl, hg.out⟩)
    | (go_ret; exact ⟨ret_bool (by simp; omega), hg.out⟩)
theorem points_walk (x y p q t u : Int) (w : World) (he : Env w) : Calls Tryd.prog 9 #[iv x y, iv p q, .agg #[.int .i64 t, .int .i64 u]] w fun e w' => e = .returned (.bool true) ∧ Grew w w' := by
  by_cases ha : In x y t
  · by_cases hb : In p q u
    · exact points_in x y p q t u ha hb _ _ rfl rfl w he
    · exact points_b x y p q t u ha hb w he
  · exact points_a x y p q t u ha w he
end Go.Proofs.YtoehjejpkaffiaaDoor
