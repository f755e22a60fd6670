/-
  LAYER 11 (isa): the statement Parse.
-/
import Derived.Test.YtddffijipphfeaaDoorIsaLaws3
import Derived.Test.YtddffijipphfeaaDoorIsaRParse
namespace Go.Proofs.YtddffijipphfeaaDoor
open Go Go.RowKit Go.IntWalk
open Go.Lib (itoa)
set_option linter.unusedSimpArgs false
set_option linter.unusedVariables false
set_option maxRecDepth 8000
theorem rparse_hit (s : ByteArray) (y : Cd) (h : Fits s y) (hs : s.size ≤ 500) (w : World) : Calls Tryd.prog 27 #[.string s] w fun e w' => e = .returned (.tuple #[cdV y, .int .i64 0]) ∧ Grew w w' :=
  (rparse_any s hs w).mono fun e w' ⟨x, h1, h2, h3⟩ => by
    obtain rfl := h2 y h.1 h.2
    rw [parR_pos s x h.1 (fits_eq h)] at h1
    exact ⟨h1, h3⟩
theorem rparse_none (s : ByteArray) (h : ∀ y, ¬ Fits s y) (hs : s.size ≤ 500) (w : World) : Calls Tryd.prog 27 #[.string s] w fun e w' => e = .returned (.tuple #[.agg #[.int .i64 0, .int .i64 0, .int .i64 0, .int .i64 0, .int .i16 0], .int .i64 2]) ∧ Grew w w' :=
  (rparse_any s hs w).mono fun e w' ⟨x, h1, _, h3⟩ => by
    rw [parR_none s x h] at h1
    exact ⟨h1, h3⟩
set_option maxHeartbeats 4000000 in
theorem parse_law_big (s : ByteArray) (hs : 100 < s.size) (w : World) (he : EnvP w) : Calls Tryd.prog 8 #[.string s] w fun e w' => e = .returned (.bool true) ∧ Grew w w' := by
  have HE := Lib.hid he
  have h1 : (100 : Int) < (s.size : Int) := by omega
  clear he
  have HB := Lib.hid (Grew.refl w)
  have tk0 := Lib.hid trivial
  go_enter Tryd.func8, Tryd.ntmps8
  go_wp2_with (first
    | (go_at_call 11; clear tk0; (with_reducible refine (wakes_any _ (HE.out.grew HB.out).env).mono ?_); rintro e w1 ⟨rfl, g1⟩; replace HB := Lib.hid (HB.out.trans g1); clear g1))
  refine bodyPost_ret (v := .bool true) (by simp [results, Tryd.results8, go_sem]) rfl ?_
  exact ⟨rfl, HB.out⟩
set_option maxHeartbeats 4000000 in
theorem parse_law_yes (s : ByteArray) (hs : s.size ≤ 100) (y : Cd) (h : Fits s y) (w : World) (he : EnvP w) : Calls Tryd.prog 8 #[.string s] w fun e w' => e = .returned (.bool true) ∧ Grew w w' := by
  have HY := Lib.hid h
  have HF : Hid ((⟨(fmt y).toArray⟩ : ByteArray) = s) := Lib.hid (by rw [h.2])
  have HE := Lib.hid he
  have h1 : ¬ (100 : Int) < (s.size : Int) := by omega
  clear he h
  have HB := Lib.hid (Grew.refl w)
  have tk0 := Lib.hid trivial
  have tk1 := Lib.hid trivial
  have tk2 := Lib.hid trivial
  have tk3 := Lib.hid trivial
  go_enter Tryd.func8, Tryd.ntmps8
  go_wp2_with (first
    | (go_at_call 11; clear tk0; (with_reducible refine (wakes_any _ (HE.out.grew HB.out).env).mono ?_); rintro e w1 ⟨rfl, g1⟩; replace HB := Lib.hid (HB.out.trans g1); clear g1)
    | (go_at_call 26; clear tk1; (with_reducible refine (parse_hit s y HY.out (by omega) _ (HE.out.grew HB.out)).mono ?_); rintro e w2 ⟨rfl, g1⟩; replace HB := Lib.hid (HB.out.trans g1); clear g1)
    | (go_at_call 27; clear tk2; generalize hW : World.alloc _ _ = V; have b1 : Blk (w2.heap.size) [.int .i64 y.op, .int .i64 y.a, .int .i64 y.b, .int .i64 y.c, .int .i16 y.i] 24 V := (by subst hW; exact Blk.grew (w := (w2.alloc (.cells #[.int .i64 y.op, .int .i64 y.a, .int .i64 y.b, .int .i64 y.c, .int .i16 y.i] 24))) (by simpa using Blk.new w2 [.int .i64 y.op, .int .i64 y.a, .int .i64 y.b, .int .i64 y.c, .int .i16 y.i] 24) (by repeat (first | with_reducible exact Grew.refl _ | with_reducible refine Grew.alloc ?_ _ | with_reducible refine Grew.drw ?_ | with_reducible refine Grew.drwN ?_ _ | with_reducible refine Grew.sc ?_ (by first | omega | (simp <;> omega)) _ _))); replace HB : Hid (Grew w V) := Lib.hid (by subst hW; repeat (first | with_reducible exact HB.out | with_reducible refine Grew.sc ?_ (by first | omega | (simp <;> omega)) _ _ | with_reducible refine Grew.alloc ?_ _ | with_reducible refine Grew.drw ?_ | with_reducible refine Grew.drwN ?_ _)); clear hW; (with_reducible refine (rparse_hit s y HY.out (by omega) _).mono ?_); rintro e w3 ⟨rfl, g1⟩; replace b1 := b1.grew g1; replace HB := Lib.hid (HB.out.trans g1); clear g1; have b10 := b1.cell 0; have b11 := b1.cell 1; have b12 := b1.cell 2; have b13 := b1.cell 3; have b14 := b1.cell 4; have b1f := b1.free; have b1l := b1.lt; simp only [List.getElem?_cons_zero, List.getElem?_cons_succ] at b10 b11 b12 b13 b14 b1l)
    | (go_at_call 24; clear tk3; have ne_b2_b1 := Lib.hid (show w3.heap.size ≠ w2.heap.size by omega); generalize hW : World.alloc _ _ = V; clear b10 b11 b12 b13 b14 b1f b1l; replace b1 : Blk (w2.heap.size) [.int .i64 y.op, .int .i64 y.a, .int .i64 y.b, .int .i64 y.c, .int .i16 y.i] 24 V := (by subst hW; exact (b1.grew ((Grew.refl _).alloc _))); have b2 : Blk (w3.heap.size) [.int .i64 y.op, .int .i64 y.a, .int .i64 y.b, .int .i64 y.c, .int .i16 y.i] 24 V := (by subst hW; exact Blk.grew (w := (w3.alloc (.cells #[.int .i64 y.op, .int .i64 y.a, .int .i64 y.b, .int .i64 y.c, .int .i16 y.i] 24))) (by simpa using Blk.new w3 [.int .i64 y.op, .int .i64 y.a, .int .i64 y.b, .int .i64 y.c, .int .i16 y.i] 24) (by repeat (first | with_reducible exact Grew.refl _ | with_reducible refine Grew.alloc ?_ _ | with_reducible refine Grew.drw ?_ | with_reducible refine Grew.drwN ?_ _ | with_reducible refine Grew.sc ?_ (by first | omega | (simp <;> omega)) _ _))); replace HB : Hid (Grew w V) := Lib.hid (by subst hW; repeat (first | with_reducible exact HB.out | with_reducible refine Grew.sc ?_ (by first | omega | (simp <;> omega)) _ _ | with_reducible refine Grew.alloc ?_ _ | with_reducible refine Grew.drw ?_ | with_reducible refine Grew.drwN ?_ _)); clear hW; (with_reducible refine (format_is y s HF.out _ (HE.out.grew HB.out).env).mono ?_); rintro e w4 ⟨rfl, g1⟩; replace b1 := b1.grew g1; replace b2 := b2.grew g1; replace HB := Lib.hid (HB.out.trans g1); clear g1; have b10 := b1.cell 0; have b11 := b1.cell 1; have b12 := b1.cell 2; have b13 := b1.cell 3; have b14 := b1.cell 4; have b1f := b1.free; have b1l := b1.lt; simp only [List.getElem?_cons_zero, List.getElem?_cons_succ] at b10 b11 b12 b13 b14 b1l; have b20 := b2.cell 0; have b21 := b2.cell 1; have b22 := b2.cell 2; have b23 := b2.cell 3; have b24 := b2.cell 4; have b2f := b2.free; have b2l := b2.lt; simp only [List.getElem?_cons_zero, List.getElem?_cons_succ] at b20 b21 b22 b23 b24 b2l))
  refine bodyPost_ret (v := .bool true) (by simp [results, Tryd.results8, go_sem]) rfl ?_
  exact ⟨rfl, by repeat (first | with_reducible exact HB.out | with_reducible exact Grew.refl _ | with_reducible refine Grew.sc ?_ (by first | omega | (simp <;> omega)) _ _ | with_reducible refine Grew.alloc ?_ _ | with_reducible refine Grew.drw ?_)⟩
set_option maxHeartbeats 4000000 in
theorem parse_law_no (s : ByteArray) (hs : s.size ≤ 100) (h : ∀ y, ¬ Fits s y) (w : World) (he : EnvP w) : Calls Tryd.prog 8 #[.string s] w fun e w' => e = .returned (.bool true) ∧ Grew w w' := by
  have HY := Lib.hid h
  have HE := Lib.hid he
  have h1 : ¬ (100 : Int) < (s.size : Int) := by omega
  clear he h
  have HB := Lib.hid (Grew.refl w)
  have tk0 := Lib.hid trivial
  have tk1 := Lib.hid trivial
  have tk2 := Lib.hid trivial
  go_enter Tryd.func8, Tryd.ntmps8
  go_wp2_with (first
    | (go_at_call 11; clear tk0; (with_reducible refine (wakes_any _ (HE.out.grew HB.out).env).mono ?_); rintro e w1 ⟨rfl, g1⟩; replace HB := Lib.hid (HB.out.trans g1); clear g1)
    | (go_at_call 26; clear tk1; (with_reducible refine (parse_none s HY.out (by omega) _ (HE.out.grew HB.out)).mono ?_); rintro e w2 ⟨rfl, g1⟩; replace HB := Lib.hid (HB.out.trans g1); clear g1)
    | (go_at_call 27; clear tk2; generalize hW : World.alloc _ _ = V; have b1 : Blk (w2.heap.size) [.int .i64 0, .int .i64 0, .int .i64 0, .int .i64 0, .int .i16 0] 24 V := (by subst hW; exact Blk.grew (w := (w2.alloc (.cells #[.int .i64 0, .int .i64 0, .int .i64 0, .int .i64 0, .int .i16 0] 24))) (by simpa using Blk.new w2 [.int .i64 0, .int .i64 0, .int .i64 0, .int .i64 0, .int .i16 0] 24) (by repeat (first | with_reducible exact Grew.refl _ | with_reducible refine Grew.alloc ?_ _ | with_reducible refine Grew.drw ?_ | with_reducible refine Grew.drwN ?_ _ | with_reducible refine Grew.sc ?_ (by first | omega | (simp <;> omega)) _ _))); replace HB : Hid (Grew w V) := Lib.hid (by subst hW; repeat (first | with_reducible exact HB.out | with_reducible refine Grew.sc ?_ (by first | omega | (simp <;> omega)) _ _ | with_reducible refine Grew.alloc ?_ _ | with_reducible refine Grew.drw ?_ | with_reducible refine Grew.drwN ?_ _)); clear hW; (with_reducible refine (rparse_none s HY.out (by omega) _).mono ?_); rintro e w3 ⟨rfl, g1⟩; replace b1 := b1.grew g1; replace HB := Lib.hid (HB.out.trans g1); clear g1; have b10 := b1.cell 0; have b11 := b1.cell 1; have b12 := b1.cell 2; have b13 := b1.cell 3; have b14 := b1.cell 4; have b1f := b1.free; have b1l := b1.lt; simp only [List.getElem?_cons_zero, List.getElem?_cons_succ] at b10 b11 b12 b13 b14 b1l))
  refine bodyPost_ret (v := .bool true) (by simp [results, Tryd.results8, go_sem]) rfl ?_
  exact ⟨rfl, by repeat (first | with_reducible exact HB.out | with_reducible exact Grew.refl _ | with_reducible refine Grew.sc ?_ (by first | omega | (simp <;> omega)) _ _ | with_reducible refine Grew.alloc ?_ _ | with_reducible refine Grew.drw ?_)⟩
theorem parse_law (s : ByteArray) (w : World) (he : EnvP w) : Calls Tryd.prog 8 #[.string s] w fun e w' => e = .returned (.bool true) ∧ Grew w w' := by
  by_cases hs : 100 < s.size
  · exact parse_law_big s hs w he
  · by_cases h : ∃ y, Fits s y
    · obtain ⟨y, hy⟩ := h
      exact parse_law_yes s (by omega) y hy w he
    · exact parse_law_no s (by omega) (fun y hy => h ⟨y, hy⟩) w he
end Go.Proofs.YtddffijipphfeaaDoor
