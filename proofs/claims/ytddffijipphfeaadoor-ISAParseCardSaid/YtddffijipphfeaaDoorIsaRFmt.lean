/-
  LAYER 11's REFERENCE: Format.
-/
import Derived.Test.YtddffijipphfeaaDoorIsaLaws1
import Derived.Handy
namespace Go.Proofs.YtddffijipphfeaaDoor
open Go Go.RowKit Go.IntWalk
open Go.Lib (itoa)
set_option linter.unusedSimpArgs false
set_option linter.unusedVariables false
set_option maxRecDepth 8000
theorem shape_is (op : Int) (l : List UInt8) (h : sh op = l) (w : World) : Calls Tryd.prog 40 #[.int .i64 op] w fun e w' => e = .returned (.string ⟨l.toArray⟩) ∧ Grew w w' := h ▸ shape_any op w
set_option maxHeartbeats 4000000 in
theorem rfmt_z (x : Cd) (hv : valid x = true) (hsh : sh x.op = []) (w : World) : Calls Tryd.prog 25 #[cdV x] w fun e w' => e = .returned (.string ⟨(fmt x).toArray⟩) ∧ Grew w w' := by
  have HF := Lib.hid (show fmt x = (opr x.op).mn ++ (if ([] : List UInt8) = [] then [] else 32 :: jn (([] : List UInt8).map (item x))) by rw [fmt_ok hv]; unfold body; rw [hsh])
  obtain ⟨hop, ha, hb, hc, hi, _, _⟩ := valid_bd hv
  have HV := Lib.hid hv
  have HI := Lib.hid hi
  have HSH := Lib.hid hsh
  have hmn := mn_len x.op
  have l1 := Lib.itoa_length_le x.a (by omega) (by omega)
  have l2 := Lib.itoa_length_le x.b (by omega) (by omega)
  have l3 := Lib.itoa_length_le x.c (by omega) (by omega)
  have l4 := Lib.itoa_length_le x.i (by omega) (by omega)
  clear hv hsh
  have HB := Lib.hid (Grew.refl w)
  have tk0 := Lib.hid trivial
  have tk1 := Lib.hid trivial
  have tk2 := Lib.hid trivial
  go_enter Tryd.func25, Tryd.ntmps25
  go_wp2_with (first
    | (go_at_call 13; clear tk0; generalize hW : World.alloc _ _ = V; have bx : Blk (w.heap.size) [.int .i64 x.op, .int .i64 x.a, .int .i64 x.b, .int .i64 x.c, .int .i16 x.i] 24 V := (by subst hW; exact Blk.grew (w := (w.alloc (.cells #[.int .i64 x.op, .int .i64 x.a, .int .i64 x.b, .int .i64 x.c, .int .i16 x.i] 24))) (by simpa using Blk.new w [.int .i64 x.op, .int .i64 x.a, .int .i64 x.b, .int .i64 x.c, .int .i16 x.i] 24) (by repeat (first | with_reducible exact Grew.refl _ | with_reducible refine Grew.alloc ?_ _ | with_reducible refine Grew.drw ?_ | with_reducible refine Grew.drwN ?_ _ | with_reducible refine Grew.sc ?_ (by first | omega | (simp <;> omega)) _ _))); replace HB : Hid (Grew w V) := Lib.hid (by subst hW; repeat (first | with_reducible exact HB.out | with_reducible refine Grew.sc ?_ (by first | omega | (simp <;> omega)) _ _ | with_reducible refine Grew.alloc ?_ _ | with_reducible refine Grew.drw ?_ | with_reducible refine Grew.drwN ?_ _)); clear hW; (with_reducible refine (rvalid_is x _ true HV.out HI.out).mono ?_); rintro e w1 ⟨rfl, g1⟩; replace bx := bx.grew g1; replace HB := Lib.hid (HB.out.trans g1); clear g1; have bx0 := bx.cell 0; have bx1 := bx.cell 1; have bx2 := bx.cell 2; have bx3 := bx.cell 3; have bx4 := bx.cell 4; have bxf := bx.free; have bxl := bx.lt; simp only [List.getElem?_cons_zero, List.getElem?_cons_succ] at bx0 bx1 bx2 bx3 bx4 bxl)
    | (go_at_call 39; clear tk1; (with_reducible refine (mnemonic_any x.op _).mono ?_); rintro e w2 ⟨rfl, g1⟩; clear bx0 bx1 bx2 bx3 bx4 bxf bxl; replace bx := bx.grew g1; replace HB := Lib.hid (HB.out.trans g1); clear g1; have bx0 := bx.cell 0; have bx1 := bx.cell 1; have bx2 := bx.cell 2; have bx3 := bx.cell 3; have bx4 := bx.cell 4; have bxf := bx.free; have bxl := bx.lt; simp only [List.getElem?_cons_zero, List.getElem?_cons_succ] at bx0 bx1 bx2 bx3 bx4 bxl)
    | (go_at_call 40; clear tk2; (with_reducible refine (shape_is x.op _ HSH.out _).mono ?_); rintro e w3 ⟨rfl, g1⟩; clear bx0 bx1 bx2 bx3 bx4 bxf bxl; replace bx := bx.grew g1; replace HB := Lib.hid (HB.out.trans g1); clear g1; have bx0 := bx.cell 0; have bx1 := bx.cell 1; have bx2 := bx.cell 2; have bx3 := bx.cell 3; have bx4 := bx.cell 4; have bxf := bx.free; have bxl := bx.lt; simp only [List.getElem?_cons_zero, List.getElem?_cons_succ] at bx0 bx1 bx2 bx3 bx4 bxl))
  refine wp_loop_rounds 1 ?_
  repeat any_goals (rw [rounds_succ]; go_wp2_with (first
    | (go_at_call 13; clear tk0; generalize hW : World.alloc _ _ = V; have bx : Blk (w.heap.size) [.int .i64 x.op, .int .i64 x.a, .int .i64 x.b, .int .i64 x.c, .int .i16 x.i] 24 V := (by subst hW; exact Blk.grew (w := (w.alloc (.cells #[.int .i64 x.op, .int .i64 x.a, .int .i64 x.b, .int .i64 x.c, .int .i16 x.i] 24))) (by simpa using Blk.new w [.int .i64 x.op, .int .i64 x.a, .int .i64 x.b, .int .i64 x.c, .int .i16 x.i] 24) (by repeat (first | with_reducible exact Grew.refl _ | with_reducible refine Grew.alloc ?_ _ | with_reducible refine Grew.drw ?_ | with_reducible refine Grew.drwN ?_ _ | with_reducible refine Grew.sc ?_ (by first | omega | (simp <;> omega)) _ _))); replace HB : Hid (Grew w V) := Lib.hid (by subst hW; repeat (first | with_reducible exact HB.out | with_reducible refine Grew.sc ?_ (by first | omega | (simp <;> omega)) _ _ | with_reducible refine Grew.alloc ?_ _ | with_reducible refine Grew.drw ?_ | with_reducible refine Grew.drwN ?_ _)); clear hW; (with_reducible refine (rvalid_is x _ true HV.out HI.out).mono ?_); rintro e w1 ⟨rfl, g1⟩; replace bx := bx.grew g1; replace HB := Lib.hid (HB.out.trans g1); clear g1; have bx0 := bx.cell 0; have bx1 := bx.cell 1; have bx2 := bx.cell 2; have bx3 := bx.cell 3; have bx4 := bx.cell 4; have bxf := bx.free; have bxl := bx.lt; simp only [List.getElem?_cons_zero, List.getElem?_cons_succ] at bx0 bx1 bx2 bx3 bx4 bxl)
    | (go_at_call 39; clear tk1; (with_reducible refine (mnemonic_any x.op _).mono ?_); rintro e w2 ⟨rfl, g1⟩; clear bx0 bx1 bx2 bx3 bx4 bxf bxl; replace bx := bx.grew g1; replace HB := Lib.hid (HB.out.trans g1); clear g1; have bx0 := bx.cell 0; have bx1 := bx.cell 1; have bx2 := bx.cell 2; have bx3 := bx.cell 3; have bx4 := bx.cell 4; have bxf := bx.free; have bxl := bx.lt; simp only [List.getElem?_cons_zero, List.getElem?_cons_succ] at bx0 bx1 bx2 bx3 bx4 bxl)
    | (go_at_call 40; clear tk2; (with_reducible refine (shape_is x.op _ HSH.out _).mono ?_); rintro e w3 ⟨rfl, g1⟩; clear bx0 bx1 bx2 bx3 bx4 bxf bxl; replace bx := bx.grew g1; replace HB := Lib.hid (HB.out.trans g1); clear g1; have bx0 := bx.cell 0; have bx1 := bx.cell 1; have bx2 := bx.cell 2; have bx3 := bx.cell 3; have bx4 := bx.cell 4; have bxf := bx.free; have bxl := bx.lt; simp only [List.getElem?_cons_zero, List.getElem?_cons_succ] at bx0 bx1 bx2 bx3 bx4 bxl)))
  all_goals go_ret
  all_goals exact ⟨ret_str (by rw [HF.out]; apply ByteArray.ext; simp [item, jn]), HB.out⟩
set_option maxHeartbeats 4000000 in
theorem rfmt_ai (x : Cd) (hv : valid x = true) (hsh : sh x.op = [97, 105]) (w : World) : Calls Tryd.prog 25 #[cdV x] w fun e w' => e = .returned (.string ⟨(fmt x).toArray⟩) ∧ Grew w w' := by
  have HF := Lib.hid (show fmt x = (opr x.op).mn ++ (if ([97, 105] : List UInt8) = [] then [] else 32 :: jn (([97, 105] : List UInt8).map (item x))) by rw [fmt_ok hv]; unfold body; rw [hsh])
  obtain ⟨hop, ha, hb, hc, hi, _, _⟩ := valid_bd hv
  have HV := Lib.hid hv
  have HI := Lib.hid hi
  have HSH := Lib.hid hsh
  have hmn := mn_len x.op
  have l1 := Lib.itoa_length_le x.a (by omega) (by omega)
  have l2 := Lib.itoa_length_le x.b (by omega) (by omega)
  have l3 := Lib.itoa_length_le x.c (by omega) (by omega)
  have l4 := Lib.itoa_length_le x.i (by omega) (by omega)
  clear hv hsh
  have HB := Lib.hid (Grew.refl w)
  have tk0 := Lib.hid trivial
  have tk1 := Lib.hid trivial
  have tk2 := Lib.hid trivial
  have tk3 := Lib.hid trivial
  have tk4 := Lib.hid trivial
  go_enter Tryd.func25, Tryd.ntmps25
  go_wp2_with (first
    | (go_at_call 13; clear tk0; generalize hW : World.alloc _ _ = V; have bx : Blk (w.heap.size) [.int .i64 x.op, .int .i64 x.a, .int .i64 x.b, .int .i64 x.c, .int .i16 x.i] 24 V := (by subst hW; exact Blk.grew (w := (w.alloc (.cells #[.int .i64 x.op, .int .i64 x.a, .int .i64 x.b, .int .i64 x.c, .int .i16 x.i] 24))) (by simpa using Blk.new w [.int .i64 x.op, .int .i64 x.a, .int .i64 x.b, .int .i64 x.c, .int .i16 x.i] 24) (by repeat (first | with_reducible exact Grew.refl _ | with_reducible refine Grew.alloc ?_ _ | with_reducible refine Grew.drw ?_ | with_reducible refine Grew.drwN ?_ _ | with_reducible refine Grew.sc ?_ (by first | omega | (simp <;> omega)) _ _))); replace HB : Hid (Grew w V) := Lib.hid (by subst hW; repeat (first | with_reducible exact HB.out | with_reducible refine Grew.sc ?_ (by first | omega | (simp <;> omega)) _ _ | with_reducible refine Grew.alloc ?_ _ | with_reducible refine Grew.drw ?_ | with_reducible refine Grew.drwN ?_ _)); clear hW; (with_reducible refine (rvalid_is x _ true HV.out HI.out).mono ?_); rintro e w1 ⟨rfl, g1⟩; replace bx := bx.grew g1; replace HB := Lib.hid (HB.out.trans g1); clear g1; have bx0 := bx.cell 0; have bx1 := bx.cell 1; have bx2 := bx.cell 2; have bx3 := bx.cell 3; have bx4 := bx.cell 4; have bxf := bx.free; have bxl := bx.lt; simp only [List.getElem?_cons_zero, List.getElem?_cons_succ] at bx0 bx1 bx2 bx3 bx4 bxl)
    | (go_at_call 39; clear tk1; (with_reducible refine (mnemonic_any x.op _).mono ?_); rintro e w2 ⟨rfl, g1⟩; clear bx0 bx1 bx2 bx3 bx4 bxf bxl; replace bx := bx.grew g1; replace HB := Lib.hid (HB.out.trans g1); clear g1; have bx0 := bx.cell 0; have bx1 := bx.cell 1; have bx2 := bx.cell 2; have bx3 := bx.cell 3; have bx4 := bx.cell 4; have bxf := bx.free; have bxl := bx.lt; simp only [List.getElem?_cons_zero, List.getElem?_cons_succ] at bx0 bx1 bx2 bx3 bx4 bxl)
    | (go_at_call 40; clear tk2; (with_reducible refine (shape_is x.op _ HSH.out _).mono ?_); rintro e w3 ⟨rfl, g1⟩; clear bx0 bx1 bx2 bx3 bx4 bxf bxl; replace bx := bx.grew g1; replace HB := Lib.hid (HB.out.trans g1); clear g1; have bx0 := bx.cell 0; have bx1 := bx.cell 1; have bx2 := bx.cell 2; have bx3 := bx.cell 3; have bx4 := bx.cell 4; have bxf := bx.free; have bxl := bx.lt; simp only [List.getElem?_cons_zero, List.getElem?_cons_succ] at bx0 bx1 bx2 bx3 bx4 bxl)
    | (go_at_call 48; clear tk3; (with_reducible refine (rnum_any (x.a) _ (by omega)).mono ?_); rintro e w4 ⟨rfl, g1⟩; clear bx0 bx1 bx2 bx3 bx4 bxf bxl; replace bx := bx.grew g1; replace HB := Lib.hid (HB.out.trans g1); clear g1; have bx0 := bx.cell 0; have bx1 := bx.cell 1; have bx2 := bx.cell 2; have bx3 := bx.cell 3; have bx4 := bx.cell 4; have bxf := bx.free; have bxl := bx.lt; simp only [List.getElem?_cons_zero, List.getElem?_cons_succ] at bx0 bx1 bx2 bx3 bx4 bxl)
    | (go_at_call 48; clear tk4; (with_reducible refine (rnum_any (x.i) _ (by omega)).mono ?_); rintro e w5 ⟨rfl, g1⟩; clear bx0 bx1 bx2 bx3 bx4 bxf bxl; replace bx := bx.grew g1; replace HB := Lib.hid (HB.out.trans g1); clear g1; have bx0 := bx.cell 0; have bx1 := bx.cell 1; have bx2 := bx.cell 2; have bx3 := bx.cell 3; have bx4 := bx.cell 4; have bxf := bx.free; have bxl := bx.lt; simp only [List.getElem?_cons_zero, List.getElem?_cons_succ] at bx0 bx1 bx2 bx3 bx4 bxl))
  refine wp_loop_rounds 3 ?_
  repeat any_goals (rw [rounds_succ]; go_wp2_with (first
    | (go_at_call 13; clear tk0; generalize hW : World.alloc _ _ = V; have bx : Blk (w.heap.size) [.int .i64 x.op, .int .i64 x.a, .int .i64 x.b, .int .i64 x.c, .int .i16 x.i] 24 V := (by subst hW; exact Blk.grew (w := (w.alloc (.cells #[.int .i64 x.op, .int .i64 x.a, .int .i64 x.b, .int .i64 x.c, .int .i16 x.i] 24))) (by simpa using Blk.new w [.int .i64 x.op, .int .i64 x.a, .int .i64 x.b, .int .i64 x.c, .int .i16 x.i] 24) (by repeat (first | with_reducible exact Grew.refl _ | with_reducible refine Grew.alloc ?_ _ | with_reducible refine Grew.drw ?_ | with_reducible refine Grew.drwN ?_ _ | with_reducible refine Grew.sc ?_ (by first | omega | (simp <;> omega)) _ _))); replace HB : Hid (Grew w V) := Lib.hid (by subst hW; repeat (first | with_reducible exact HB.out | with_reducible refine Grew.sc ?_ (by first | omega | (simp <;> omega)) _ _ | with_reducible refine Grew.alloc ?_ _ | with_reducible refine Grew.drw ?_ | with_reducible refine Grew.drwN ?_ _)); clear hW; (with_reducible refine (rvalid_is x _ true HV.out HI.out).mono ?_); rintro e w1 ⟨rfl, g1⟩; replace bx := bx.grew g1; replace HB := Lib.hid (HB.out.trans g1); clear g1; have bx0 := bx.cell 0; have bx1 := bx.cell 1; have bx2 := bx.cell 2; have bx3 := bx.cell 3; have bx4 := bx.cell 4; have bxf := bx.free; have bxl := bx.lt; simp only [List.getElem?_cons_zero, List.getElem?_cons_succ] at bx0 bx1 bx2 bx3 bx4 bxl)
    | (go_at_call 39; clear tk1; (with_reducible refine (mnemonic_any x.op _).mono ?_); rintro e w2 ⟨rfl, g1⟩; clear bx0 bx1 bx2 bx3 bx4 bxf bxl; replace bx := bx.grew g1; replace HB := Lib.hid (HB.out.trans g1); clear g1; have bx0 := bx.cell 0; have bx1 := bx.cell 1; have bx2 := bx.cell 2; have bx3 := bx.cell 3; have bx4 := bx.cell 4; have bxf := bx.free; have bxl := bx.lt; simp only [List.getElem?_cons_zero, List.getElem?_cons_succ] at bx0 bx1 bx2 bx3 bx4 bxl)
    | (go_at_call 40; clear tk2; (with_reducible refine (shape_is x.op _ HSH.out _).mono ?_); rintro e w3 ⟨rfl, g1⟩; clear bx0 bx1 bx2 bx3 bx4 bxf bxl; replace bx := bx.grew g1; replace HB := Lib.hid (HB.out.trans g1); clear g1; have bx0 := bx.cell 0; have bx1 := bx.cell 1; have bx2 := bx.cell 2; have bx3 := bx.cell 3; have bx4 := bx.cell 4; have bxf := bx.free; have bxl := bx.lt; simp only [List.getElem?_cons_zero, List.getElem?_cons_succ] at bx0 bx1 bx2 bx3 bx4 bxl)
    | (go_at_call 48; clear tk3; (with_reducible refine (rnum_any (x.a) _ (by omega)).mono ?_); rintro e w4 ⟨rfl, g1⟩; clear bx0 bx1 bx2 bx3 bx4 bxf bxl; replace bx := bx.grew g1; replace HB := Lib.hid (HB.out.trans g1); clear g1; have bx0 := bx.cell 0; have bx1 := bx.cell 1; have bx2 := bx.cell 2; have bx3 := bx.cell 3; have bx4 := bx.cell 4; have bxf := bx.free; have bxl := bx.lt; simp only [List.getElem?_cons_zero, List.getElem?_cons_succ] at bx0 bx1 bx2 bx3 bx4 bxl)
    | (go_at_call 48; clear tk4; (with_reducible refine (rnum_any (x.i) _ (by omega)).mono ?_); rintro e w5 ⟨rfl, g1⟩; clear bx0 bx1 bx2 bx3 bx4 bxf bxl; replace bx := bx.grew g1; replace HB := Lib.hid (HB.out.trans g1); clear g1; have bx0 := bx.cell 0; have bx1 := bx.cell 1; have bx2 := bx.cell 2; have bx3 := bx.cell 3; have bx4 := bx.cell 4; have bxf := bx.free; have bxl := bx.lt; simp only [List.getElem?_cons_zero, List.getElem?_cons_succ] at bx0 bx1 bx2 bx3 bx4 bxl)))
  all_goals go_ret
  all_goals exact ⟨ret_str (by rw [HF.out]; apply ByteArray.ext; simp [item, jn]), HB.out⟩
set_option maxHeartbeats 4000000 in
theorem rfmt_ab (x : Cd) (hv : valid x = true) (hsh : sh x.op = [97, 98]) (w : World) : Calls Tryd.prog 25 #[cdV x] w fun e w' => e = .returned (.string ⟨(fmt x).toArray⟩) ∧ Grew w w' := by
  have HF := Lib.hid (show fmt x = (opr x.op).mn ++ (if ([97, 98] : List UInt8) = [] then [] else 32 :: jn (([97, 98] : List UInt8).map (item x))) by rw [fmt_ok hv]; unfold body; rw [hsh])
  obtain ⟨hop, ha, hb, hc, hi, _, _⟩ := valid_bd hv
  have HV := Lib.hid hv
  have HI := Lib.hid hi
  have HSH := Lib.hid hsh
  have hmn := mn_len x.op
  have l1 := Lib.itoa_length_le x.a (by omega) (by omega)
  have l2 := Lib.itoa_length_le x.b (by omega) (by omega)
  have l3 := Lib.itoa_length_le x.c (by omega) (by omega)
  have l4 := Lib.itoa_length_le x.i (by omega) (by omega)
  clear hv hsh
  have HB := Lib.hid (Grew.refl w)
  have tk0 := Lib.hid trivial
  have tk1 := Lib.hid trivial
  have tk2 := Lib.hid trivial
  have tk3 := Lib.hid trivial
  have tk4 := Lib.hid trivial
  go_enter Tryd.func25, Tryd.ntmps25
  go_wp2_with (first
    | (go_at_call 13; clear tk0; generalize hW : World.alloc _ _ = V; have bx : Blk (w.heap.size) [.int .i64 x.op, .int .i64 x.a, .int .i64 x.b, .int .i64 x.c, .int .i16 x.i] 24 V := (by subst hW; exact Blk.grew (w := (w.alloc (.cells #[.int .i64 x.op, .int .i64 x.a, .int .i64 x.b, .int .i64 x.c, .int .i16 x.i] 24))) (by simpa using Blk.new w [.int .i64 x.op, .int .i64 x.a, .int .i64 x.b, .int .i64 x.c, .int .i16 x.i] 24) (by repeat (first | with_reducible exact Grew.refl _ | with_reducible refine Grew.alloc ?_ _ | with_reducible refine Grew.drw ?_ | with_reducible refine Grew.drwN ?_ _ | with_reducible refine Grew.sc ?_ (by first | omega | (simp <;> omega)) _ _))); replace HB : Hid (Grew w V) := Lib.hid (by subst hW; repeat (first | with_reducible exact HB.out | with_reducible refine Grew.sc ?_ (by first | omega | (simp <;> omega)) _ _ | with_reducible refine Grew.alloc ?_ _ | with_reducible refine Grew.drw ?_ | with_reducible refine Grew.drwN ?_ _)); clear hW; (with_reducible refine (rvalid_is x _ true HV.out HI.out).mono ?_); rintro e w1 ⟨rfl, g1⟩; replace bx := bx.grew g1; replace HB := Lib.hid (HB.out.trans g1); clear g1; have bx0 := bx.cell 0; have bx1 := bx.cell 1; have bx2 := bx.cell 2; have bx3 := bx.cell 3; have bx4 := bx.cell 4; have bxf := bx.free; have bxl := bx.lt; simp only [List.getElem?_cons_zero, List.getElem?_cons_succ] at bx0 bx1 bx2 bx3 bx4 bxl)
    | (go_at_call 39; clear tk1; (with_reducible refine (mnemonic_any x.op _).mono ?_); rintro e w2 ⟨rfl, g1⟩; clear bx0 bx1 bx2 bx3 bx4 bxf bxl; replace bx := bx.grew g1; replace HB := Lib.hid (HB.out.trans g1); clear g1; have bx0 := bx.cell 0; have bx1 := bx.cell 1; have bx2 := bx.cell 2; have bx3 := bx.cell 3; have bx4 := bx.cell 4; have bxf := bx.free; have bxl := bx.lt; simp only [List.getElem?_cons_zero, List.getElem?_cons_succ] at bx0 bx1 bx2 bx3 bx4 bxl)
    | (go_at_call 40; clear tk2; (with_reducible refine (shape_is x.op _ HSH.out _).mono ?_); rintro e w3 ⟨rfl, g1⟩; clear bx0 bx1 bx2 bx3 bx4 bxf bxl; replace bx := bx.grew g1; replace HB := Lib.hid (HB.out.trans g1); clear g1; have bx0 := bx.cell 0; have bx1 := bx.cell 1; have bx2 := bx.cell 2; have bx3 := bx.cell 3; have bx4 := bx.cell 4; have bxf := bx.free; have bxl := bx.lt; simp only [List.getElem?_cons_zero, List.getElem?_cons_succ] at bx0 bx1 bx2 bx3 bx4 bxl)
    | (go_at_call 48; clear tk3; (with_reducible refine (rnum_any (x.a) _ (by omega)).mono ?_); rintro e w4 ⟨rfl, g1⟩; clear bx0 bx1 bx2 bx3 bx4 bxf bxl; replace bx := bx.grew g1; replace HB := Lib.hid (HB.out.trans g1); clear g1; have bx0 := bx.cell 0; have bx1 := bx.cell 1; have bx2 := bx.cell 2; have bx3 := bx.cell 3; have bx4 := bx.cell 4; have bxf := bx.free; have bxl := bx.lt; simp only [List.getElem?_cons_zero, List.getElem?_cons_succ] at bx0 bx1 bx2 bx3 bx4 bxl)
    | (go_at_call 48; clear tk4; (with_reducible refine (rnum_any (x.b) _ (by omega)).mono ?_); rintro e w5 ⟨rfl, g1⟩; clear bx0 bx1 bx2 bx3 bx4 bxf bxl; replace bx := bx.grew g1; replace HB := Lib.hid (HB.out.trans g1); clear g1; have bx0 := bx.cell 0; have bx1 := bx.cell 1; have bx2 := bx.cell 2; have bx3 := bx.cell 3; have bx4 := bx.cell 4; have bxf := bx.free; have bxl := bx.lt; simp only [List.getElem?_cons_zero, List.getElem?_cons_succ] at bx0 bx1 bx2 bx3 bx4 bxl))
  refine wp_loop_rounds 3 ?_
  repeat any_goals (rw [rounds_succ]; go_wp2_with (first
    | (go_at_call 13; clear tk0; generalize hW : World.alloc _ _ = V; have bx : Blk (w.heap.size) [.int .i64 x.op, .int .i64 x.a, .int .i64 x.b, .int .i64 x.c, .int .i16 x.i] 24 V := (by subst hW; exact Blk.grew (w := (w.alloc (.cells #[.int .i64 x.op, .int .i64 x.a, .int .i64 x.b, .int .i64 x.c, .int .i16 x.i] 24))) (by simpa using Blk.new w [.int .i64 x.op, .int .i64 x.a, .int .i64 x.b, .int .i64 x.c, .int .i16 x.i] 24) (by repeat (first | with_reducible exact Grew.refl _ | with_reducible refine Grew.alloc ?_ _ | with_reducible refine Grew.drw ?_ | with_reducible refine Grew.drwN ?_ _ | with_reducible refine Grew.sc ?_ (by first | omega | (simp <;> omega)) _ _))); replace HB : Hid (Grew w V) := Lib.hid (by subst hW; repeat (first | with_reducible exact HB.out | with_reducible refine Grew.sc ?_ (by first | omega | (simp <;> omega)) _ _ | with_reducible refine Grew.alloc ?_ _ | with_reducible refine Grew.drw ?_ | with_reducible refine Grew.drwN ?_ _)); clear hW; (with_reducible refine (rvalid_is x _ true HV.out HI.out).mono ?_); rintro e w1 ⟨rfl, g1⟩; replace bx := bx.grew g1; replace HB := Lib.hid (HB.out.trans g1); clear g1; have bx0 := bx.cell 0; have bx1 := bx.cell 1; have bx2 := bx.cell 2; have bx3 := bx.cell 3; have bx4 := bx.cell 4; have bxf := bx.free; have bxl := bx.lt; simp only [List.getElem?_cons_zero, List.getElem?_cons_succ] at bx0 bx1 bx2 bx3 bx4 bxl)
    | (go_at_call 39; clear tk1; (with_reducible refine (mnemonic_any x.op _).mono ?_); rintro e w2 ⟨rfl, g1⟩; clear bx0 bx1 bx2 bx3 bx4 bxf bxl; replace bx := bx.grew g1; replace HB := Lib.hid (HB.out.trans g1); clear g1; have bx0 := bx.cell 0; have bx1 := bx.cell 1; have bx2 := bx.cell 2; have bx3 := bx.cell 3; have bx4 := bx.cell 4; have bxf := bx.free; have bxl := bx.lt; simp only [List.getElem?_cons_zero, List.getElem?_cons_succ] at bx0 bx1 bx2 bx3 bx4 bxl)
    | (go_at_call 40; clear tk2; (with_reducible refine (shape_is x.op _ HSH.out _).mono ?_); rintro e w3 ⟨rfl, g1⟩; clear bx0 bx1 bx2 bx3 bx4 bxf bxl; replace bx := bx.grew g1; replace HB := Lib.hid (HB.out.trans g1); clear g1; have bx0 := bx.cell 0; have bx1 := bx.cell 1; have bx2 := bx.cell 2; have bx3 := bx.cell 3; have bx4 := bx.cell 4; have bxf := bx.free; have bxl := bx.lt; simp only [List.getElem?_cons_zero, List.getElem?_cons_succ] at bx0 bx1 bx2 bx3 bx4 bxl)
    | (go_at_call 48; clear tk3; (with_reducible refine (rnum_any (x.a) _ (by omega)).mono ?_); rintro e w4 ⟨rfl, g1⟩; clear bx0 bx1 bx2 bx3 bx4 bxf bxl; replace bx := bx.grew g1; replace HB := Lib.hid (HB.out.trans g1); clear g1; have bx0 := bx.cell 0; have bx1 := bx.cell 1; have bx2 := bx.cell 2; have bx3 := bx.cell 3; have bx4 := bx.cell 4; have bxf := bx.free; have bxl := bx.lt; simp only [List.getElem?_cons_zero, List.getElem?_cons_succ] at bx0 bx1 bx2 bx3 bx4 bxl)
    | (go_at_call 48; clear tk4; (with_reducible refine (rnum_any (x.b) _ (by omega)).mono ?_); rintro e w5 ⟨rfl, g1⟩; clear bx0 bx1 bx2 bx3 bx4 bxf bxl; replace bx := bx.grew g1; replace HB := Lib.hid (HB.out.trans g1); clear g1; have bx0 := bx.cell 0; have bx1 := bx.cell 1; have bx2 := bx.cell 2; have bx3 := bx.cell 3; have bx4 := bx.cell 4; have bxf := bx.free; have bxl := bx.lt; simp only [List.getElem?_cons_zero, List.getElem?_cons_succ] at bx0 bx1 bx2 bx3 bx4 bxl)))
  all_goals go_ret
  all_goals exact ⟨ret_str (by rw [HF.out]; apply ByteArray.ext; simp [item, jn]), HB.out⟩
set_option maxHeartbeats 4000000 in
theorem rfmt_abc (x : Cd) (hv : valid x = true) (hsh : sh x.op = [97, 98, 99]) (w : World) : Calls Tryd.prog 25 #[cdV x] w fun e w' => e = .returned (.string ⟨(fmt x).toArray⟩) ∧ Grew w w' := by
  have HF := Lib.hid (show fmt x = (opr x.op).mn ++ (if ([97, 98, 99] : List UInt8) = [] then [] else 32 :: jn (([97, 98, 99] : List UInt8).map (item x))) by rw [fmt_ok hv]; unfold body; rw [hsh])
  obtain ⟨hop, ha, hb, hc, hi, _, _⟩ := valid_bd hv
  have HV := Lib.hid hv
  have HI := Lib.hid hi
  have HSH := Lib.hid hsh
  have hmn := mn_len x.op
  have l1 := Lib.itoa_length_le x.a (by omega) (by omega)
  have l2 := Lib.itoa_length_le x.b (by omega) (by omega)
  have l3 := Lib.itoa_length_le x.c (by omega) (by omega)
  have l4 := Lib.itoa_length_le x.i (by omega) (by omega)
  clear hv hsh
  have HB := Lib.hid (Grew.refl w)
  have tk0 := Lib.hid trivial
  have tk1 := Lib.hid trivial
  have tk2 := Lib.hid trivial
  have tk3 := Lib.hid trivial
  have tk4 := Lib.hid trivial
  have tk5 := Lib.hid trivial
  go_enter Tryd.func25, Tryd.ntmps25
  go_wp2_with (first
    | (go_at_call 13; clear tk0; generalize hW : World.alloc _ _ = V; have bx : Blk (w.heap.size) [.int .i64 x.op, .int .i64 x.a, .int .i64 x.b, .int .i64 x.c, .int .i16 x.i] 24 V := (by subst hW; exact Blk.grew (w := (w.alloc (.cells #[.int .i64 x.op, .int .i64 x.a, .int .i64 x.b, .int .i64 x.c, .int .i16 x.i] 24))) (by simpa using Blk.new w [.int .i64 x.op, .int .i64 x.a, .int .i64 x.b, .int .i64 x.c, .int .i16 x.i] 24) (by repeat (first | with_reducible exact Grew.refl _ | with_reducible refine Grew.alloc ?_ _ | with_reducible refine Grew.drw ?_ | with_reducible refine Grew.drwN ?_ _ | with_reducible refine Grew.sc ?_ (by first | omega | (simp <;> omega)) _ _))); replace HB : Hid (Grew w V) := Lib.hid (by subst hW; repeat (first | with_reducible exact HB.out | with_reducible refine Grew.sc ?_ (by first | omega | (simp <;> omega)) _ _ | with_reducible refine Grew.alloc ?_ _ | with_reducible refine Grew.drw ?_ | with_reducible refine Grew.drwN ?_ _)); clear hW; (with_reducible refine (rvalid_is x _ true HV.out HI.out).mono ?_); rintro e w1 ⟨rfl, g1⟩; replace bx := bx.grew g1; replace HB := Lib.hid (HB.out.trans g1); clear g1; have bx0 := bx.cell 0; have bx1 := bx.cell 1; have bx2 := bx.cell 2; have bx3 := bx.cell 3; have bx4 := bx.cell 4; have bxf := bx.free; have bxl := bx.lt; simp only [List.getElem?_cons_zero, List.getElem?_cons_succ] at bx0 bx1 bx2 bx3 bx4 bxl)
    | (go_at_call 39; clear tk1; (with_reducible refine (mnemonic_any x.op _).mono ?_); rintro e w2 ⟨rfl, g1⟩; clear bx0 bx1 bx2 bx3 bx4 bxf bxl; replace bx := bx.grew g1; replace HB := Lib.hid (HB.out.trans g1); clear g1; have bx0 := bx.cell 0; have bx1 := bx.cell 1; have bx2 := bx.cell 2; have bx3 := bx.cell 3; have bx4 := bx.cell 4; have bxf := bx.free; have bxl := bx.lt; simp only [List.getElem?_cons_zero, List.getElem?_cons_succ] at bx0 bx1 bx2 bx3 bx4 bxl)
    | (go_at_call 40; clear tk2; (with_reducible refine (shape_is x.op _ HSH.out _).mono ?_); rintro e w3 ⟨rfl, g1⟩; clear bx0 bx1 bx2 bx3 bx4 bxf bxl; replace bx := bx.grew g1; replace HB := Lib.hid (HB.out.trans g1); clear g1; have bx0 := bx.cell 0; have bx1 := bx.cell 1; have bx2 := bx.cell 2; have bx3 := bx.cell 3; have bx4 := bx.cell 4; have bxf := bx.free; have bxl := bx.lt; simp only [List.getElem?_cons_zero, List.getElem?_cons_succ] at bx0 bx1 bx2 bx3 bx4 bxl)
    | (go_at_call 48; clear tk3; (with_reducible refine (rnum_any (x.a) _ (by omega)).mono ?_); rintro e w4 ⟨rfl, g1⟩; clear bx0 bx1 bx2 bx3 bx4 bxf bxl; replace bx := bx.grew g1; replace HB := Lib.hid (HB.out.trans g1); clear g1; have bx0 := bx.cell 0; have bx1 := bx.cell 1; have bx2 := bx.cell 2; have bx3 := bx.cell 3; have bx4 := bx.cell 4; have bxf := bx.free; have bxl := bx.lt; simp only [List.getElem?_cons_zero, List.getElem?_cons_succ] at bx0 bx1 bx2 bx3 bx4 bxl)
    | (go_at_call 48; clear tk4; (with_reducible refine (rnum_any (x.b) _ (by omega)).mono ?_); rintro e w5 ⟨rfl, g1⟩; clear bx0 bx1 bx2 bx3 bx4 bxf bxl; replace bx := bx.grew g1; replace HB := Lib.hid (HB.out.trans g1); clear g1; have bx0 := bx.cell 0; have bx1 := bx.cell 1; have bx2 := bx.cell 2; have bx3 := bx.cell 3; have bx4 := bx.cell 4; have bxf := bx.free; have bxl := bx.lt; simp only [List.getElem?_cons_zero, List.getElem?_cons_succ] at bx0 bx1 bx2 bx3 bx4 bxl)
    | (go_at_call 48; clear tk5; (with_reducible refine (rnum_any (x.c) _ (by omega)).mono ?_); rintro e w6 ⟨rfl, g1⟩; clear bx0 bx1 bx2 bx3 bx4 bxf bxl; replace bx := bx.grew g1; replace HB := Lib.hid (HB.out.trans g1); clear g1; have bx0 := bx.cell 0; have bx1 := bx.cell 1; have bx2 := bx.cell 2; have bx3 := bx.cell 3; have bx4 := bx.cell 4; have bxf := bx.free; have bxl := bx.lt; simp only [List.getElem?_cons_zero, List.getElem?_cons_succ] at bx0 bx1 bx2 bx3 bx4 bxl))
  refine wp_loop_rounds 4 ?_
  repeat any_goals (rw [rounds_succ]; go_wp2_with (first
    | (go_at_call 13; clear tk0; generalize hW : World.alloc _ _ = V; have bx : Blk (w.heap.size) [.int .i64 x.op, .int .i64 x.a, .int .i64 x.b, .int .i64 x.c, .int .i16 x.i] 24 V := (by subst hW; exact Blk.grew (w := (w.alloc (.cells #[.int .i64 x.op, .int .i64 x.a, .int .i64 x.b, .int .i64 x.c, .int .i16 x.i] 24))) (by simpa using Blk.new w [.int .i64 x.op, .int .i64 x.a, .int .i64 x.b, .int .i64 x.c, .int .i16 x.i] 24) (by repeat (first | with_reducible exact Grew.refl _ | with_reducible refine Grew.alloc ?_ _ | with_reducible refine Grew.drw ?_ | with_reducible refine Grew.drwN ?_ _ | with_reducible refine Grew.sc ?_ (by first | omega | (simp <;> omega)) _ _))); replace HB : Hid (Grew w V) := Lib.hid (by subst hW; repeat (first | with_reducible exact HB.out | with_reducible refine Grew.sc ?_ (by first | omega | (simp <;> omega)) _ _ | with_reducible refine Grew.alloc ?_ _ | with_reducible refine Grew.drw ?_ | with_reducible refine Grew.drwN ?_ _)); clear hW; (with_reducible refine (rvalid_is x _ true HV.out HI.out).mono ?_); rintro e w1 ⟨rfl, g1⟩; replace bx := bx.grew g1; replace HB := Lib.hid (HB.out.trans g1); clear g1; have bx0 := bx.cell 0; have bx1 := bx.cell 1; have bx2 := bx.cell 2; have bx3 := bx.cell 3; have bx4 := bx.cell 4; have bxf := bx.free; have bxl := bx.lt; simp only [List.getElem?_cons_zero, List.getElem?_cons_succ] at bx0 bx1 bx2 bx3 bx4 bxl)
    | (go_at_call 39; clear tk1; (with_reducible refine (mnemonic_any x.op _).mono ?_); rintro e w2 ⟨rfl, g1⟩; clear bx0 bx1 bx2 bx3 bx4 bxf bxl; replace bx := bx.grew g1; replace HB := Lib.hid (HB.out.trans g1); clear g1; have bx0 := bx.cell 0; have bx1 := bx.cell 1; have bx2 := bx.cell 2; have bx3 := bx.cell 3; have bx4 := bx.cell 4; have bxf := bx.free; have bxl := bx.lt; simp only [List.getElem?_cons_zero, List.getElem?_cons_succ] at bx0 bx1 bx2 bx3 bx4 bxl)
    | (go_at_call 40; clear tk2; (with_reducible refine (shape_is x.op _ HSH.out _).mono ?_); rintro e w3 ⟨rfl, g1⟩; clear bx0 bx1 bx2 bx3 bx4 bxf bxl; replace bx := bx.grew g1; replace HB := Lib.hid (HB.out.trans g1); clear g1; have bx0 := bx.cell 0; have bx1 := bx.cell 1; have bx2 := bx.cell 2; have bx3 := bx.cell 3; have bx4 := bx.cell 4; have bxf := bx.free; have bxl := bx.lt; simp only [List.getElem?_cons_zero, List.getElem?_cons_succ] at bx0 bx1 bx2 bx3 bx4 bxl)
    | (go_at_call 48; clear tk3; (with_reducible refine (rnum_any (x.a) _ (by omega)).mono ?_); rintro e w4 ⟨rfl, g1⟩; clear bx0 bx1 bx2 bx3 bx4 bxf bxl; replace bx := bx.grew g1; replace HB := Lib.hid (HB.out.trans g1); clear g1; have bx0 := bx.cell 0; have bx1 := bx.cell 1; have bx2 := bx.cell 2; have bx3 := bx.cell 3; have bx4 := bx.cell 4; have bxf := bx.free; have bxl := bx.lt; simp only [List.getElem?_cons_zero, List.getElem?_cons_succ] at bx0 bx1 bx2 bx3 bx4 bxl)
    | (go_at_call 48; clear tk4; (with_reducible refine (rnum_any (x.b) _ (by omega)).mono ?_); rintro e w5 ⟨rfl, g1⟩; clear bx0 bx1 bx2 bx3 bx4 bxf bxl; replace bx := bx.grew g1; replace HB := Lib.hid (HB.out.trans g1); clear g1; have bx0 := bx.cell 0; have bx1 := bx.cell 1; have bx2 := bx.cell 2; have bx3 := bx.cell 3; have bx4 := bx.cell 4; have bxf := bx.free; have bxl := bx.lt; simp only [List.getElem?_cons_zero, List.getElem?_cons_succ] at bx0 bx1 bx2 bx3 bx4 bxl)
    | (go_at_call 48; clear tk5; (with_reducible refine (rnum_any (x.c) _ (by omega)).mono ?_); rintro e w6 ⟨rfl, g1⟩; clear bx0 bx1 bx2 bx3 bx4 bxf bxl; replace bx := bx.grew g1; replace HB := Lib.hid (HB.out.trans g1); clear g1; have bx0 := bx.cell 0; have bx1 := bx.cell 1; have bx2 := bx.cell 2; have bx3 := bx.cell 3; have bx4 := bx.cell 4; have bxf := bx.free; have bxl := bx.lt; simp only [List.getElem?_cons_zero, List.getElem?_cons_succ] at bx0 bx1 bx2 bx3 bx4 bxl)))
  all_goals go_ret
  all_goals exact ⟨ret_str (by rw [HF.out]; apply ByteArray.ext; simp [item, jn]), HB.out⟩
set_option maxHeartbeats 4000000 in
theorem rfmt_abi (x : Cd) (hv : valid x = true) (hsh : sh x.op = [97, 98, 105]) (w : World) : Calls Tryd.prog 25 #[cdV x] w fun e w' => e = .returned (.string ⟨(fmt x).toArray⟩) ∧ Grew w w' := by
  have HF := Lib.hid (show fmt x = (opr x.op).mn ++ (if ([97, 98, 105] : List UInt8) = [] then [] else 32 :: jn (([97, 98, 105] : List UInt8).map (item x))) by rw [fmt_ok hv]; unfold body; rw [hsh])
  obtain ⟨hop, ha, hb, hc, hi, _, _⟩ := valid_bd hv
  have HV := Lib.hid hv
  have HI := Lib.hid hi
  have HSH := Lib.hid hsh
  have hmn := mn_len x.op
  have l1 := Lib.itoa_length_le x.a (by omega) (by omega)
  have l2 := Lib.itoa_length_le x.b (by omega) (by omega)
  have l3 := Lib.itoa_length_le x.c (by omega) (by omega)
  have l4 := Lib.itoa_length_le x.i (by omega) (by omega)
  clear hv hsh
  have HB := Lib.hid (Grew.refl w)
  have tk0 := Lib.hid trivial
  have tk1 := Lib.hid trivial
  have tk2 := Lib.hid trivial
  have tk3 := Lib.hid trivial
  have tk4 := Lib.hid trivial
  have tk5 := Lib.hid trivial
  go_enter Tryd.func25, Tryd.ntmps25
  go_wp2_with (first
    | (go_at_call 13; clear tk0; generalize hW : World.alloc _ _ = V; have bx : Blk (w.heap.size) [.int .i64 x.op, .int .i64 x.a, .int .i64 x.b, .int .i64 x.c, .int .i16 x.i] 24 V := (by subst hW; exact Blk.grew (w := (w.alloc (.cells #[.int .i64 x.op, .int .i64 x.a, .int .i64 x.b, .int .i64 x.c, .int .i16 x.i] 24))) (by simpa using Blk.new w [.int .i64 x.op, .int .i64 x.a, .int .i64 x.b, .int .i64 x.c, .int .i16 x.i] 24) (by repeat (first | with_reducible exact Grew.refl _ | with_reducible refine Grew.alloc ?_ _ | with_reducible refine Grew.drw ?_ | with_reducible refine Grew.drwN ?_ _ | with_reducible refine Grew.sc ?_ (by first | omega | (simp <;> omega)) _ _))); replace HB : Hid (Grew w V) := Lib.hid (by subst hW; repeat (first | with_reducible exact HB.out | with_reducible refine Grew.sc ?_ (by first | omega | (simp <;> omega)) _ _ | with_reducible refine Grew.alloc ?_ _ | with_reducible refine Grew.drw ?_ | with_reducible refine Grew.drwN ?_ _)); clear hW; (with_reducible refine (rvalid_is x _ true HV.out HI.out).mono ?_); rintro e w1 ⟨rfl, g1⟩; replace bx := bx.grew g1; replace HB := Lib.hid (HB.out.trans g1); clear g1; have bx0 := bx.cell 0; have bx1 := bx.cell 1; have bx2 := bx.cell 2; have bx3 := bx.cell 3; have bx4 := bx.cell 4; have bxf := bx.free; have bxl := bx.lt; simp only [List.getElem?_cons_zero, List.getElem?_cons_succ] at bx0 bx1 bx2 bx3 bx4 bxl)
    | (go_at_call 39; clear tk1; (with_reducible refine (mnemonic_any x.op _).mono ?_); rintro e w2 ⟨rfl, g1⟩; clear bx0 bx1 bx2 bx3 bx4 bxf bxl; replace bx := bx.grew g1; replace HB := Lib.hid (HB.out.trans g1); clear g1; have bx0 := bx.cell 0; have bx1 := bx.cell 1; have bx2 := bx.cell 2; have bx3 := bx.cell 3; have bx4 := bx.cell 4; have bxf := bx.free; have bxl := bx.lt; simp only [List.getElem?_cons_zero, List.getElem?_cons_succ] at bx0 bx1 bx2 bx3 bx4 bxl)
    | (go_at_call 40; clear tk2; (with_reducible refine (shape_is x.op _ HSH.out _).mono ?_); rintro e w3 ⟨rfl, g1⟩; clear bx0 bx1 bx2 bx3 bx4 bxf bxl; replace bx := bx.grew g1; replace HB := Lib.hid (HB.out.trans g1); clear g1; have bx0 := bx.cell 0; have bx1 := bx.cell 1; have bx2 := bx.cell 2; have bx3 := bx.cell 3; have bx4 := bx.cell 4; have bxf := bx.free; have bxl := bx.lt; simp only [List.getElem?_cons_zero, List.getElem?_cons_succ] at bx0 bx1 bx2 bx3 bx4 bxl)
    | (go_at_call 48; clear tk3; (with_reducible refine (rnum_any (x.a) _ (by omega)).mono ?_); rintro e w4 ⟨rfl, g1⟩; clear bx0 bx1 bx2 bx3 bx4 bxf bxl; replace bx := bx.grew g1; replace HB := Lib.hid (HB.out.trans g1); clear g1; have bx0 := bx.cell 0; have bx1 := bx.cell 1; have bx2 := bx.cell 2; have bx3 := bx.cell 3; have bx4 := bx.cell 4; have bxf := bx.free; have bxl := bx.lt; simp only [List.getElem?_cons_zero, List.getElem?_cons_succ] at bx0 bx1 bx2 bx3 bx4 bxl)
    | (go_at_call 48; clear tk4; (with_reducible refine (rnum_any (x.b) _ (by omega)).mono ?_); rintro e w5 ⟨rfl, g1⟩; clear bx0 bx1 bx2 bx3 bx4 bxf bxl; replace bx := bx.grew g1; replace HB := Lib.hid (HB.out.trans g1); clear g1; have bx0 := bx.cell 0; have bx1 := bx.cell 1; have bx2 := bx.cell 2; have bx3 := bx.cell 3; have bx4 := bx.cell 4; have bxf := bx.free; have bxl := bx.lt; simp only [List.getElem?_cons_zero, List.getElem?_cons_succ] at bx0 bx1 bx2 bx3 bx4 bxl)
    | (go_at_call 48; clear tk5; (with_reducible refine (rnum_any (x.i) _ (by omega)).mono ?_); rintro e w6 ⟨rfl, g1⟩; clear bx0 bx1 bx2 bx3 bx4 bxf bxl; replace bx := bx.grew g1; replace HB := Lib.hid (HB.out.trans g1); clear g1; have bx0 := bx.cell 0; have bx1 := bx.cell 1; have bx2 := bx.cell 2; have bx3 := bx.cell 3; have bx4 := bx.cell 4; have bxf := bx.free; have bxl := bx.lt; simp only [List.getElem?_cons_zero, List.getElem?_cons_succ] at bx0 bx1 bx2 bx3 bx4 bxl))
  refine wp_loop_rounds 4 ?_
  repeat any_goals (rw [rounds_succ]; go_wp2_with (first
    | (go_at_call 13; clear tk0; generalize hW : World.alloc _ _ = V; have bx : Blk (w.heap.size) [.int .i64 x.op, .int .i64 x.a, .int .i64 x.b, .int .i64 x.c, .int .i16 x.i] 24 V := (by subst hW; exact Blk.grew (w := (w.alloc (.cells #[.int .i64 x.op, .int .i64 x.a, .int .i64 x.b, .int .i64 x.c, .int .i16 x.i] 24))) (by simpa using Blk.new w [.int .i64 x.op, .int .i64 x.a, .int .i64 x.b, .int .i64 x.c, .int .i16 x.i] 24) (by repeat (first | with_reducible exact Grew.refl _ | with_reducible refine Grew.alloc ?_ _ | with_reducible refine Grew.drw ?_ | with_reducible refine Grew.drwN ?_ _ | with_reducible refine Grew.sc ?_ (by first | omega | (simp <;> omega)) _ _))); replace HB : Hid (Grew w V) := Lib.hid (by subst hW; repeat (first | with_reducible exact HB.out | with_reducible refine Grew.sc ?_ (by first | omega | (simp <;> omega)) _ _ | with_reducible refine Grew.alloc ?_ _ | with_reducible refine Grew.drw ?_ | with_reducible refine Grew.drwN ?_ _)); clear hW; (with_reducible refine (rvalid_is x _ true HV.out HI.out).mono ?_); rintro e w1 ⟨rfl, g1⟩; replace bx := bx.grew g1; replace HB := Lib.hid (HB.out.trans g1); clear g1; have bx0 := bx.cell 0; have bx1 := bx.cell 1; have bx2 := bx.cell 2; have bx3 := bx.cell 3; have bx4 := bx.cell 4; have bxf := bx.free; have bxl := bx.lt; simp only [List.getElem?_cons_zero, List.getElem?_cons_succ] at bx0 bx1 bx2 bx3 bx4 bxl)
    | (go_at_call 39; clear tk1; (with_reducible refine (mnemonic_any x.op _).mono ?_); rintro e w2 ⟨rfl, g1⟩; clear bx0 bx1 bx2 bx3 bx4 bxf bxl; replace bx := bx.grew g1; replace HB := Lib.hid (HB.out.trans g1); clear g1; have bx0 := bx.cell 0; have bx1 := bx.cell 1; have bx2 := bx.cell 2; have bx3 := bx.cell 3; have bx4 := bx.cell 4; have bxf := bx.free; have bxl := bx.lt; simp only [List.getElem?_cons_zero, List.getElem?_cons_succ] at bx0 bx1 bx2 bx3 bx4 bxl)
    | (go_at_call 40; clear tk2; (with_reducible refine (shape_is x.op _ HSH.out _).mono ?_); rintro e w3 ⟨rfl, g1⟩; clear bx0 bx1 bx2 bx3 bx4 bxf bxl; replace bx := bx.grew g1; replace HB := Lib.hid (HB.out.trans g1); clear g1; have bx0 := bx.cell 0; have bx1 := bx.cell 1; have bx2 := bx.cell 2; have bx3 := bx.cell 3; have bx4 := bx.cell 4; have bxf := bx.free; have bxl := bx.lt; simp only [List.getElem?_cons_zero, List.getElem?_cons_succ] at bx0 bx1 bx2 bx3 bx4 bxl)
    | (go_at_call 48; clear tk3; (with_reducible refine (rnum_any (x.a) _ (by omega)).mono ?_); rintro e w4 ⟨rfl, g1⟩; clear bx0 bx1 bx2 bx3 bx4 bxf bxl; replace bx := bx.grew g1; replace HB := Lib.hid (HB.out.trans g1); clear g1; have bx0 := bx.cell 0; have bx1 := bx.cell 1; have bx2 := bx.cell 2; have bx3 := bx.cell 3; have bx4 := bx.cell 4; have bxf := bx.free; have bxl := bx.lt; simp only [List.getElem?_cons_zero, List.getElem?_cons_succ] at bx0 bx1 bx2 bx3 bx4 bxl)
    | (go_at_call 48; clear tk4; (with_reducible refine (rnum_any (x.b) _ (by omega)).mono ?_); rintro e w5 ⟨rfl, g1⟩; clear bx0 bx1 bx2 bx3 bx4 bxf bxl; replace bx := bx.grew g1; replace HB := Lib.hid (HB.out.trans g1); clear g1; have bx0 := bx.cell 0; have bx1 := bx.cell 1; have bx2 := bx.cell 2; have bx3 := bx.cell 3; have bx4 := bx.cell 4; have bxf := bx.free; have bxl := bx.lt; simp only [List.getElem?_cons_zero, List.getElem?_cons_succ] at bx0 bx1 bx2 bx3 bx4 bxl)
    | (go_at_call 48; clear tk5; (with_reducible refine (rnum_any (x.i) _ (by omega)).mono ?_); rintro e w6 ⟨rfl, g1⟩; clear bx0 bx1 bx2 bx3 bx4 bxf bxl; replace bx := bx.grew g1; replace HB := Lib.hid (HB.out.trans g1); clear g1; have bx0 := bx.cell 0; have bx1 := bx.cell 1; have bx2 := bx.cell 2; have bx3 := bx.cell 3; have bx4 := bx.cell 4; have bxf := bx.free; have bxl := bx.lt; simp only [List.getElem?_cons_zero, List.getElem?_cons_succ] at bx0 bx1 bx2 bx3 bx4 bxl)))
  all_goals go_ret
  all_goals exact ⟨ret_str (by rw [HF.out]; apply ByteArray.ext; simp [item, jn]), HB.out⟩
set_option maxHeartbeats 4000000 in
theorem rfmt_i (x : Cd) (hv : valid x = true) (hsh : sh x.op = [105]) (w : World) : Calls Tryd.prog 25 #[cdV x] w fun e w' => e = .returned (.string ⟨(fmt x).toArray⟩) ∧ Grew w w' := by
  have HF := Lib.hid (show fmt x = (opr x.op).mn ++ (if ([105] : List UInt8) = [] then [] else 32 :: jn (([105] : List UInt8).map (item x))) by rw [fmt_ok hv]; unfold body; rw [hsh])
  obtain ⟨hop, ha, hb, hc, hi, _, _⟩ := valid_bd hv
  have HV := Lib.hid hv
  have HI := Lib.hid hi
  have HSH := Lib.hid hsh
  have hmn := mn_len x.op
  have l1 := Lib.itoa_length_le x.a (by omega) (by omega)
  have l2 := Lib.itoa_length_le x.b (by omega) (by omega)
  have l3 := Lib.itoa_length_le x.c (by omega) (by omega)
  have l4 := Lib.itoa_length_le x.i (by omega) (by omega)
  clear hv hsh
  have HB := Lib.hid (Grew.refl w)
  have tk0 := Lib.hid trivial
  have tk1 := Lib.hid trivial
  have tk2 := Lib.hid trivial
  have tk3 := Lib.hid trivial
  go_enter Tryd.func25, Tryd.ntmps25
  go_wp2_with (first
    | (go_at_call 13; clear tk0; generalize hW : World.alloc _ _ = V; have bx : Blk (w.heap.size) [.int .i64 x.op, .int .i64 x.a, .int .i64 x.b, .int .i64 x.c, .int .i16 x.i] 24 V := (by subst hW; exact Blk.grew (w := (w.alloc (.cells #[.int .i64 x.op, .int .i64 x.a, .int .i64 x.b, .int .i64 x.c, .int .i16 x.i] 24))) (by simpa using Blk.new w [.int .i64 x.op, .int .i64 x.a, .int .i64 x.b, .int .i64 x.c, .int .i16 x.i] 24) (by repeat (first | with_reducible exact Grew.refl _ | with_reducible refine Grew.alloc ?_ _ | with_reducible refine Grew.drw ?_ | with_reducible refine Grew.drwN ?_ _ | with_reducible refine Grew.sc ?_ (by first | omega | (simp <;> omega)) _ _))); replace HB : Hid (Grew w V) := Lib.hid (by subst hW; repeat (first | with_reducible exact HB.out | with_reducible refine Grew.sc ?_ (by first | omega | (simp <;> omega)) _ _ | with_reducible refine Grew.alloc ?_ _ | with_reducible refine Grew.drw ?_ | with_reducible refine Grew.drwN ?_ _)); clear hW; (with_reducible refine (rvalid_is x _ true HV.out HI.out).mono ?_); rintro e w1 ⟨rfl, g1⟩; replace bx := bx.grew g1; replace HB := Lib.hid (HB.out.trans g1); clear g1; have bx0 := bx.cell 0; have bx1 := bx.cell 1; have bx2 := bx.cell 2; have bx3 := bx.cell 3; have bx4 := bx.cell 4; have bxf := bx.free; have bxl := bx.lt; simp only [List.getElem?_cons_zero, List.getElem?_cons_succ] at bx0 bx1 bx2 bx3 bx4 bxl)
    | (go_at_call 39; clear tk1; (with_reducible refine (mnemonic_any x.op _).mono ?_); rintro e w2 ⟨rfl, g1⟩; clear bx0 bx1 bx2 bx3 bx4 bxf bxl; replace bx := bx.grew g1; replace HB := Lib.hid (HB.out.trans g1); clear g1; have bx0 := bx.cell 0; have bx1 := bx.cell 1; have bx2 := bx.cell 2; have bx3 := bx.cell 3; have bx4 := bx.cell 4; have bxf := bx.free; have bxl := bx.lt; simp only [List.getElem?_cons_zero, List.getElem?_cons_succ] at bx0 bx1 bx2 bx3 bx4 bxl)
    | (go_at_call 40; clear tk2; (with_reducible refine (shape_is x.op _ HSH.out _).mono ?_); rintro e w3 ⟨rfl, g1⟩; clear bx0 bx1 bx2 bx3 bx4 bxf bxl; replace bx := bx.grew g1; replace HB := Lib.hid (HB.out.trans g1); clear g1; have bx0 := bx.cell 0; have bx1 := bx.cell 1; have bx2 := bx.cell 2; have bx3 := bx.cell 3; have bx4 := bx.cell 4; have bxf := bx.free; have bxl := bx.lt; simp only [List.getElem?_cons_zero, List.getElem?_cons_succ] at bx0 bx1 bx2 bx3 bx4 bxl)
    | (go_at_call 48; clear tk3; (with_reducible refine (rnum_any (x.i) _ (by omega)).mono ?_); rintro e w4 ⟨rfl, g1⟩; clear bx0 bx1 bx2 bx3 bx4 bxf bxl; replace bx := bx.grew g1; replace HB := Lib.hid (HB.out.trans g1); clear g1; have bx0 := bx.cell 0; have bx1 := bx.cell 1; have bx2 := bx.cell 2; have bx3 := bx.cell 3; have bx4 := bx.cell 4; have bxf := bx.free; have bxl := bx.lt; simp only [List.getElem?_cons_zero, List.getElem?_cons_succ] at bx0 bx1 bx2 bx3 bx4 bxl))
  refine wp_loop_rounds 2 ?_
  repeat any_goals (rw [rounds_succ]; go_wp2_with (first
    | (go_at_call 13; clear tk0; generalize hW : World.alloc _ _ = V; have bx : Blk (w.heap.size) [.int .i64 x.op, .int .i64 x.a, .int .i64 x.b, .int .i64 x.c, .int .i16 x.i] 24 V := (by subst hW; exact Blk.grew (w := (w.alloc (.cells #[.int .i64 x.op, .int .i64 x.a, .int .i64 x.b, .int .i64 x.c, .int .i16 x.i] 24))) (by simpa using Blk.new w [.int .i64 x.op, .int .i64 x.a, .int .i64 x.b, .int .i64 x.c, .int .i16 x.i] 24) (by repeat (first | with_reducible exact Grew.refl _ | with_reducible refine Grew.alloc ?_ _ | with_reducible refine Grew.drw ?_ | with_reducible refine Grew.drwN ?_ _ | with_reducible refine Grew.sc ?_ (by first | omega | (simp <;> omega)) _ _))); replace HB : Hid (Grew w V) := Lib.hid (by subst hW; repeat (first | with_reducible exact HB.out | with_reducible refine Grew.sc ?_ (by first | omega | (simp <;> omega)) _ _ | with_reducible refine Grew.alloc ?_ _ | with_reducible refine Grew.drw ?_ | with_reducible refine Grew.drwN ?_ _)); clear hW; (with_reducible refine (rvalid_is x _ true HV.out HI.out).mono ?_); rintro e w1 ⟨rfl, g1⟩; replace bx := bx.grew g1; replace HB := Lib.hid (HB.out.trans g1); clear g1; have bx0 := bx.cell 0; have bx1 := bx.cell 1; have bx2 := bx.cell 2; have bx3 := bx.cell 3; have bx4 := bx.cell 4; have bxf := bx.free; have bxl := bx.lt; simp only [List.getElem?_cons_zero, List.getElem?_cons_succ] at bx0 bx1 bx2 bx3 bx4 bxl)
    | (go_at_call 39; clear tk1; (with_reducible refine (mnemonic_any x.op _).mono ?_); rintro e w2 ⟨rfl, g1⟩; clear bx0 bx1 bx2 bx3 bx4 bxf bxl; replace bx := bx.grew g1; replace HB := Lib.hid (HB.out.trans g1); clear g1; have bx0 := bx.cell 0; have bx1 := bx.cell 1; have bx2 := bx.cell 2; have bx3 := bx.cell 3; have bx4 := bx.cell 4; have bxf := bx.free; have bxl := bx.lt; simp only [List.getElem?_cons_zero, List.getElem?_cons_succ] at bx0 bx1 bx2 bx3 bx4 bxl)
    | (go_at_call 40; clear tk2; (with_reducible refine (shape_is x.op _ HSH.out _).mono ?_); rintro e w3 ⟨rfl, g1⟩; clear bx0 bx1 bx2 bx3 bx4 bxf bxl; replace bx := bx.grew g1; replace HB := Lib.hid (HB.out.trans g1); clear g1; have bx0 := bx.cell 0; have bx1 := bx.cell 1; have bx2 := bx.cell 2; have bx3 := bx.cell 3; have bx4 := bx.cell 4; have bxf := bx.free; have bxl := bx.lt; simp only [List.getElem?_cons_zero, List.getElem?_cons_succ] at bx0 bx1 bx2 bx3 bx4 bxl)
    | (go_at_call 48; clear tk3; (with_reducible refine (rnum_any (x.i) _ (by omega)).mono ?_); rintro e w4 ⟨rfl, g1⟩; clear bx0 bx1 bx2 bx3 bx4 bxf bxl; replace bx := bx.grew g1; replace HB := Lib.hid (HB.out.trans g1); clear g1; have bx0 := bx.cell 0; have bx1 := bx.cell 1; have bx2 := bx.cell 2; have bx3 := bx.cell 3; have bx4 := bx.cell 4; have bxf := bx.free; have bxl := bx.lt; simp only [List.getElem?_cons_zero, List.getElem?_cons_succ] at bx0 bx1 bx2 bx3 bx4 bxl)))
  all_goals go_ret
  all_goals exact ⟨ret_str (by rw [HF.out]; apply ByteArray.ext; simp [item, jn]), HB.out⟩
set_option maxHeartbeats 4000000 in
theorem rfmt_a (x : Cd) (hv : valid x = true) (hsh : sh x.op = [97]) (w : World) : Calls Tryd.prog 25 #[cdV x] w fun e w' => e = .returned (.string ⟨(fmt x).toArray⟩) ∧ Grew w w' := by
  have HF := Lib.hid (show fmt x = (opr x.op).mn ++ (if ([97] : List UInt8) = [] then [] else 32 :: jn (([97] : List UInt8).map (item x))) by rw [fmt_ok hv]; unfold body; rw [hsh])
  obtain ⟨hop, ha, hb, hc, hi, _, _⟩ := valid_bd hv
  have HV := Lib.hid hv
  have HI := Lib.hid hi
  have HSH := Lib.hid hsh
  have hmn := mn_len x.op
  have l1 := Lib.itoa_length_le x.a (by omega) (by omega)
  have l2 := Lib.itoa_length_le x.b (by omega) (by omega)
  have l3 := Lib.itoa_length_le x.c (by omega) (by omega)
  have l4 := Lib.itoa_length_le x.i (by omega) (by omega)
  clear hv hsh
  have HB := Lib.hid (Grew.refl w)
  have tk0 := Lib.hid trivial
  have tk1 := Lib.hid trivial
  have tk2 := Lib.hid trivial
  have tk3 := Lib.hid trivial
  go_enter Tryd.func25, Tryd.ntmps25
  go_wp2_with (first
    | (go_at_call 13; clear tk0; generalize hW : World.alloc _ _ = V; have bx : Blk (w.heap.size) [.int .i64 x.op, .int .i64 x.a, .int .i64 x.b, .int .i64 x.c, .int .i16 x.i] 24 V := (by subst hW; exact Blk.grew (w := (w.alloc (.cells #[.int .i64 x.op, .int .i64 x.a, .int .i64 x.b, .int .i64 x.c, .int .i16 x.i] 24))) (by simpa using Blk.new w [.int .i64 x.op, .int .i64 x.a, .int .i64 x.b, .int .i64 x.c, .int .i16 x.i] 24) (by repeat (first | with_reducible exact Grew.refl _ | with_reducible refine Grew.alloc ?_ _ | with_reducible refine Grew.drw ?_ | with_reducible refine Grew.drwN ?_ _ | with_reducible refine Grew.sc ?_ (by first | omega | (simp <;> omega)) _ _))); replace HB : Hid (Grew w V) := Lib.hid (by subst hW; repeat (first | with_reducible exact HB.out | with_reducible refine Grew.sc ?_ (by first | omega | (simp <;> omega)) _ _ | with_reducible refine Grew.alloc ?_ _ | with_reducible refine Grew.drw ?_ | with_reducible refine Grew.drwN ?_ _)); clear hW; (with_reducible refine (rvalid_is x _ true HV.out HI.out).mono ?_); rintro e w1 ⟨rfl, g1⟩; replace bx := bx.grew g1; replace HB := Lib.hid (HB.out.trans g1); clear g1; have bx0 := bx.cell 0; have bx1 := bx.cell 1; have bx2 := bx.cell 2; have bx3 := bx.cell 3; have bx4 := bx.cell 4; have bxf := bx.free; have bxl := bx.lt; simp only [List.getElem?_cons_zero, List.getElem?_cons_succ] at bx0 bx1 bx2 bx3 bx4 bxl)
    | (go_at_call 39; clear tk1; (with_reducible refine (mnemonic_any x.op _).mono ?_); rintro e w2 ⟨rfl, g1⟩; clear bx0 bx1 bx2 bx3 bx4 bxf bxl; replace bx := bx.grew g1; replace HB := Lib.hid (HB.out.trans g1); clear g1; have bx0 := bx.cell 0; have bx1 := bx.cell 1; have bx2 := bx.cell 2; have bx3 := bx.cell 3; have bx4 := bx.cell 4; have bxf := bx.free; have bxl := bx.lt; simp only [List.getElem?_cons_zero, List.getElem?_cons_succ] at bx0 bx1 bx2 bx3 bx4 bxl)
    | (go_at_call 40; clear tk2; (with_reducible refine (shape_is x.op _ HSH.out _).mono ?_); rintro e w3 ⟨rfl, g1⟩; clear bx0 bx1 bx2 bx3 bx4 bxf bxl; replace bx := bx.grew g1; replace HB := Lib.hid (HB.out.trans g1); clear g1; have bx0 := bx.cell 0; have bx1 := bx.cell 1; have bx2 := bx.cell 2; have bx3 := bx.cell 3; have bx4 := bx.cell 4; have bxf := bx.free; have bxl := bx.lt; simp only [List.getElem?_cons_zero, List.getElem?_cons_succ] at bx0 bx1 bx2 bx3 bx4 bxl)
    | (go_at_call 48; clear tk3; (with_reducible refine (rnum_any (x.a) _ (by omega)).mono ?_); rintro e w4 ⟨rfl, g1⟩; clear bx0 bx1 bx2 bx3 bx4 bxf bxl; replace bx := bx.grew g1; replace HB := Lib.hid (HB.out.trans g1); clear g1; have bx0 := bx.cell 0; have bx1 := bx.cell 1; have bx2 := bx.cell 2; have bx3 := bx.cell 3; have bx4 := bx.cell 4; have bxf := bx.free; have bxl := bx.lt; simp only [List.getElem?_cons_zero, List.getElem?_cons_succ] at bx0 bx1 bx2 bx3 bx4 bxl))
  refine wp_loop_rounds 2 ?_
  repeat any_goals (rw [rounds_succ]; go_wp2_with (first
    | (go_at_call 13; clear tk0; generalize hW : World.alloc _ _ = V; have bx : Blk (w.heap.size) [.int .i64 x.op, .int .i64 x.a, .int .i64 x.b, .int .i64 x.c, .int .i16 x.i] 24 V := (by subst hW; exact Blk.grew (w := (w.alloc (.cells #[.int .i64 x.op, .int .i64 x.a, .int .i64 x.b, .int .i64 x.c, .int .i16 x.i] 24))) (by simpa using Blk.new w [.int .i64 x.op, .int .i64 x.a, .int .i64 x.b, .int .i64 x.c, .int .i16 x.i] 24) (by repeat (first | with_reducible exact Grew.refl _ | with_reducible refine Grew.alloc ?_ _ | with_reducible refine Grew.drw ?_ | with_reducible refine Grew.drwN ?_ _ | with_reducible refine Grew.sc ?_ (by first | omega | (simp <;> omega)) _ _))); replace HB : Hid (Grew w V) := Lib.hid (by subst hW; repeat (first | with_reducible exact HB.out | with_reducible refine Grew.sc ?_ (by first | omega | (simp <;> omega)) _ _ | with_reducible refine Grew.alloc ?_ _ | with_reducible refine Grew.drw ?_ | with_reducible refine Grew.drwN ?_ _)); clear hW; (with_reducible refine (rvalid_is x _ true HV.out HI.out).mono ?_); rintro e w1 ⟨rfl, g1⟩; replace bx := bx.grew g1; replace HB := Lib.hid (HB.out.trans g1); clear g1; have bx0 := bx.cell 0; have bx1 := bx.cell 1; have bx2 := bx.cell 2; have bx3 := bx.cell 3; have bx4 := bx.cell 4; have bxf := bx.free; have bxl := bx.lt; simp only [List.getElem?_cons_zero, List.getElem?_cons_succ] at bx0 bx1 bx2 bx3 bx4 bxl)
    | (go_at_call 39; clear tk1; (with_reducible refine (mnemonic_any x.op _).mono ?_); rintro e w2 ⟨rfl, g1⟩; clear bx0 bx1 bx2 bx3 bx4 bxf bxl; replace bx := bx.grew g1; replace HB := Lib.hid (HB.out.trans g1); clear g1; have bx0 := bx.cell 0; have bx1 := bx.cell 1; have bx2 := bx.cell 2; have bx3 := bx.cell 3; have bx4 := bx.cell 4; have bxf := bx.free; have bxl := bx.lt; simp only [List.getElem?_cons_zero, List.getElem?_cons_succ] at bx0 bx1 bx2 bx3 bx4 bxl)
    | (go_at_call 40; clear tk2; (with_reducible refine (shape_is x.op _ HSH.out _).mono ?_); rintro e w3 ⟨rfl, g1⟩; clear bx0 bx1 bx2 bx3 bx4 bxf bxl; replace bx := bx.grew g1; replace HB := Lib.hid (HB.out.trans g1); clear g1; have bx0 := bx.cell 0; have bx1 := bx.cell 1; have bx2 := bx.cell 2; have bx3 := bx.cell 3; have bx4 := bx.cell 4; have bxf := bx.free; have bxl := bx.lt; simp only [List.getElem?_cons_zero, List.getElem?_cons_succ] at bx0 bx1 bx2 bx3 bx4 bxl)
    | (go_at_call 48; clear tk3; (with_reducible refine (rnum_any (x.a) _ (by omega)).mono ?_); rintro e w4 ⟨rfl, g1⟩; clear bx0 bx1 bx2 bx3 bx4 bxf bxl; replace bx := bx.grew g1; replace HB := Lib.hid (HB.out.trans g1); clear g1; have bx0 := bx.cell 0; have bx1 := bx.cell 1; have bx2 := bx.cell 2; have bx3 := bx.cell 3; have bx4 := bx.cell 4; have bxf := bx.free; have bxl := bx.lt; simp only [List.getElem?_cons_zero, List.getElem?_cons_succ] at bx0 bx1 bx2 bx3 bx4 bxl)))
  all_goals go_ret
  all_goals exact ⟨ret_str (by rw [HF.out]; apply ByteArray.ext; simp [item, jn]), HB.out⟩
theorem tab_shape : ∀ k : Fin 31, sh (k.val : Int) ∈ ([[], [97, 105], [97, 98], [97, 98, 99], [97, 98, 105], [105], [97]] : List (List UInt8)) := by decide
theorem rformat_no (x : Cd) (hv : valid x = false) (hi : -32768 ≤ x.i ∧ x.i ≤ 32767) (w : World) : Calls Tryd.prog 25 #[cdV x] w fun e w' => e = .returned (.string ⟨(fmt x).toArray⟩) ∧ Grew w w' := by
  rw [fmt_no hv]
  have HV := Lib.hid hv
  have HI := Lib.hid hi
  clear hv hi
  have HB := Lib.hid (Grew.refl w)
  have tk0 := Lib.hid trivial
  go_enter Tryd.func25, Tryd.ntmps25
  go_wp2_with (first
    | (go_at_call 13; clear tk0; generalize hW : World.alloc _ _ = V; have bx : Blk (w.heap.size) [.int .i64 x.op, .int .i64 x.a, .int .i64 x.b, .int .i64 x.c, .int .i16 x.i] 24 V := (by subst hW; exact Blk.grew (w := (w.alloc (.cells #[.int .i64 x.op, .int .i64 x.a, .int .i64 x.b, .int .i64 x.c, .int .i16 x.i] 24))) (by simpa using Blk.new w [.int .i64 x.op, .int .i64 x.a, .int .i64 x.b, .int .i64 x.c, .int .i16 x.i] 24) (by repeat (first | with_reducible exact Grew.refl _ | with_reducible refine Grew.alloc ?_ _ | with_reducible refine Grew.drw ?_ | with_reducible refine Grew.drwN ?_ _ | with_reducible refine Grew.sc ?_ (by first | omega | (simp <;> omega)) _ _))); replace HB : Hid (Grew w V) := Lib.hid (by subst hW; repeat (first | with_reducible exact HB.out | with_reducible refine Grew.sc ?_ (by first | omega | (simp <;> omega)) _ _ | with_reducible refine Grew.alloc ?_ _ | with_reducible refine Grew.drw ?_ | with_reducible refine Grew.drwN ?_ _)); clear hW; (with_reducible refine (rvalid_is x _ false HV.out HI.out).mono ?_); rintro e w1 ⟨rfl, g1⟩; replace bx := bx.grew g1; replace HB := Lib.hid (HB.out.trans g1); clear g1; have bx0 := bx.cell 0; have bx1 := bx.cell 1; have bx2 := bx.cell 2; have bx3 := bx.cell 3; have bx4 := bx.cell 4; have bxf := bx.free; have bxl := bx.lt; simp only [List.getElem?_cons_zero, List.getElem?_cons_succ] at bx0 bx1 bx2 bx3 bx4 bxl))
  go_ret
  exact ⟨rfl, HB.out⟩
theorem rformat_any (x : Cd) (hi : -32768 ≤ x.i ∧ x.i ≤ 32767) (w : World) : Calls Tryd.prog 25 #[cdV x] w fun e w' => e = .returned (.string ⟨(fmt x).toArray⟩) ∧ Grew w w' := by
  cases hv : valid x
  · exact rformat_no x hv hi w
  · obtain ⟨k, hk, _⟩ := valid_op hv
    have ht := tab_shape k
    rw [← hk] at ht
    simp only [List.mem_cons, List.not_mem_nil, or_false] at ht
    rcases ht with h | h | h | h | h | h | h
    · exact rfmt_z x hv h w
    · exact rfmt_ai x hv h w
    · exact rfmt_ab x hv h w
    · exact rfmt_abc x hv h w
    · exact rfmt_abi x hv h w
    · exact rfmt_i x hv h w
    · exact rfmt_a x hv h w
end Go.Proofs.YtddffijipphfeaaDoor
