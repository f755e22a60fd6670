/-
  LAYER 11 (isa): the example of the document; the statements Valid and Encode.
-/
import Derived.Test.YtddffijipphfeaaDoorIsaFmt
namespace Go.Proofs.YtddffijipphfeaaDoor
open Go Go.RowKit Go.IntWalk
open Go.Lib (itoa)
set_option linter.unusedSimpArgs false
set_option linter.unusedVariables false
set_option maxRecDepth 8000
theorem enters_va : Enters Tryd.prog 12 := fun args w => by go_simp
theorem enters_rva : Enters Tryd.prog 13 := fun args w => by go_simp
section
variable {dst : Option Tmp} {ty : TypeId} {pos : String} {after : Array Edge} {g : Option (Nat × Bool)} {a : Act} {w : World} {T : Value → World → Prop}
theorem rn_ld_24 {x : Operand} {S o : Nat} {v0 v1 v2 v3 v4 : Value} (hx : a.eval x = .pointer (some ⟨S, o, none⟩)) (h0 : w.cell? ⟨S, o, none⟩ = some v0) (h1 : w.cell? ⟨S, o + 1, none⟩ = some v1) (h2 : w.cell? ⟨S, o + 2, none⟩ = some v2) (h3 : w.cell? ⟨S, o + 3, none⟩ = some v3) (h4 : w.cell? ⟨S, o + 4, none⟩ = some v4) (h : T (.agg #[v0, v1, v2, v3, v4]) w) : Runs Tryd.prog ⟨dst, .load 24 x, ty, pos, after, g⟩ a w T := by
  refine Runs.value (v := .agg #[v0, v1, v2, v3, v4]) (w' := w) ?_ h
  simp only [execOp, hx]
  go_simp
theorem rn_eql_4 {o1 o2 : Operand} {b c : Bool} (hx : a.eval o1 = .bool b) (hy : a.eval o2 = .bool c) (h : T (.bool (b == c)) w) : Runs Tryd.prog ⟨dst, .binOp .eql 4 o1 o2 4, ty, pos, after, g⟩ a w T := by
  refine Runs.value (v := .bool (b == c)) (w' := w) ?_ h
  simp only [execOp, hx, hy]
  go_simp
  all_goals (cases b <;> cases c <;> rfl)
end

abbrev XE : Cd := ⟨15, 1, 0, 0, 2560⟩
theorem xe_valid : valid XE = true := by decide
theorem xe_fmt : fmt XE = [115, 116, 111, 114, 101, 32, 114, 49, 44, 32, 50, 53, 54, 48] := by
  have d4 : Lib.decDigits 2560 = [50, 53, 54, 48] := by
    rw [Lib.decDigits, dif_neg (by decide), show 2560 / 10 = 256 from rfl, Lib.decDigits, dif_neg (by decide), show 256 / 10 = 25 from rfl, Lib.decDigits_two (by omega) (by omega)]; rfl
  have h1 : Lib.decDigits 1 = [49] := Lib.decDigits_one (by omega)
  have e1 : itoa 1 = [49] := h1
  have e4 : itoa 2560 = [50, 53, 54, 48] := d4
  rw [fmt_ok xe_valid]
  unfold body
  rw [if_neg (by decide), show sh XE.op = [97, 105] by decide]
  show (opr 15).mn ++ 32 :: ((114 :: itoa 1) ++ 44 :: 32 :: itoa 2560) = _
  rw [e1, e4]
  rfl
theorem encode_ex (w : World) (hE : Env w) : Calls Tryd.prog 14 #[.agg #[.int .i64 15, .int .i64 1, .int .i64 0, .int .i64 0, .int .i16 2560]] w fun e w' => e = .returned (.tuple #[.agg #[.int .u8 15, .int .u8 1, .int .u8 0, .int .u8 10], .int .i64 0]) ∧ Grew w w' := by
  have h := encode_any XE w hE
  rw [show encR XE = .tuple #[.agg #[.int .u8 15, .int .u8 1, .int .u8 0, .int .u8 10], .int .i64 0] from by unfold encR; rw [if_pos xe_valid]; rfl] at h
  exact h
theorem xe_cand : cand 15 1 0 10 = XE := by unfold cand; rw [if_neg (by decide)]; rfl
theorem decode_ex (w : World) (hE : Env w) : Calls Tryd.prog 16 #[.agg #[.int .u8 15, .int .u8 1, .int .u8 0, .int .u8 10]] w fun e w' => e = .returned (.tuple #[.agg #[.int .i64 15, .int .i64 1, .int .i64 0, .int .i64 0, .int .i16 2560], .int .i64 0]) ∧ Grew w w' := by
  have h := decode_any 15 1 0 10 (by decide) (by decide) (by decide) (by decide) w hE
  rw [show decR 15 1 0 10 = .tuple #[.agg #[.int .i64 15, .int .i64 1, .int .i64 0, .int .i64 0, .int .i16 2560], .int .i64 0] from by unfold decR; rw [xe_cand, if_pos xe_valid]] at h
  exact h
theorem format_ex (w : World) (hE : Env w) : Calls Tryd.prog 24 #[.agg #[.int .i64 15, .int .i64 1, .int .i64 0, .int .i64 0, .int .i16 2560]] w fun e w' => e = .returned (.string ⟨#[115, 116, 111, 114, 101, 32, 114, 49, 44, 32, 50, 53, 54, 48]⟩) ∧ Grew w w' := by
  have h := format_yes XE xe_valid w hE
  rw [xe_fmt] at h
  exact h
theorem valid_ex (w : World) (hE : Env w) : Calls Tryd.prog 12 #[.agg #[.int .i64 15, .int .i64 1, .int .i64 0, .int .i64 0, .int .i16 2560]] w fun e w' => e = .returned (.bool true) ∧ Grew w w' := valid_is XE w true xe_valid hE
set_option maxHeartbeats 4000000 in
theorem wakes_any (w : World) (hE : Env w) : Calls Tryd.prog 11 #[] w fun e w' => e = .returned (.bool true) ∧ Grew w w' := by
  have HE := Lib.hid hE
  have hsm := eql4 15 1 0 10 (by decide) (by decide) (by decide) (by decide)
  clear hE
  have HB := Lib.hid (Grew.refl w)
  have tk0 := Lib.hid trivial
  have tk1 := Lib.hid trivial
  have tk2 := Lib.hid trivial
  have tk3 := Lib.hid trivial
  go_enter Tryd.func11, Tryd.ntmps11
  go_wp2_with (first
    | (go_at_call 14; clear tk0; generalize hW : World.alloc _ _ = V; have bc : Blk (w.heap.size) [.int .i64 15, .int .i64 1, .int .i64 0, .int .i64 0, .int .i16 2560] 24 V := (by subst hW; exact Blk.grew (w := (w.alloc (.cells #[.int .i64 15, .int .i64 1, .int .i64 0, .int .i64 0, .int .i16 2560] 24))) (by simpa using Blk.new w [.int .i64 15, .int .i64 1, .int .i64 0, .int .i64 0, .int .i16 2560] 24) (by repeat (first | with_reducible exact Grew.refl _ | with_reducible refine Grew.alloc ?_ _ | with_reducible refine Grew.drw ?_ | with_reducible refine Grew.drwN ?_ _ | with_reducible refine Grew.sc ?_ (by first | omega | (simp <;> omega)) _ _))); replace HB : Hid (Grew w V) := Lib.hid (by subst hW; repeat (first | with_reducible exact HB.out | with_reducible refine Grew.sc ?_ (by first | omega | (simp <;> omega)) _ _ | with_reducible refine Grew.alloc ?_ _ | with_reducible refine Grew.drw ?_ | with_reducible refine Grew.drwN ?_ _)); clear hW; (with_reducible refine (encode_ex _ (HE.out.grew HB.out)).mono ?_); rintro e w1 ⟨rfl, g1⟩; replace bc := bc.grew g1; replace HB := Lib.hid (HB.out.trans g1); clear g1; have bc0 := bc.cell 0; have bc1 := bc.cell 1; have bc2 := bc.cell 2; have bc3 := bc.cell 3; have bc4 := bc.cell 4; have bcf := bc.free; have bcl := bc.lt; simp only [List.getElem?_cons_zero, List.getElem?_cons_succ] at bc0 bc1 bc2 bc3 bc4 bcl)
    | (go_at_call 16; clear tk1; have ne_bb_bc := Lib.hid (show w1.heap.size ≠ w.heap.size by omega); generalize hW : World.alloc _ _ = V; clear bc0 bc1 bc2 bc3 bc4 bcf bcl; replace bc : Blk (w.heap.size) [.int .i64 15, .int .i64 1, .int .i64 0, .int .i64 0, .int .i16 2560] 24 V := (by subst hW; exact (bc.grew ((Grew.refl _).alloc _))); have bb : Blk (w1.heap.size) [.int .u8 15, .int .u8 1, .int .u8 0, .int .u8 10] 27 V := (by subst hW; exact Blk.grew (w := (w1.alloc (.cells #[.int .u8 15, .int .u8 1, .int .u8 0, .int .u8 10] 27))) (by simpa using Blk.new w1 [.int .u8 15, .int .u8 1, .int .u8 0, .int .u8 10] 27) (by repeat (first | with_reducible exact Grew.refl _ | with_reducible refine Grew.alloc ?_ _ | with_reducible refine Grew.drw ?_ | with_reducible refine Grew.drwN ?_ _ | with_reducible refine Grew.sc ?_ (by first | omega | (simp <;> omega)) _ _))); replace HB : Hid (Grew w V) := Lib.hid (by subst hW; repeat (first | with_reducible exact HB.out | with_reducible refine Grew.sc ?_ (by first | omega | (simp <;> omega)) _ _ | with_reducible refine Grew.alloc ?_ _ | with_reducible refine Grew.drw ?_ | with_reducible refine Grew.drwN ?_ _)); clear hW; (with_reducible refine (decode_ex _ (HE.out.grew HB.out)).mono ?_); rintro e w2 ⟨rfl, g1⟩; replace bc := bc.grew g1; replace bb := bb.grew g1; replace HB := Lib.hid (HB.out.trans g1); clear g1; have bc0 := bc.cell 0; have bc1 := bc.cell 1; have bc2 := bc.cell 2; have bc3 := bc.cell 3; have bc4 := bc.cell 4; have bcf := bc.free; have bcl := bc.lt; simp only [List.getElem?_cons_zero, List.getElem?_cons_succ] at bc0 bc1 bc2 bc3 bc4 bcl; have bb0 := bb.cell 0; have bb1 := bb.cell 1; have bb2 := bb.cell 2; have bb3 := bb.cell 3; have bbf := bb.free; have bbl := bb.lt; simp only [List.getElem?_cons_zero, List.getElem?_cons_succ] at bb0 bb1 bb2 bb3 bbl)
    | (go_at_call 24; clear tk2; have ne_bd_bc := Lib.hid (show w2.heap.size ≠ w.heap.size by omega); have ne_bd_bb := Lib.hid (show w2.heap.size ≠ w1.heap.size by omega); generalize hW : World.alloc _ _ = V; clear bc0 bc1 bc2 bc3 bc4 bcf bcl; clear bb0 bb1 bb2 bb3 bbf bbl; replace bc : Blk (w.heap.size) [.int .i64 15, .int .i64 1, .int .i64 0, .int .i64 0, .int .i16 2560] 24 V := (by subst hW; exact (bc.grew ((Grew.refl _).alloc _))); replace bb : Blk (w1.heap.size) [.int .u8 15, .int .u8 1, .int .u8 0, .int .u8 10] 27 V := (by subst hW; exact (bb.grew ((Grew.refl _).alloc _))); have bd : Blk (w2.heap.size) [.int .i64 15, .int .i64 1, .int .i64 0, .int .i64 0, .int .i16 2560] 24 V := (by subst hW; exact Blk.grew (w := (w2.alloc (.cells #[.int .i64 15, .int .i64 1, .int .i64 0, .int .i64 0, .int .i16 2560] 24))) (by simpa using Blk.new w2 [.int .i64 15, .int .i64 1, .int .i64 0, .int .i64 0, .int .i16 2560] 24) (by repeat (first | with_reducible exact Grew.refl _ | with_reducible refine Grew.alloc ?_ _ | with_reducible refine Grew.drw ?_ | with_reducible refine Grew.drwN ?_ _ | with_reducible refine Grew.sc ?_ (by first | omega | (simp <;> omega)) _ _))); replace HB : Hid (Grew w V) := Lib.hid (by subst hW; repeat (first | with_reducible exact HB.out | with_reducible refine Grew.sc ?_ (by first | omega | (simp <;> omega)) _ _ | with_reducible refine Grew.alloc ?_ _ | with_reducible refine Grew.drw ?_ | with_reducible refine Grew.drwN ?_ _)); clear hW; (with_reducible refine (format_ex _ (HE.out.grew HB.out)).mono ?_); rintro e w3 ⟨rfl, g1⟩; replace bc := bc.grew g1; replace bb := bb.grew g1; replace bd := bd.grew g1; replace HB := Lib.hid (HB.out.trans g1); clear g1; have bc0 := bc.cell 0; have bc1 := bc.cell 1; have bc2 := bc.cell 2; have bc3 := bc.cell 3; have bc4 := bc.cell 4; have bcf := bc.free; have bcl := bc.lt; simp only [List.getElem?_cons_zero, List.getElem?_cons_succ] at bc0 bc1 bc2 bc3 bc4 bcl; have bb0 := bb.cell 0; have bb1 := bb.cell 1; have bb2 := bb.cell 2; have bb3 := bb.cell 3; have bbf := bb.free; have bbl := bb.lt; simp only [List.getElem?_cons_zero, List.getElem?_cons_succ] at bb0 bb1 bb2 bb3 bbl; have bd0 := bd.cell 0; have bd1 := bd.cell 1; have bd2 := bd.cell 2; have bd3 := bd.cell 3; have bd4 := bd.cell 4; have bdf := bd.free; have bdl := bd.lt; simp only [List.getElem?_cons_zero, List.getElem?_cons_succ] at bd0 bd1 bd2 bd3 bd4 bdl)
    | (go_at_call 12; clear tk3; (with_reducible refine (valid_ex _ (HE.out.grew HB.out)).mono ?_); rintro e w4 ⟨rfl, g1⟩; clear bc0 bc1 bc2 bc3 bc4 bcf bcl; replace bc := bc.grew g1; clear bb0 bb1 bb2 bb3 bbf bbl; replace bb := bb.grew g1; clear bd0 bd1 bd2 bd3 bd4 bdf bdl; replace bd := bd.grew g1; replace HB := Lib.hid (HB.out.trans g1); clear g1; have bc0 := bc.cell 0; have bc1 := bc.cell 1; have bc2 := bc.cell 2; have bc3 := bc.cell 3; have bc4 := bc.cell 4; have bcf := bc.free; have bcl := bc.lt; simp only [List.getElem?_cons_zero, List.getElem?_cons_succ] at bc0 bc1 bc2 bc3 bc4 bcl; have bb0 := bb.cell 0; have bb1 := bb.cell 1; have bb2 := bb.cell 2; have bb3 := bb.cell 3; have bbf := bb.free; have bbl := bb.lt; simp only [List.getElem?_cons_zero, List.getElem?_cons_succ] at bb0 bb1 bb2 bb3 bbl; have bd0 := bd.cell 0; have bd1 := bd.cell 1; have bd2 := bd.cell 2; have bd3 := bd.cell 3; have bd4 := bd.cell 4; have bdf := bd.free; have bdl := bd.lt; simp only [List.getElem?_cons_zero, List.getElem?_cons_succ] at bd0 bd1 bd2 bd3 bd4 bdl))
  refine bodyPost_ret (v := .bool true) (by simp [results, Tryd.results11, go_sem]) rfl ?_
  exact ⟨rfl, HB.out⟩
set_option maxHeartbeats 4000000 in
theorem valid_law (x : Cd) (hi : -32768 ≤ x.i ∧ x.i ≤ 32767) (w : World) (he : Env w) : Calls Tryd.prog 3 #[cdV x] w fun e w' => e = .returned (.bool true) ∧ Grew w w' := by
  have HE := Lib.hid he
  have HI := Lib.hid hi
  clear he hi
  have HB := Lib.hid (Grew.refl w)
  have tk0 := Lib.hid trivial
  go_enter Tryd.func3, Tryd.ntmps3
  go_wp2_with (first
    | (go_at_call 11; clear tk0; generalize hW : World.alloc _ _ = V; have bx : Blk (w.heap.size) [.int .i64 x.op, .int .i64 x.a, .int .i64 x.b, .int .i64 x.c, .int .i16 x.i] 24 V := (by subst hW; exact Blk.grew (w := (w.alloc (.cells #[.int .i64 x.op, .int .i64 x.a, .int .i64 x.b, .int .i64 x.c, .int .i16 x.i] 24))) (by simpa using Blk.new w [.int .i64 x.op, .int .i64 x.a, .int .i64 x.b, .int .i64 x.c, .int .i16 x.i] 24) (by repeat (first | with_reducible exact Grew.refl _ | with_reducible refine Grew.alloc ?_ _ | with_reducible refine Grew.drw ?_ | with_reducible refine Grew.drwN ?_ _ | with_reducible refine Grew.sc ?_ (by first | omega | (simp <;> omega)) _ _))); replace HB : Hid (Grew w V) := Lib.hid (by subst hW; repeat (first | with_reducible exact HB.out | with_reducible refine Grew.sc ?_ (by first | omega | (simp <;> omega)) _ _ | with_reducible refine Grew.alloc ?_ _ | with_reducible refine Grew.drw ?_ | with_reducible refine Grew.drwN ?_ _)); clear hW; (with_reducible refine (wakes_any _ (HE.out.grew HB.out)).mono ?_); rintro e w1 ⟨rfl, g1⟩; replace bx := bx.grew g1; replace HB := Lib.hid (HB.out.trans g1); clear g1; have bx0 := bx.cell 0; have bx1 := bx.cell 1; have bx2 := bx.cell 2; have bx3 := bx.cell 3; have bx4 := bx.cell 4; have bxf := bx.free; have bxl := bx.lt; simp only [List.getElem?_cons_zero, List.getElem?_cons_succ] at bx0 bx1 bx2 bx3 bx4 bxl))
  have HED := (HE.out.grew HB.out).grew (Grew.refl w1).drw
  have c0 : Atv ⟨w.heap.size, 0, none⟩ (.int .i64 x.op) (w1).drew := (bx.grew (Grew.refl _).drw).atv 0 rfl
  have c1 : Atv ⟨w.heap.size, 1, none⟩ (.int .i64 x.a) (w1).drew := (bx.grew (Grew.refl _).drw).atv 1 rfl
  have c2 : Atv ⟨w.heap.size, 2, none⟩ (.int .i64 x.b) (w1).drew := (bx.grew (Grew.refl _).drw).atv 2 rfl
  have c3 : Atv ⟨w.heap.size, 3, none⟩ (.int .i64 x.c) (w1).drew := (bx.grew (Grew.refl _).drw).atv 3 rfl
  have c4 : Atv ⟨w.heap.size, 4, none⟩ (.int .i16 x.i) (w1).drew := (bx.grew (Grew.refl _).drw).atv 4 rfl
  generalize w.heap.size = S0 at c0 c1 c2 c3 c4 ⊢
  clear bx bx0 bx1 bx2 bx3 bx4 bxf bxl
  refine wp_posts [some 5, some 6, some 7, some 8, some 9, some 2] [false, false, true, false, false, true, true, true, true, true] [fun v _ => v = .agg #[.int .i64 (x.op), .int .i64 (x.a), .int .i64 (x.b), .int .i64 (x.c), .int .i16 (x.i)], fun v _ => v = .bool (valid x), fun v _ => v = .agg #[.int .i64 (x.op), .int .i64 (x.a), .int .i64 (x.b), .int .i64 (x.c), .int .i16 (x.i)], fun v _ => v = .bool (valid x), fun v _ => v = .bool ((valid x) == (valid x)), fun v _ => v = .bool ((valid x) == (valid x))] (by kernel_rfl) (by kernel_rfl) rfl ?_ ⟨?_, ?_, ?_, ?_, ?_, ?_, trivial⟩ ?_
  · exact ⟨fun _ _ _ _ h => h, fun _ _ _ _ h => h, fun _ _ _ _ h => h, fun _ _ _ _ h => h, fun _ _ _ _ h => h, fun _ _ _ _ h => h, trivial⟩
  · intro u w hR hd; exact rn_ld_24 (ev rfl) (c0.kept hR) (c1.kept hR) (c2.kept hR) (c3.kept hR) (c4.kept hR) ⟨Grew.refl _, rfl⟩
  · intro u w hR hd; exact runs_c1 enters_va (ev (hd.1 rfl)) (callp (fun _ e => e) (valid_any x _ (HED.grew hR)))
  · intro u w hR hd; exact rn_ld_24 (ev rfl) (c0.kept hR) (c1.kept hR) (c2.kept hR) (c3.kept hR) (c4.kept hR) ⟨Grew.refl _, rfl⟩
  · intro u w hR hd; exact runs_c1 enters_rva (ev (hd.1 rfl)) (callp (fun _ e => e) (rvalid_any x _ HI.out))
  · intro u w hR hd; exact rn_eql_4 (ev (hd.1 rfl)) (ev (hd.2.1 rfl)) ⟨Grew.refl _, rfl⟩
  · intro u w hR hd; exact runs_mva (ev (hd.1 rfl)) ⟨Grew.refl _, rfl⟩
  · intro u w4 hR h
    have he : u 2 = .bool (valid x == valid x) := h 5 (by decide)
    simp only [mixA, mixL, cond_true, cond_false]
    rw [he]
    clear h he
    go_wp2
    go_ret
    exact ⟨ret_bool (by simp), HB.out.trans ((Grew.refl _).drw.trans hR)⟩

theorem encode_is (x : Cd) (v : Value) (hv : encR x = v) (w : World) (hE : Env w) :
    Calls Tryd.prog 14 #[cdV x] w fun e w' => e = .returned v ∧ Grew w w' := hv ▸ encode_any x w hE
theorem decode_is (b0 b1 b2 b3 : Int) (v : Value) (hv : decR b0 b1 b2 b3 = v) (k0 : 0 ≤ b0 ∧ b0 ≤ 255) (k1 : 0 ≤ b1 ∧ b1 ≤ 255) (k2 : 0 ≤ b2 ∧ b2 ≤ 255) (k3 : 0 ≤ b3 ∧ b3 ≤ 255) (w : World) (hE : Env w) :
    Calls Tryd.prog 16 #[.agg #[.int .u8 b0, .int .u8 b1, .int .u8 b2, .int .u8 b3]] w fun e w' => e = .returned v ∧ Grew w w' := hv ▸ decode_any b0 b1 b2 b3 k0 k1 k2 k3 w hE
theorem wrap_last (i : Int) (h : -32768 ≤ i ∧ i ≤ 32767) : IntKind.i16.wrap (i % 65536) = i := by rw [wrap16]; omega
theorem cand_enc (x : Cd) (hv : valid x = true) : cand x.op (x.a + 16 * x.b) (last x % 256) (last x / 256) = x := by
  obtain ⟨hop, ha, hb, hc, hi, hz1, hz2⟩ := valid_bd hv
  obtain ⟨op, a, b, c, i⟩ := x
  simp only at *
  unfold cand last
  cases hr : hasR op 2
  · simp only [hr, Bool.false_eq_true, if_false]
    obtain rfl := hz2 hr
    rw [show (a + 16 * b) % 16 = a by omega, show (a + 16 * b) / 16 = b by omega, show i % 65536 % 256 + 256 * (i % 65536 / 256) = i % 65536 by omega, show w16 (i % 65536) = i from wrap_last i hi]
  · simp only [hr, if_true]
    obtain rfl := hz1 hr
    rw [show (a + 16 * b) % 16 = a by omega, show (a + 16 * b) / 16 = b by omega, show c % 256 + 256 * (c / 256) = c by omega]
theorem decR_enc (x : Cd) (hv : valid x = true) : decR x.op (x.a + 16 * x.b) (last x % 256) (last x / 256) = .tuple #[cdV x, .int .i64 0] := by
  unfold decR
  rw [cand_enc x hv, if_pos hv]
theorem encode_law_no (x : Cd) (hv : valid x = false) (hi : -32768 ≤ x.i ∧ x.i ≤ 32767) (w : World) (he : Env w) : Calls Tryd.prog 4 #[cdV x] w fun e w' => e = .returned (.bool true) ∧ Grew w w' := by
  have HE := Lib.hid he
  have HI := Lib.hid hi
  have HR := Lib.hid (encR_no hv)
  obtain ⟨dv, HD⟩ : ∃ v, Hid (decR 0 0 0 0 = .tuple #[cdV v, .int .i64 2]) := ⟨.no, Lib.hid (by unfold decR cand; rfl)⟩
  have K0 := Lib.hid (show (0 : Int) ≤ 0 ∧ (0 : Int) ≤ 255 by decide)
  have K1 := K0; have K2 := K0; have K3 := K0
  have hne := neq4 0 0 0 0 (by decide) (by decide) (by decide) (by decide)
  clear he hi hv
  have HB := Lib.hid (Grew.refl w)
  have tk0 := Lib.hid trivial
  have tk1 := Lib.hid trivial
  have tk2 := Lib.hid trivial
  have tk3 := Lib.hid trivial
  go_enter Tryd.func4, Tryd.ntmps4
  go_wp2_with (first
    | (go_at_call 11; clear tk0; generalize hW : World.alloc _ _ = V; have bx : Blk (w.heap.size) [.int .i64 x.op, .int .i64 x.a, .int .i64 x.b, .int .i64 x.c, .int .i16 x.i] 24 V := (by subst hW; exact Blk.grew (w := (w.alloc (.cells #[.int .i64 x.op, .int .i64 x.a, .int .i64 x.b, .int .i64 x.c, .int .i16 x.i] 24))) (by simpa using Blk.new w [.int .i64 x.op, .int .i64 x.a, .int .i64 x.b, .int .i64 x.c, .int .i16 x.i] 24) (by repeat (first | with_reducible exact Grew.refl _ | with_reducible refine Grew.alloc ?_ _ | with_reducible refine Grew.drw ?_ | with_reducible refine Grew.drwN ?_ _ | with_reducible refine Grew.sc ?_ (by first | omega | (simp <;> omega)) _ _))); replace HB : Hid (Grew w V) := Lib.hid (by subst hW; repeat (first | with_reducible exact HB.out | with_reducible refine Grew.sc ?_ (by first | omega | (simp <;> omega)) _ _ | with_reducible refine Grew.alloc ?_ _ | with_reducible refine Grew.drw ?_ | with_reducible refine Grew.drwN ?_ _)); clear hW; (with_reducible refine (wakes_any _ (HE.out.grew HB.out)).mono ?_); rintro e w1 ⟨rfl, g1⟩; replace bx := bx.grew g1; replace HB := Lib.hid (HB.out.trans g1); clear g1; have bx0 := bx.cell 0; have bx1 := bx.cell 1; have bx2 := bx.cell 2; have bx3 := bx.cell 3; have bx4 := bx.cell 4; have bxf := bx.free; have bxl := bx.lt; simp only [List.getElem?_cons_zero, List.getElem?_cons_succ] at bx0 bx1 bx2 bx3 bx4 bxl)
    | (go_at_call 14; clear tk1; (with_reducible refine (encode_is x _ HR.out _ (HE.out.grew HB.out)).mono ?_); rintro e w2 ⟨rfl, g1⟩; clear bx0 bx1 bx2 bx3 bx4 bxf bxl; replace bx := bx.grew g1; replace HB := Lib.hid (HB.out.trans g1); clear g1; have bx0 := bx.cell 0; have bx1 := bx.cell 1; have bx2 := bx.cell 2; have bx3 := bx.cell 3; have bx4 := bx.cell 4; have bxf := bx.free; have bxl := bx.lt; simp only [List.getElem?_cons_zero, List.getElem?_cons_succ] at bx0 bx1 bx2 bx3 bx4 bxl)
    | (go_at_call 15; clear tk2; have ne_bb_bx := Lib.hid (show w2.heap.size ≠ w.heap.size by omega); generalize hW : World.alloc _ _ = V; clear bx0 bx1 bx2 bx3 bx4 bxf bxl; replace bx : Blk (w.heap.size) [.int .i64 x.op, .int .i64 x.a, .int .i64 x.b, .int .i64 x.c, .int .i16 x.i] 24 V := (by subst hW; exact (bx.grew ((Grew.refl _).alloc _))); have bb : Blk (w2.heap.size) [.int .u8 0, .int .u8 0, .int .u8 0, .int .u8 0] 27 V := (by subst hW; exact Blk.grew (w := (w2.alloc (.cells #[.int .u8 0, .int .u8 0, .int .u8 0, .int .u8 0] 27))) (by simpa using Blk.new w2 [.int .u8 0, .int .u8 0, .int .u8 0, .int .u8 0] 27) (by repeat (first | with_reducible exact Grew.refl _ | with_reducible refine Grew.alloc ?_ _ | with_reducible refine Grew.drw ?_ | with_reducible refine Grew.drwN ?_ _ | with_reducible refine Grew.sc ?_ (by first | omega | (simp <;> omega)) _ _))); replace HB : Hid (Grew w V) := Lib.hid (by subst hW; repeat (first | with_reducible exact HB.out | with_reducible refine Grew.sc ?_ (by first | omega | (simp <;> omega)) _ _ | with_reducible refine Grew.alloc ?_ _ | with_reducible refine Grew.drw ?_ | with_reducible refine Grew.drwN ?_ _)); clear hW; (with_reducible refine (rencode_is x _ HR.out HI.out _).mono ?_); rintro e w3 ⟨rfl, g1⟩; replace bx := bx.grew g1; replace bb := bb.grew g1; replace HB := Lib.hid (HB.out.trans g1); clear g1; have bx0 := bx.cell 0; have bx1 := bx.cell 1; have bx2 := bx.cell 2; have bx3 := bx.cell 3; have bx4 := bx.cell 4; have bxf := bx.free; have bxl := bx.lt; simp only [List.getElem?_cons_zero, List.getElem?_cons_succ] at bx0 bx1 bx2 bx3 bx4 bxl; have bb0 := bb.cell 0; have bb1 := bb.cell 1; have bb2 := bb.cell 2; have bb3 := bb.cell 3; have bbf := bb.free; have bbl := bb.lt; simp only [List.getElem?_cons_zero, List.getElem?_cons_succ] at bb0 bb1 bb2 bb3 bbl)
    | (go_at_call 16; clear tk3; have ne_br_bx := Lib.hid (show w3.heap.size ≠ w.heap.size by omega); have ne_br_bb := Lib.hid (show w3.heap.size ≠ w2.heap.size by omega); generalize hW : World.alloc _ _ = V; clear bx0 bx1 bx2 bx3 bx4 bxf bxl; clear bb0 bb1 bb2 bb3 bbf bbl; replace bx : Blk (w.heap.size) [.int .i64 x.op, .int .i64 x.a, .int .i64 x.b, .int .i64 x.c, .int .i16 x.i] 24 V := (by subst hW; exact (bx.grew ((Grew.refl _).alloc _))); replace bb : Blk (w2.heap.size) [.int .u8 0, .int .u8 0, .int .u8 0, .int .u8 0] 27 V := (by subst hW; exact (bb.grew ((Grew.refl _).alloc _))); have br : Blk (w3.heap.size) [.int .u8 0, .int .u8 0, .int .u8 0, .int .u8 0] 27 V := (by subst hW; exact Blk.grew (w := (w3.alloc (.cells #[.int .u8 0, .int .u8 0, .int .u8 0, .int .u8 0] 27))) (by simpa using Blk.new w3 [.int .u8 0, .int .u8 0, .int .u8 0, .int .u8 0] 27) (by repeat (first | with_reducible exact Grew.refl _ | with_reducible refine Grew.alloc ?_ _ | with_reducible refine Grew.drw ?_ | with_reducible refine Grew.drwN ?_ _ | with_reducible refine Grew.sc ?_ (by first | omega | (simp <;> omega)) _ _))); replace HB : Hid (Grew w V) := Lib.hid (by subst hW; repeat (first | with_reducible exact HB.out | with_reducible refine Grew.sc ?_ (by first | omega | (simp <;> omega)) _ _ | with_reducible refine Grew.alloc ?_ _ | with_reducible refine Grew.drw ?_ | with_reducible refine Grew.drwN ?_ _)); clear hW; (with_reducible refine (decode_is _ _ _ _ _ HD.out K0.out K1.out K2.out K3.out _ (HE.out.grew HB.out)).mono ?_); rintro e w4 ⟨rfl, g1⟩; replace bx := bx.grew g1; replace bb := bb.grew g1; replace br := br.grew g1; replace HB := Lib.hid (HB.out.trans g1); clear g1; have bx0 := bx.cell 0; have bx1 := bx.cell 1; have bx2 := bx.cell 2; have bx3 := bx.cell 3; have bx4 := bx.cell 4; have bxf := bx.free; have bxl := bx.lt; simp only [List.getElem?_cons_zero, List.getElem?_cons_succ] at bx0 bx1 bx2 bx3 bx4 bxl; have bb0 := bb.cell 0; have bb1 := bb.cell 1; have bb2 := bb.cell 2; have bb3 := bb.cell 3; have bbf := bb.free; have bbl := bb.lt; simp only [List.getElem?_cons_zero, List.getElem?_cons_succ] at bb0 bb1 bb2 bb3 bbl; have br0 := br.cell 0; have br1 := br.cell 1; have br2 := br.cell 2; have br3 := br.cell 3; have brf := br.free; have brl := br.lt; simp only [List.getElem?_cons_zero, List.getElem?_cons_succ] at br0 br1 br2 br3 brl))
  refine bodyPost_ret (v := .bool true) (by simp [results, Tryd.results4, go_sem]) rfl ?_
  exact ⟨rfl, by repeat (first | with_reducible exact HB.out | with_reducible exact Grew.refl _ | with_reducible refine Grew.sc ?_ (by first | omega | (simp <;> omega)) _ _ | with_reducible refine Grew.alloc ?_ _ | with_reducible refine Grew.drw ?_)⟩
theorem encode_law_yes (x : Cd) (hv : valid x = true) (hi : -32768 ≤ x.i ∧ x.i ≤ 32767) (w : World) (he : Env w) : Calls Tryd.prog 4 #[cdV x] w fun e w' => e = .returned (.bool true) ∧ Grew w w' := by
  obtain ⟨hop, ha, hb, hc, _, hz1, hz2⟩ := valid_bd hv
  have hl : 0 ≤ last x ∧ last x < 65536 := by unfold last; split <;> omega
  have HE := Lib.hid he
  have HI := Lib.hid hi
  obtain ⟨e0, e1, e2, e3, HR, HD, k0, k1, k2, k3⟩ : ∃ e0 e1 e2 e3 : Int, Hid (encR x = .tuple #[.agg #[.int .u8 e0, .int .u8 e1, .int .u8 e2, .int .u8 e3], .int .i64 0]) ∧ Hid (decR e0 e1 e2 e3 = .tuple #[cdV x, .int .i64 0]) ∧ (0 ≤ e0 ∧ e0 ≤ 255) ∧ (0 ≤ e1 ∧ e1 ≤ 255) ∧ (0 ≤ e2 ∧ e2 ≤ 255) ∧ (0 ≤ e3 ∧ e3 ≤ 255) :=
    ⟨x.op, x.a + 16 * x.b, last x % 256, last x / 256, Lib.hid (by unfold encR; rw [if_pos hv]), Lib.hid (decR_enc x hv), by omega, by omega, by omega, by omega⟩
  have K0 := Lib.hid k0; have K1 := Lib.hid k1; have K2 := Lib.hid k2; have K3 := Lib.hid k3
  have hne := neq4 e0 e1 e2 e3 k0 k1 k2 k3
  clear he hi hv hl hop ha hb hc hz1 hz2
  have HB := Lib.hid (Grew.refl w)
  have tk0 := Lib.hid trivial
  have tk1 := Lib.hid trivial
  have tk2 := Lib.hid trivial
  have tk3 := Lib.hid trivial
  go_enter Tryd.func4, Tryd.ntmps4
  go_wp2_with (first
    | (go_at_call 11; clear tk0; generalize hW : World.alloc _ _ = V; have bx : Blk (w.heap.size) [.int .i64 x.op, .int .i64 x.a, .int .i64 x.b, .int .i64 x.c, .int .i16 x.i] 24 V := (by subst hW; exact Blk.grew (w := (w.alloc (.cells #[.int .i64 x.op, .int .i64 x.a, .int .i64 x.b, .int .i64 x.c, .int .i16 x.i] 24))) (by simpa using Blk.new w [.int .i64 x.op, .int .i64 x.a, .int .i64 x.b, .int .i64 x.c, .int .i16 x.i] 24) (by repeat (first | with_reducible exact Grew.refl _ | with_reducible refine Grew.alloc ?_ _ | with_reducible refine Grew.drw ?_ | with_reducible refine Grew.drwN ?_ _ | with_reducible refine Grew.sc ?_ (by first | omega | (simp <;> omega)) _ _))); replace HB : Hid (Grew w V) := Lib.hid (by subst hW; repeat (first | with_reducible exact HB.out | with_reducible refine Grew.sc ?_ (by first | omega | (simp <;> omega)) _ _ | with_reducible refine Grew.alloc ?_ _ | with_reducible refine Grew.drw ?_ | with_reducible refine Grew.drwN ?_ _)); clear hW; (with_reducible refine (wakes_any _ (HE.out.grew HB.out)).mono ?_); rintro e w1 ⟨rfl, g1⟩; replace bx := bx.grew g1; replace HB := Lib.hid (HB.out.trans g1); clear g1; have bx0 := bx.cell 0; have bx1 := bx.cell 1; have bx2 := bx.cell 2; have bx3 := bx.cell 3; have bx4 := bx.cell 4; have bxf := bx.free; have bxl := bx.lt; simp only [List.getElem?_cons_zero, List.getElem?_cons_succ] at bx0 bx1 bx2 bx3 bx4 bxl)
    | (go_at_call 14; clear tk1; (with_reducible refine (encode_is x _ HR.out _ (HE.out.grew HB.out)).mono ?_); rintro e w2 ⟨rfl, g1⟩; clear bx0 bx1 bx2 bx3 bx4 bxf bxl; replace bx := bx.grew g1; replace HB := Lib.hid (HB.out.trans g1); clear g1; have bx0 := bx.cell 0; have bx1 := bx.cell 1; have bx2 := bx.cell 2; have bx3 := bx.cell 3; have bx4 := bx.cell 4; have bxf := bx.free; have bxl := bx.lt; simp only [List.getElem?_cons_zero, List.getElem?_cons_succ] at bx0 bx1 bx2 bx3 bx4 bxl)
    | (go_at_call 15; clear tk2; have ne_bb_bx := Lib.hid (show w2.heap.size ≠ w.heap.size by omega); generalize hW : World.alloc _ _ = V; clear bx0 bx1 bx2 bx3 bx4 bxf bxl; replace bx : Blk (w.heap.size) [.int .i64 x.op, .int .i64 x.a, .int .i64 x.b, .int .i64 x.c, .int .i16 x.i] 24 V := (by subst hW; exact (bx.grew ((Grew.refl _).alloc _))); have bb : Blk (w2.heap.size) [.int .u8 e0, .int .u8 e1, .int .u8 e2, .int .u8 e3] 27 V := (by subst hW; exact Blk.grew (w := (w2.alloc (.cells #[.int .u8 e0, .int .u8 e1, .int .u8 e2, .int .u8 e3] 27))) (by simpa using Blk.new w2 [.int .u8 e0, .int .u8 e1, .int .u8 e2, .int .u8 e3] 27) (by repeat (first | with_reducible exact Grew.refl _ | with_reducible refine Grew.alloc ?_ _ | with_reducible refine Grew.drw ?_ | with_reducible refine Grew.drwN ?_ _ | with_reducible refine Grew.sc ?_ (by first | omega | (simp <;> omega)) _ _))); replace HB : Hid (Grew w V) := Lib.hid (by subst hW; repeat (first | with_reducible exact HB.out | with_reducible refine Grew.sc ?_ (by first | omega | (simp <;> omega)) _ _ | with_reducible refine Grew.alloc ?_ _ | with_reducible refine Grew.drw ?_ | with_reducible refine Grew.drwN ?_ _)); clear hW; (with_reducible refine (rencode_is x _ HR.out HI.out _).mono ?_); rintro e w3 ⟨rfl, g1⟩; replace bx := bx.grew g1; replace bb := bb.grew g1; replace HB := Lib.hid (HB.out.trans g1); clear g1; have bx0 := bx.cell 0; have bx1 := bx.cell 1; have bx2 := bx.cell 2; have bx3 := bx.cell 3; have bx4 := bx.cell 4; have bxf := bx.free; have bxl := bx.lt; simp only [List.getElem?_cons_zero, List.getElem?_cons_succ] at bx0 bx1 bx2 bx3 bx4 bxl; have bb0 := bb.cell 0; have bb1 := bb.cell 1; have bb2 := bb.cell 2; have bb3 := bb.cell 3; have bbf := bb.free; have bbl := bb.lt; simp only [List.getElem?_cons_zero, List.getElem?_cons_succ] at bb0 bb1 bb2 bb3 bbl)
    | (go_at_call 16; clear tk3; have ne_br_bx := Lib.hid (show w3.heap.size ≠ w.heap.size by omega); have ne_br_bb := Lib.hid (show w3.heap.size ≠ w2.heap.size by omega); generalize hW : World.alloc _ _ = V; clear bx0 bx1 bx2 bx3 bx4 bxf bxl; clear bb0 bb1 bb2 bb3 bbf bbl; replace bx : Blk (w.heap.size) [.int .i64 x.op, .int .i64 x.a, .int .i64 x.b, .int .i64 x.c, .int .i16 x.i] 24 V := (by subst hW; exact (bx.grew ((Grew.refl _).alloc _))); replace bb : Blk (w2.heap.size) [.int .u8 e0, .int .u8 e1, .int .u8 e2, .int .u8 e3] 27 V := (by subst hW; exact (bb.grew ((Grew.refl _).alloc _))); have br : Blk (w3.heap.size) [.int .u8 e0, .int .u8 e1, .int .u8 e2, .int .u8 e3] 27 V := (by subst hW; exact Blk.grew (w := (w3.alloc (.cells #[.int .u8 e0, .int .u8 e1, .int .u8 e2, .int .u8 e3] 27))) (by simpa using Blk.new w3 [.int .u8 e0, .int .u8 e1, .int .u8 e2, .int .u8 e3] 27) (by repeat (first | with_reducible exact Grew.refl _ | with_reducible refine Grew.alloc ?_ _ | with_reducible refine Grew.drw ?_ | with_reducible refine Grew.drwN ?_ _ | with_reducible refine Grew.sc ?_ (by first | omega | (simp <;> omega)) _ _))); replace HB : Hid (Grew w V) := Lib.hid (by subst hW; repeat (first | with_reducible exact HB.out | with_reducible refine Grew.sc ?_ (by first | omega | (simp <;> omega)) _ _ | with_reducible refine Grew.alloc ?_ _ | with_reducible refine Grew.drw ?_ | with_reducible refine Grew.drwN ?_ _)); clear hW; (with_reducible refine (decode_is _ _ _ _ _ HD.out K0.out K1.out K2.out K3.out _ (HE.out.grew HB.out)).mono ?_); rintro e w4 ⟨rfl, g1⟩; replace bx := bx.grew g1; replace bb := bb.grew g1; replace br := br.grew g1; replace HB := Lib.hid (HB.out.trans g1); clear g1; have bx0 := bx.cell 0; have bx1 := bx.cell 1; have bx2 := bx.cell 2; have bx3 := bx.cell 3; have bx4 := bx.cell 4; have bxf := bx.free; have bxl := bx.lt; simp only [List.getElem?_cons_zero, List.getElem?_cons_succ] at bx0 bx1 bx2 bx3 bx4 bxl; have bb0 := bb.cell 0; have bb1 := bb.cell 1; have bb2 := bb.cell 2; have bb3 := bb.cell 3; have bbf := bb.free; have bbl := bb.lt; simp only [List.getElem?_cons_zero, List.getElem?_cons_succ] at bb0 bb1 bb2 bb3 bbl; have br0 := br.cell 0; have br1 := br.cell 1; have br2 := br.cell 2; have br3 := br.cell 3; have brf := br.free; have brl := br.lt; simp only [List.getElem?_cons_zero, List.getElem?_cons_succ] at br0 br1 br2 br3 brl))
  refine bodyPost_ret (v := .bool true) (by simp [results, Tryd.results4, go_sem]) rfl ?_
  exact ⟨rfl, by repeat (first | with_reducible exact HB.out | with_reducible exact Grew.refl _ | with_reducible refine Grew.sc ?_ (by first | omega | (simp <;> omega)) _ _ | with_reducible refine Grew.alloc ?_ _ | with_reducible refine Grew.drw ?_)⟩
theorem encode_law (x : Cd) (hi : -32768 ≤ x.i ∧ x.i ≤ 32767) (w : World) (he : Env w) : Calls Tryd.prog 4 #[cdV x] w fun e w' => e = .returned (.bool true) ∧ Grew w w' := by
  cases hv : valid x
  · exact encode_law_no x hv hi w he
  · exact encode_law_yes x hv hi w he
end Go.Proofs.YtddffijipphfeaaDoor
