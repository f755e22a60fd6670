/-
  LAYER 11 (isa): Reads and Writes of the program and of the reference; the statement Registers.
-/
import Derived.Test.YtddffijipphfeaaDoorIsaRegs
namespace Go.Proofs.YtddffijipphfeaaDoor
open Go Go.RowKit Go.IntWalk
set_option linter.unusedSimpArgs false
set_option linter.unusedVariables false
set_option maxRecDepth 8000
section
variable {dst : Option Tmp} {ty : TypeId} {pos : String} {after : Array Edge} {g : Option (Nat × Bool)} {a : Act} {w : World} {T : Value → World → Prop}
theorem rn_fld_24_0 {x : Operand} {S o : Nat} (hx : a.eval x = .pointer (some ⟨S, o, none⟩)) (h : T (.pointer (some ⟨S, o, none⟩)) w) : Runs Tryd.prog ⟨dst, .fieldAddr 24 x 0, ty, pos, after, g⟩ a w T := by
  refine Runs.value (v := .pointer (some ⟨S, o, none⟩)) (w' := w) ?_ h
  simp only [execOp, hx]
  go_simp
theorem rn_ld_3 {x : Operand} {q : Addr} {v : Value} (hx : a.eval x = .pointer (some q)) (hc : w.cell? q = some v) (h : T v w) : Runs Tryd.prog ⟨dst, .load 3 x, ty, pos, after, g⟩ a w T := by
  refine Runs.value (v := v) (w' := w) ?_ h
  simp only [execOp, hx]
  go_simp
end

theorem enters_oo : Enters Tryd.prog 35 := fun args w => by go_simp
theorem enters_ch : Enters Tryd.prog 54 := fun args w => by go_simp
theorem enters_rd : Enters Tryd.prog 31 := fun args w => by go_simp
theorem enters_wr : Enters Tryd.prog 33 := fun args w => by go_simp
theorem enters_rrd : Enters Tryd.prog 32 := fun args w => by go_simp
theorem enters_rwr : Enters Tryd.prog 34 := fun args w => by go_simp
section
variable {dst : Option Tmp} {ty : TypeId} {pos : String} {after : Array Edge} {g : Option (Nat × Bool)} {a : Act} {w : World} {T : Value → World → Prop}
theorem rn_fv1 {x : Operand} {o : Opr} (hx : a.eval x = oprV o) (h : T (.int .u8 o.wr) w) : Runs Tryd.prog ⟨dst, .field 46 x 1, ty, pos, after, g⟩ a w T := by
  refine Runs.value (v := .int .u8 o.wr) (w' := w) ?_ h
  have hf : Sem.run Tryd.prog (Instr.field 46 (oprV o) 1) w = .ok (.int .u8 o.wr) w := by kernel_rfl
  simp only [execOp, hx]
  simp [hf, Result.andThen]
theorem rn_fv2 {x : Operand} {o : Opr} (hx : a.eval x = oprV o) (h : T (.int .u8 o.rd) w) : Runs Tryd.prog ⟨dst, .field 46 x 2, ty, pos, after, g⟩ a w T := by
  refine Runs.value (v := .int .u8 o.rd) (w' := w) ?_ h
  have hf : Sem.run Tryd.prog (Instr.field 46 (oprV o) 2) w = .ok (.int .u8 o.rd) w := by kernel_rfl
  simp only [execOp, hx]
  simp [hf, Result.andThen]
end
def rdL (x : Cd) : List Int := if valid x then cl x (opr x.op).rd 8 else []
def wrL (x : Cd) : List Int := if valid x then cl x (opr x.op).wr 8 else []
theorem chosen_v (x : Cd) (f : Nat) (hf : f ≤ 7) (w : World) (hE : Env w) : Calls Tryd.prog 54 #[cdV x, .int .u8 f] w fun e w' => ∃ v, e = .returned v ∧ LstI v (if valid x then cl x f 8 else []) w' ∧ Grew w w' := by
  cases hv : valid x
  · exact (chosen_no x f hv w hE).mono fun e w' ⟨h1, h2⟩ => ⟨_, h1, ⟨none, 0, rfl, Rw.nil _ _ _⟩, h2⟩
  · exact (chosen_yes x f hf hv w hE).mono fun e w' ⟨p, c, h1, h2, h3⟩ => ⟨_, h1, ⟨p, c, rfl, h2⟩, h3⟩
set_option maxHeartbeats 4000000 in
theorem reads_v (x : Cd) (w : World) (hE : Env w) : Calls Tryd.prog 31 #[cdV x] w fun e w' => ∃ v, e = .returned v ∧ LstI v (rdL x) w' ∧ Grew w w' := by
  have HE := Lib.hid hE
  clear hE
  go_enter Tryd.func31, Tryd.ntmps31
  go_wp2
  generalize hW : World.alloc _ _ = w1
  have bx : Blk w.heap.size (cdv x) 24 w1 := by subst hW; exact Blk.new w (cdv x) _
  have HB : Hid (Grew w w1) := Lib.hid (by subst hW; exact (Grew.refl _).alloc _)
  clear hW
  have HED := (HE.out.grew HB.out).grew (Grew.refl w1).drw
  have c0 : Atv ⟨w.heap.size, 0, none⟩ (.int .i64 x.op) (w1).drew := (bx.grew (Grew.refl _).drw).atv 0 rfl
  have c1 : Atv ⟨w.heap.size, 1, none⟩ (.int .i64 x.a) (w1).drew := (bx.grew (Grew.refl _).drw).atv 1 rfl
  have c2 : Atv ⟨w.heap.size, 2, none⟩ (.int .i64 x.b) (w1).drew := (bx.grew (Grew.refl _).drw).atv 2 rfl
  have c3 : Atv ⟨w.heap.size, 3, none⟩ (.int .i64 x.c) (w1).drew := (bx.grew (Grew.refl _).drw).atv 3 rfl
  have c4 : Atv ⟨w.heap.size, 4, none⟩ (.int .i16 x.i) (w1).drew := (bx.grew (Grew.refl _).drw).atv 4 rfl
  generalize w.heap.size = S0 at c0 c1 c2 c3 c4 ⊢
  clear bx
  refine wp_posts [some 3, some 4, some 5, some 6, some 7, some 8, some 2] [false, false, true, true, true, true, true, true, true] [fun v _ => v = .agg #[.int .i64 (x.op), .int .i64 (x.a), .int .i64 (x.b), .int .i64 (x.c), .int .i16 (x.i)], fun v _ => v = .pointer (some ⟨S0, 0, none⟩), fun v _ => v = .int .i64 (x.op), fun v _ => v = oprV (opr x.op), fun v _ => v = .int .u8 (opr x.op).rd, fun v w => LstI v (rdL x) w, fun v w => LstI v (rdL x) w] (by kernel_rfl) (by kernel_rfl) rfl ?_ ⟨?_, ?_, ?_, ?_, ?_, ?_, ?_, trivial⟩ ?_
  · exact ⟨fun _ _ _ _ h => h, fun _ _ _ _ h => h, fun _ _ _ _ h => h, fun _ _ _ _ h => h, fun _ _ _ _ h => h, fun _ _ _ hg h => h.kept hg, fun _ _ _ hg h => h.kept hg, trivial⟩
  · intro u w hR hd; exact rn_ld_24 (ev rfl) (c0.kept hR) (c1.kept hR) (c2.kept hR) (c3.kept hR) (c4.kept hR) ⟨Grew.refl _, rfl⟩
  · intro u w hR hd; exact rn_fld_24_0 (ev rfl) ⟨Grew.refl _, rfl⟩
  · intro u w hR hd; exact rn_ld_3 (ev (hd.1 rfl)) (c0.kept hR) ⟨Grew.refl _, rfl⟩
  · intro u w hR hd; exact runs_c1 enters_oo (ev (hd.1 rfl)) (callp (fun _ e => e) (operationOf_any x.op _ (HED.grew hR)))
  · intro u w hR hd; exact rn_fv2 (ev (hd.1 rfl)) ⟨Grew.refl _, rfl⟩
  · intro u w hR hd; exact runs_c2 enters_ch (ev (hd.1 rfl)) (ev (hd.2.1 rfl)) (callq (chosen_v x _ (bits x.op).2.1 _ (HED.grew hR)))
  · intro u w hR hd; exact runs_mva (ev rfl) ⟨Grew.refl _, (hd.1 rfl)⟩
  · intro u w4 hR h
    have he : LstI (u 2) (rdL x) w4 := h 6 (by decide)
    have HX := Lib.hid he
    simp only [mixA, mixL, cond_true, cond_false]
    generalize u 2 = v2 at HX ⊢
    clear h he
    go_wp2
    go_ret
    exact ⟨_, rfl, HX.out, HB.out.trans ((Grew.refl _).drw.trans hR)⟩
set_option maxHeartbeats 4000000 in
theorem writes_v (x : Cd) (w : World) (hE : Env w) : Calls Tryd.prog 33 #[cdV x] w fun e w' => ∃ v, e = .returned v ∧ LstI v (wrL x) w' ∧ Grew w w' := by
  have HE := Lib.hid hE
  clear hE
  go_enter Tryd.func33, Tryd.ntmps33
  go_wp2
  generalize hW : World.alloc _ _ = w1
  have bx : Blk w.heap.size (cdv x) 24 w1 := by subst hW; exact Blk.new w (cdv x) _
  have HB : Hid (Grew w w1) := Lib.hid (by subst hW; exact (Grew.refl _).alloc _)
  clear hW
  have HED := (HE.out.grew HB.out).grew (Grew.refl w1).drw
  have c0 : Atv ⟨w.heap.size, 0, none⟩ (.int .i64 x.op) (w1).drew := (bx.grew (Grew.refl _).drw).atv 0 rfl
  have c1 : Atv ⟨w.heap.size, 1, none⟩ (.int .i64 x.a) (w1).drew := (bx.grew (Grew.refl _).drw).atv 1 rfl
  have c2 : Atv ⟨w.heap.size, 2, none⟩ (.int .i64 x.b) (w1).drew := (bx.grew (Grew.refl _).drw).atv 2 rfl
  have c3 : Atv ⟨w.heap.size, 3, none⟩ (.int .i64 x.c) (w1).drew := (bx.grew (Grew.refl _).drw).atv 3 rfl
  have c4 : Atv ⟨w.heap.size, 4, none⟩ (.int .i16 x.i) (w1).drew := (bx.grew (Grew.refl _).drw).atv 4 rfl
  generalize w.heap.size = S0 at c0 c1 c2 c3 c4 ⊢
  clear bx
  refine wp_posts [some 3, some 4, some 5, some 6, some 7, some 8, some 2] [false, false, true, true, true, true, true, true, true] [fun v _ => v = .agg #[.int .i64 (x.op), .int .i64 (x.a), .int .i64 (x.b), .int .i64 (x.c), .int .i16 (x.i)], fun v _ => v = .pointer (some ⟨S0, 0, none⟩), fun v _ => v = .int .i64 (x.op), fun v _ => v = oprV (opr x.op), fun v _ => v = .int .u8 (opr x.op).wr, fun v w => LstI v (wrL x) w, fun v w => LstI v (wrL x) w] (by kernel_rfl) (by kernel_rfl) rfl ?_ ⟨?_, ?_, ?_, ?_, ?_, ?_, ?_, trivial⟩ ?_
  · exact ⟨fun _ _ _ _ h => h, fun _ _ _ _ h => h, fun _ _ _ _ h => h, fun _ _ _ _ h => h, fun _ _ _ _ h => h, fun _ _ _ hg h => h.kept hg, fun _ _ _ hg h => h.kept hg, trivial⟩
  · intro u w hR hd; exact rn_ld_24 (ev rfl) (c0.kept hR) (c1.kept hR) (c2.kept hR) (c3.kept hR) (c4.kept hR) ⟨Grew.refl _, rfl⟩
  · intro u w hR hd; exact rn_fld_24_0 (ev rfl) ⟨Grew.refl _, rfl⟩
  · intro u w hR hd; exact rn_ld_3 (ev (hd.1 rfl)) (c0.kept hR) ⟨Grew.refl _, rfl⟩
  · intro u w hR hd; exact runs_c1 enters_oo (ev (hd.1 rfl)) (callp (fun _ e => e) (operationOf_any x.op _ (HED.grew hR)))
  · intro u w hR hd; exact rn_fv1 (ev (hd.1 rfl)) ⟨Grew.refl _, rfl⟩
  · intro u w hR hd; exact runs_c2 enters_ch (ev (hd.1 rfl)) (ev (hd.2.1 rfl)) (callq (chosen_v x _ (bits x.op).1 _ (HED.grew hR)))
  · intro u w hR hd; exact runs_mva (ev rfl) ⟨Grew.refl _, (hd.1 rfl)⟩
  · intro u w4 hR h
    have he : LstI (u 2) (wrL x) w4 := h 6 (by decide)
    have HX := Lib.hid he
    simp only [mixA, mixL, cond_true, cond_false]
    generalize u 2 = v2 at HX ⊢
    clear h he
    go_wp2
    go_ret
    exact ⟨_, rfl, HX.out, HB.out.trans ((Grew.refl _).drw.trans hR)⟩
/-- Whether field A is the register that is assigned. -/
def defs (op : Int) : Bool := bit (opr op).wr 0
theorem defs_rest (op : Int) : [15, 17, 19, 22, 24, 25, 26, 28].all (fun c : Int => op != c) = true → defs op = hasR op 0 :=
  op_all (fun op => [15, 17, 19, 22, 24, 25, 26, 28].all (fun c : Int => op != c) = true → defs op = hasR op 0) (fun op h _ => by unfold defs hasR regs; rw [opr_out h]; rfl) (by decide) op

theorem defs_no : ∀ k ∈ ([15, 17, 19, 22, 24, 25, 26, 28] : List Int), defs k = false := by decide
set_option maxRecDepth 100000 in
set_option maxHeartbeats 4000000 in
theorem rdefines_any (op : Int) (w : World) : Calls Tryd.prog 55 #[.int .i64 op] w fun e w' => e = .returned (.bool (defs op)) ∧ Grew w w' := by
  have HB := Lib.hid (Grew.refl w)
  go_enter Tryd.func55, Tryd.ntmps55
  go_wp2_with (first
    | (go_at_call 40; (with_reducible refine (shape_any op _).mono ?_); rintro e w1 ⟨rfl, g1⟩; replace HB := Lib.hid (HB.out.trans g1); clear g1)
    | (go_at_call 42; (with_reducible refine (has97 op _ rfl _).mono ?_); rintro e w2 ⟨rfl, g1⟩; replace HB := Lib.hid (HB.out.trans g1); clear g1))
  all_goals (rename_i hl; go_ret; refine ⟨ret_bool ?_, by first | exact HB.out | exact Grew.refl _⟩)
  all_goals first
    | (obtain rfl := eq_of_beq hl; decide)
    | exact (defs_rest op (by simp [bne, *])).symm
theorem defs_is (op : Int) (b : Bool) (hb : defs op = b) (w : World) : Calls Tryd.prog 55 #[.int .i64 op] w fun e w' => e = .returned (.bool b) ∧ Grew w w' := hb ▸ rdefines_any op w
set_option maxHeartbeats 4000000 in
theorem rreads_oxoo (x : Cd) (hv : valid x = true) (hi : -32768 ≤ x.i ∧ x.i ≤ 32767) (h0 : hasR x.op 0 = false) (hd : defs x.op = true) (h1 : hasR x.op 1 = false) (h2 : hasR x.op 2 = false) (w : World) :
    Calls Tryd.prog 32 #[cdV x] w fun e w' => ∃ v, e = .returned v ∧ LstI v (sl [] 8) w' ∧ Grew w w' := by
  have HV := Lib.hid hv
  have HI := Lib.hid hi
  have H0 := Lib.hid h0
  have HD := Lib.hid hd
  have H1 := Lib.hid h1
  have H2 := Lib.hid h2
  have HO : Hid (OwR w w.heap.size 3 1 encI (.slice none 0 0) []) := Lib.hid (OwR.nil 1 encI _ _ _)
  clear hv hi h0 hd h1 h2
  have HB := Lib.hid (Grew.refl w)
  have tk0 := Lib.hid trivial
  have tk1 := Lib.hid trivial
  have tk2 := Lib.hid trivial
  have tk3 := Lib.hid trivial
  have tk4 := Lib.hid trivial
  have tk5 := Lib.hid trivial
  go_enter Tryd.func32, Tryd.ntmps32
  go_wp2_with (first
    | (go_at_call 13; clear tk0; generalize hW : World.alloc _ _ = V; have bx : Blk (w.heap.size) [.int .i64 x.op, .int .i64 x.a, .int .i64 x.b, .int .i64 x.c, .int .i16 x.i] 24 V := (by subst hW; exact Blk.grew (w := (w.alloc (.cells #[.int .i64 x.op, .int .i64 x.a, .int .i64 x.b, .int .i64 x.c, .int .i16 x.i] 24))) (by simpa using Blk.new w [.int .i64 x.op, .int .i64 x.a, .int .i64 x.b, .int .i64 x.c, .int .i16 x.i] 24) (by repeat (first | with_reducible exact Grew.refl _ | with_reducible refine Grew.alloc ?_ _ | with_reducible refine Grew.drw ?_ | with_reducible refine Grew.drwN ?_ _ | with_reducible refine Grew.sc ?_ (by first | omega | (simp <;> omega)) _ _))); have hgV : Grew w V := (by subst hW; repeat (first | with_reducible exact Grew.refl _ | with_reducible refine Grew.alloc ?_ _ | with_reducible refine Grew.drw ?_ | with_reducible refine Grew.drwN ?_ _ | with_reducible refine Grew.sc ?_ (by first | omega | (simp <;> omega)) _ _)); replace HO := Lib.hid (HO.out.grew hgV); clear hgV; replace HB : Hid (Grew w V) := Lib.hid (by subst hW; repeat (first | with_reducible exact HB.out | with_reducible refine Grew.sc ?_ (by first | omega | (simp <;> omega)) _ _ | with_reducible refine Grew.alloc ?_ _ | with_reducible refine Grew.drw ?_ | with_reducible refine Grew.drwN ?_ _)); clear hW; (with_reducible refine (rvalid_is x _ true HV.out HI.out).mono ?_); rintro e w1 ⟨rfl, g1⟩; replace bx := bx.grew g1; replace HO := Lib.hid (HO.out.grew g1); replace HB := Lib.hid (HB.out.trans g1); clear g1; have bx0 := bx.cell 0; have bx1 := bx.cell 1; have bx2 := bx.cell 2; have bx3 := bx.cell 3; have bx4 := bx.cell 4; have bxf := bx.free; have bxl := bx.lt; simp only [List.getElem?_cons_zero, List.getElem?_cons_succ] at bx0 bx1 bx2 bx3 bx4 bxl)
    | (go_at_call 40; clear tk1; (with_reducible refine (shape_any x.op _).mono ?_); rintro e w2 ⟨rfl, g1⟩; clear bx0 bx1 bx2 bx3 bx4 bxf bxl; replace bx := bx.grew g1; replace HO := Lib.hid (HO.out.grew g1); replace HB := Lib.hid (HB.out.trans g1); clear g1; have bx0 := bx.cell 0; have bx1 := bx.cell 1; have bx2 := bx.cell 2; have bx3 := bx.cell 3; have bx4 := bx.cell 4; have bxf := bx.free; have bxl := bx.lt; simp only [List.getElem?_cons_zero, List.getElem?_cons_succ] at bx0 bx1 bx2 bx3 bx4 bxl)
    | (go_at_call 42; clear tk2; (with_reducible refine (has97 x.op false H0.out _).mono ?_); rintro e w3 ⟨rfl, g1⟩; clear bx0 bx1 bx2 bx3 bx4 bxf bxl; replace bx := bx.grew g1; replace HO := Lib.hid (HO.out.grew g1); replace HB := Lib.hid (HB.out.trans g1); clear g1; have bx0 := bx.cell 0; have bx1 := bx.cell 1; have bx2 := bx.cell 2; have bx3 := bx.cell 3; have bx4 := bx.cell 4; have bxf := bx.free; have bxl := bx.lt; simp only [List.getElem?_cons_zero, List.getElem?_cons_succ] at bx0 bx1 bx2 bx3 bx4 bxl)
    | (go_at_call 42; clear tk3; (with_reducible refine (has98 x.op false H1.out _).mono ?_); rintro e w4 ⟨rfl, g1⟩; clear bx0 bx1 bx2 bx3 bx4 bxf bxl; replace bx := bx.grew g1; replace HO := Lib.hid (HO.out.grew g1); replace HB := Lib.hid (HB.out.trans g1); clear g1; have bx0 := bx.cell 0; have bx1 := bx.cell 1; have bx2 := bx.cell 2; have bx3 := bx.cell 3; have bx4 := bx.cell 4; have bxf := bx.free; have bxl := bx.lt; simp only [List.getElem?_cons_zero, List.getElem?_cons_succ] at bx0 bx1 bx2 bx3 bx4 bxl)
    | (go_at_call 42; clear tk4; (with_reducible refine (has99 x.op false H2.out _).mono ?_); rintro e w5 ⟨rfl, g1⟩; clear bx0 bx1 bx2 bx3 bx4 bxf bxl; replace bx := bx.grew g1; replace HO := Lib.hid (HO.out.grew g1); replace HB := Lib.hid (HB.out.trans g1); clear g1; have bx0 := bx.cell 0; have bx1 := bx.cell 1; have bx2 := bx.cell 2; have bx3 := bx.cell 3; have bx4 := bx.cell 4; have bxf := bx.free; have bxl := bx.lt; simp only [List.getElem?_cons_zero, List.getElem?_cons_succ] at bx0 bx1 bx2 bx3 bx4 bxl)
    | (go_at_call 56; clear tk5; (with_reducible refine (set_any none 0 0 [] _ (Rw.nil _ _ _) rfl (by decide)).mono ?_); rintro e w6 ⟨p3, c3, rfl, hr, g1⟩; clear bx0 bx1 bx2 bx3 bx4 bxf bxl; replace bx := bx.grew g1; replace HO := Lib.hid (HO.out.grew g1); replace HB := Lib.hid (HB.out.trans g1); clear g1; have bx0 := bx.cell 0; have bx1 := bx.cell 1; have bx2 := bx.cell 2; have bx3 := bx.cell 3; have bx4 := bx.cell 4; have bxf := bx.free; have bxl := bx.lt; simp only [List.getElem?_cons_zero, List.getElem?_cons_succ] at bx0 bx1 bx2 bx3 bx4 bxl; have HR := Lib.hid hr; clear hr))
  go_ret
  exact ⟨_, rfl, ⟨p3, c3, rfl, HR.out⟩, HB.out⟩
set_option maxHeartbeats 4000000 in
theorem rreads_oooo (x : Cd) (hv : valid x = true) (hi : -32768 ≤ x.i ∧ x.i ≤ 32767) (h0 : hasR x.op 0 = false) (hd : defs x.op = false) (h1 : hasR x.op 1 = false) (h2 : hasR x.op 2 = false) (w : World) :
    Calls Tryd.prog 32 #[cdV x] w fun e w' => ∃ v, e = .returned v ∧ LstI v (sl [] 8) w' ∧ Grew w w' := by
  have HV := Lib.hid hv
  have HI := Lib.hid hi
  have H0 := Lib.hid h0
  have HD := Lib.hid hd
  have H1 := Lib.hid h1
  have H2 := Lib.hid h2
  have HO : Hid (OwR w w.heap.size 3 1 encI (.slice none 0 0) []) := Lib.hid (OwR.nil 1 encI _ _ _)
  clear hv hi h0 hd h1 h2
  have HB := Lib.hid (Grew.refl w)
  have tk0 := Lib.hid trivial
  have tk1 := Lib.hid trivial
  have tk2 := Lib.hid trivial
  have tk3 := Lib.hid trivial
  have tk4 := Lib.hid trivial
  have tk5 := Lib.hid trivial
  go_enter Tryd.func32, Tryd.ntmps32
  go_wp2_with (first
    | (go_at_call 13; clear tk0; generalize hW : World.alloc _ _ = V; have bx : Blk (w.heap.size) [.int .i64 x.op, .int .i64 x.a, .int .i64 x.b, .int .i64 x.c, .int .i16 x.i] 24 V := (by subst hW; exact Blk.grew (w := (w.alloc (.cells #[.int .i64 x.op, .int .i64 x.a, .int .i64 x.b, .int .i64 x.c, .int .i16 x.i] 24))) (by simpa using Blk.new w [.int .i64 x.op, .int .i64 x.a, .int .i64 x.b, .int .i64 x.c, .int .i16 x.i] 24) (by repeat (first | with_reducible exact Grew.refl _ | with_reducible refine Grew.alloc ?_ _ | with_reducible refine Grew.drw ?_ | with_reducible refine Grew.drwN ?_ _ | with_reducible refine Grew.sc ?_ (by first | omega | (simp <;> omega)) _ _))); have hgV : Grew w V := (by subst hW; repeat (first | with_reducible exact Grew.refl _ | with_reducible refine Grew.alloc ?_ _ | with_reducible refine Grew.drw ?_ | with_reducible refine Grew.drwN ?_ _ | with_reducible refine Grew.sc ?_ (by first | omega | (simp <;> omega)) _ _)); replace HO := Lib.hid (HO.out.grew hgV); clear hgV; replace HB : Hid (Grew w V) := Lib.hid (by subst hW; repeat (first | with_reducible exact HB.out | with_reducible refine Grew.sc ?_ (by first | omega | (simp <;> omega)) _ _ | with_reducible refine Grew.alloc ?_ _ | with_reducible refine Grew.drw ?_ | with_reducible refine Grew.drwN ?_ _)); clear hW; (with_reducible refine (rvalid_is x _ true HV.out HI.out).mono ?_); rintro e w1 ⟨rfl, g1⟩; replace bx := bx.grew g1; replace HO := Lib.hid (HO.out.grew g1); replace HB := Lib.hid (HB.out.trans g1); clear g1; have bx0 := bx.cell 0; have bx1 := bx.cell 1; have bx2 := bx.cell 2; have bx3 := bx.cell 3; have bx4 := bx.cell 4; have bxf := bx.free; have bxl := bx.lt; simp only [List.getElem?_cons_zero, List.getElem?_cons_succ] at bx0 bx1 bx2 bx3 bx4 bxl)
    | (go_at_call 40; clear tk1; (with_reducible refine (shape_any x.op _).mono ?_); rintro e w2 ⟨rfl, g1⟩; clear bx0 bx1 bx2 bx3 bx4 bxf bxl; replace bx := bx.grew g1; replace HO := Lib.hid (HO.out.grew g1); replace HB := Lib.hid (HB.out.trans g1); clear g1; have bx0 := bx.cell 0; have bx1 := bx.cell 1; have bx2 := bx.cell 2; have bx3 := bx.cell 3; have bx4 := bx.cell 4; have bxf := bx.free; have bxl := bx.lt; simp only [List.getElem?_cons_zero, List.getElem?_cons_succ] at bx0 bx1 bx2 bx3 bx4 bxl)
    | (go_at_call 42; clear tk2; (with_reducible refine (has97 x.op false H0.out _).mono ?_); rintro e w3 ⟨rfl, g1⟩; clear bx0 bx1 bx2 bx3 bx4 bxf bxl; replace bx := bx.grew g1; replace HO := Lib.hid (HO.out.grew g1); replace HB := Lib.hid (HB.out.trans g1); clear g1; have bx0 := bx.cell 0; have bx1 := bx.cell 1; have bx2 := bx.cell 2; have bx3 := bx.cell 3; have bx4 := bx.cell 4; have bxf := bx.free; have bxl := bx.lt; simp only [List.getElem?_cons_zero, List.getElem?_cons_succ] at bx0 bx1 bx2 bx3 bx4 bxl)
    | (go_at_call 42; clear tk3; (with_reducible refine (has98 x.op false H1.out _).mono ?_); rintro e w4 ⟨rfl, g1⟩; clear bx0 bx1 bx2 bx3 bx4 bxf bxl; replace bx := bx.grew g1; replace HO := Lib.hid (HO.out.grew g1); replace HB := Lib.hid (HB.out.trans g1); clear g1; have bx0 := bx.cell 0; have bx1 := bx.cell 1; have bx2 := bx.cell 2; have bx3 := bx.cell 3; have bx4 := bx.cell 4; have bxf := bx.free; have bxl := bx.lt; simp only [List.getElem?_cons_zero, List.getElem?_cons_succ] at bx0 bx1 bx2 bx3 bx4 bxl)
    | (go_at_call 42; clear tk4; (with_reducible refine (has99 x.op false H2.out _).mono ?_); rintro e w5 ⟨rfl, g1⟩; clear bx0 bx1 bx2 bx3 bx4 bxf bxl; replace bx := bx.grew g1; replace HO := Lib.hid (HO.out.grew g1); replace HB := Lib.hid (HB.out.trans g1); clear g1; have bx0 := bx.cell 0; have bx1 := bx.cell 1; have bx2 := bx.cell 2; have bx3 := bx.cell 3; have bx4 := bx.cell 4; have bxf := bx.free; have bxl := bx.lt; simp only [List.getElem?_cons_zero, List.getElem?_cons_succ] at bx0 bx1 bx2 bx3 bx4 bxl)
    | (go_at_call 56; clear tk5; (with_reducible refine (set_any none 0 0 [] _ (Rw.nil _ _ _) rfl (by decide)).mono ?_); rintro e w6 ⟨p3, c3, rfl, hr, g1⟩; clear bx0 bx1 bx2 bx3 bx4 bxf bxl; replace bx := bx.grew g1; replace HO := Lib.hid (HO.out.grew g1); replace HB := Lib.hid (HB.out.trans g1); clear g1; have bx0 := bx.cell 0; have bx1 := bx.cell 1; have bx2 := bx.cell 2; have bx3 := bx.cell 3; have bx4 := bx.cell 4; have bxf := bx.free; have bxl := bx.lt; simp only [List.getElem?_cons_zero, List.getElem?_cons_succ] at bx0 bx1 bx2 bx3 bx4 bxl; have HR := Lib.hid hr; clear hr))
  go_ret
  exact ⟨_, rfl, ⟨p3, c3, rfl, HR.out⟩, HB.out⟩
set_option maxHeartbeats 4000000 in
theorem rreads_xxoo (x : Cd) (hv : valid x = true) (hi : -32768 ≤ x.i ∧ x.i ≤ 32767) (h0 : hasR x.op 0 = true) (hd : defs x.op = true) (h1 : hasR x.op 1 = false) (h2 : hasR x.op 2 = false) (w : World) :
    Calls Tryd.prog 32 #[cdV x] w fun e w' => ∃ v, e = .returned v ∧ LstI v (sl [] 8) w' ∧ Grew w w' := by
  have HV := Lib.hid hv
  have HI := Lib.hid hi
  have H0 := Lib.hid h0
  have HD := Lib.hid hd
  have H1 := Lib.hid h1
  have H2 := Lib.hid h2
  have HO : Hid (OwR w w.heap.size 3 1 encI (.slice none 0 0) []) := Lib.hid (OwR.nil 1 encI _ _ _)
  clear hv hi h0 hd h1 h2
  have HB := Lib.hid (Grew.refl w)
  have tk0 := Lib.hid trivial
  have tk1 := Lib.hid trivial
  have tk2 := Lib.hid trivial
  have tk3 := Lib.hid trivial
  have tk4 := Lib.hid trivial
  have tk5 := Lib.hid trivial
  have tk6 := Lib.hid trivial
  go_enter Tryd.func32, Tryd.ntmps32
  go_wp2_with (first
    | (go_at_call 13; clear tk0; generalize hW : World.alloc _ _ = V; have bx : Blk (w.heap.size) [.int .i64 x.op, .int .i64 x.a, .int .i64 x.b, .int .i64 x.c, .int .i16 x.i] 24 V := (by subst hW; exact Blk.grew (w := (w.alloc (.cells #[.int .i64 x.op, .int .i64 x.a, .int .i64 x.b, .int .i64 x.c, .int .i16 x.i] 24))) (by simpa using Blk.new w [.int .i64 x.op, .int .i64 x.a, .int .i64 x.b, .int .i64 x.c, .int .i16 x.i] 24) (by repeat (first | with_reducible exact Grew.refl _ | with_reducible refine Grew.alloc ?_ _ | with_reducible refine Grew.drw ?_ | with_reducible refine Grew.drwN ?_ _ | with_reducible refine Grew.sc ?_ (by first | omega | (simp <;> omega)) _ _))); have hgV : Grew w V := (by subst hW; repeat (first | with_reducible exact Grew.refl _ | with_reducible refine Grew.alloc ?_ _ | with_reducible refine Grew.drw ?_ | with_reducible refine Grew.drwN ?_ _ | with_reducible refine Grew.sc ?_ (by first | omega | (simp <;> omega)) _ _)); replace HO := Lib.hid (HO.out.grew hgV); clear hgV; replace HB : Hid (Grew w V) := Lib.hid (by subst hW; repeat (first | with_reducible exact HB.out | with_reducible refine Grew.sc ?_ (by first | omega | (simp <;> omega)) _ _ | with_reducible refine Grew.alloc ?_ _ | with_reducible refine Grew.drw ?_ | with_reducible refine Grew.drwN ?_ _)); clear hW; (with_reducible refine (rvalid_is x _ true HV.out HI.out).mono ?_); rintro e w1 ⟨rfl, g1⟩; replace bx := bx.grew g1; replace HO := Lib.hid (HO.out.grew g1); replace HB := Lib.hid (HB.out.trans g1); clear g1; have bx0 := bx.cell 0; have bx1 := bx.cell 1; have bx2 := bx.cell 2; have bx3 := bx.cell 3; have bx4 := bx.cell 4; have bxf := bx.free; have bxl := bx.lt; simp only [List.getElem?_cons_zero, List.getElem?_cons_succ] at bx0 bx1 bx2 bx3 bx4 bxl)
    | (go_at_call 40; clear tk1; (with_reducible refine (shape_any x.op _).mono ?_); rintro e w2 ⟨rfl, g1⟩; clear bx0 bx1 bx2 bx3 bx4 bxf bxl; replace bx := bx.grew g1; replace HO := Lib.hid (HO.out.grew g1); replace HB := Lib.hid (HB.out.trans g1); clear g1; have bx0 := bx.cell 0; have bx1 := bx.cell 1; have bx2 := bx.cell 2; have bx3 := bx.cell 3; have bx4 := bx.cell 4; have bxf := bx.free; have bxl := bx.lt; simp only [List.getElem?_cons_zero, List.getElem?_cons_succ] at bx0 bx1 bx2 bx3 bx4 bxl)
    | (go_at_call 42; clear tk2; (with_reducible refine (has97 x.op true H0.out _).mono ?_); rintro e w3 ⟨rfl, g1⟩; clear bx0 bx1 bx2 bx3 bx4 bxf bxl; replace bx := bx.grew g1; replace HO := Lib.hid (HO.out.grew g1); replace HB := Lib.hid (HB.out.trans g1); clear g1; have bx0 := bx.cell 0; have bx1 := bx.cell 1; have bx2 := bx.cell 2; have bx3 := bx.cell 3; have bx4 := bx.cell 4; have bxf := bx.free; have bxl := bx.lt; simp only [List.getElem?_cons_zero, List.getElem?_cons_succ] at bx0 bx1 bx2 bx3 bx4 bxl)
    | (go_at_call 55; clear tk3; (with_reducible refine (defs_is x.op true HD.out _).mono ?_); rintro e w4 ⟨rfl, g1⟩; clear bx0 bx1 bx2 bx3 bx4 bxf bxl; replace bx := bx.grew g1; replace HO := Lib.hid (HO.out.grew g1); replace HB := Lib.hid (HB.out.trans g1); clear g1; have bx0 := bx.cell 0; have bx1 := bx.cell 1; have bx2 := bx.cell 2; have bx3 := bx.cell 3; have bx4 := bx.cell 4; have bxf := bx.free; have bxl := bx.lt; simp only [List.getElem?_cons_zero, List.getElem?_cons_succ] at bx0 bx1 bx2 bx3 bx4 bxl)
    | (go_at_call 42; clear tk4; (with_reducible refine (has98 x.op false H1.out _).mono ?_); rintro e w5 ⟨rfl, g1⟩; clear bx0 bx1 bx2 bx3 bx4 bxf bxl; replace bx := bx.grew g1; replace HO := Lib.hid (HO.out.grew g1); replace HB := Lib.hid (HB.out.trans g1); clear g1; have bx0 := bx.cell 0; have bx1 := bx.cell 1; have bx2 := bx.cell 2; have bx3 := bx.cell 3; have bx4 := bx.cell 4; have bxf := bx.free; have bxl := bx.lt; simp only [List.getElem?_cons_zero, List.getElem?_cons_succ] at bx0 bx1 bx2 bx3 bx4 bxl)
    | (go_at_call 42; clear tk5; (with_reducible refine (has99 x.op false H2.out _).mono ?_); rintro e w6 ⟨rfl, g1⟩; clear bx0 bx1 bx2 bx3 bx4 bxf bxl; replace bx := bx.grew g1; replace HO := Lib.hid (HO.out.grew g1); replace HB := Lib.hid (HB.out.trans g1); clear g1; have bx0 := bx.cell 0; have bx1 := bx.cell 1; have bx2 := bx.cell 2; have bx3 := bx.cell 3; have bx4 := bx.cell 4; have bxf := bx.free; have bxl := bx.lt; simp only [List.getElem?_cons_zero, List.getElem?_cons_succ] at bx0 bx1 bx2 bx3 bx4 bxl)
    | (go_at_call 56; clear tk6; (with_reducible refine (set_any none 0 0 [] _ (Rw.nil _ _ _) rfl (by decide)).mono ?_); rintro e w7 ⟨p3, c3, rfl, hr, g1⟩; clear bx0 bx1 bx2 bx3 bx4 bxf bxl; replace bx := bx.grew g1; replace HO := Lib.hid (HO.out.grew g1); replace HB := Lib.hid (HB.out.trans g1); clear g1; have bx0 := bx.cell 0; have bx1 := bx.cell 1; have bx2 := bx.cell 2; have bx3 := bx.cell 3; have bx4 := bx.cell 4; have bxf := bx.free; have bxl := bx.lt; simp only [List.getElem?_cons_zero, List.getElem?_cons_succ] at bx0 bx1 bx2 bx3 bx4 bxl; have HR := Lib.hid hr; clear hr))
  go_ret
  exact ⟨_, rfl, ⟨p3, c3, rfl, HR.out⟩, HB.out⟩
set_option maxHeartbeats 4000000 in
theorem rreads_xooo (x : Cd) (hv : valid x = true) (hi : -32768 ≤ x.i ∧ x.i ≤ 32767) (h0 : hasR x.op 0 = true) (hd : defs x.op = false) (h1 : hasR x.op 1 = false) (h2 : hasR x.op 2 = false) (w : World) :
    Calls Tryd.prog 32 #[cdV x] w fun e w' => ∃ v, e = .returned v ∧ LstI v (sl [x.a] 8) w' ∧ Grew w w' := by
  have HV := Lib.hid hv
  have HI := Lib.hid hi
  have H0 := Lib.hid h0
  have HD := Lib.hid hd
  have H1 := Lib.hid h1
  have H2 := Lib.hid h2
  have HO : Hid (OwR w w.heap.size 3 1 encI (.slice none 0 0) []) := Lib.hid (OwR.nil 1 encI _ _ _)
  clear hv hi h0 hd h1 h2
  have HB := Lib.hid (Grew.refl w)
  have tk0 := Lib.hid trivial
  have tk1 := Lib.hid trivial
  have tk2 := Lib.hid trivial
  have tk3 := Lib.hid trivial
  have tk4 := Lib.hid trivial
  have tk5 := Lib.hid trivial
  have tk6 := Lib.hid trivial
  go_enter Tryd.func32, Tryd.ntmps32
  go_wp2_with (first
    | (go_at_call 13; clear tk0; generalize hW : World.alloc _ _ = V; have bx : Blk (w.heap.size) [.int .i64 x.op, .int .i64 x.a, .int .i64 x.b, .int .i64 x.c, .int .i16 x.i] 24 V := (by subst hW; exact Blk.grew (w := (w.alloc (.cells #[.int .i64 x.op, .int .i64 x.a, .int .i64 x.b, .int .i64 x.c, .int .i16 x.i] 24))) (by simpa using Blk.new w [.int .i64 x.op, .int .i64 x.a, .int .i64 x.b, .int .i64 x.c, .int .i16 x.i] 24) (by repeat (first | with_reducible exact Grew.refl _ | with_reducible refine Grew.alloc ?_ _ | with_reducible refine Grew.drw ?_ | with_reducible refine Grew.drwN ?_ _ | with_reducible refine Grew.sc ?_ (by first | omega | (simp <;> omega)) _ _))); have hgV : Grew w V := (by subst hW; repeat (first | with_reducible exact Grew.refl _ | with_reducible refine Grew.alloc ?_ _ | with_reducible refine Grew.drw ?_ | with_reducible refine Grew.drwN ?_ _ | with_reducible refine Grew.sc ?_ (by first | omega | (simp <;> omega)) _ _)); replace HO := Lib.hid (HO.out.grew hgV); clear hgV; replace HB : Hid (Grew w V) := Lib.hid (by subst hW; repeat (first | with_reducible exact HB.out | with_reducible refine Grew.sc ?_ (by first | omega | (simp <;> omega)) _ _ | with_reducible refine Grew.alloc ?_ _ | with_reducible refine Grew.drw ?_ | with_reducible refine Grew.drwN ?_ _)); clear hW; (with_reducible refine (rvalid_is x _ true HV.out HI.out).mono ?_); rintro e w1 ⟨rfl, g1⟩; replace bx := bx.grew g1; replace HO := Lib.hid (HO.out.grew g1); replace HB := Lib.hid (HB.out.trans g1); clear g1; have bx0 := bx.cell 0; have bx1 := bx.cell 1; have bx2 := bx.cell 2; have bx3 := bx.cell 3; have bx4 := bx.cell 4; have bxf := bx.free; have bxl := bx.lt; simp only [List.getElem?_cons_zero, List.getElem?_cons_succ] at bx0 bx1 bx2 bx3 bx4 bxl)
    | (go_at_call 40; clear tk1; (with_reducible refine (shape_any x.op _).mono ?_); rintro e w2 ⟨rfl, g1⟩; clear bx0 bx1 bx2 bx3 bx4 bxf bxl; replace bx := bx.grew g1; replace HO := Lib.hid (HO.out.grew g1); replace HB := Lib.hid (HB.out.trans g1); clear g1; have bx0 := bx.cell 0; have bx1 := bx.cell 1; have bx2 := bx.cell 2; have bx3 := bx.cell 3; have bx4 := bx.cell 4; have bxf := bx.free; have bxl := bx.lt; simp only [List.getElem?_cons_zero, List.getElem?_cons_succ] at bx0 bx1 bx2 bx3 bx4 bxl)
    | (go_at_call 42; clear tk2; (with_reducible refine (has97 x.op true H0.out _).mono ?_); rintro e w3 ⟨rfl, g1⟩; clear bx0 bx1 bx2 bx3 bx4 bxf bxl; replace bx := bx.grew g1; replace HO := Lib.hid (HO.out.grew g1); replace HB := Lib.hid (HB.out.trans g1); clear g1; have bx0 := bx.cell 0; have bx1 := bx.cell 1; have bx2 := bx.cell 2; have bx3 := bx.cell 3; have bx4 := bx.cell 4; have bxf := bx.free; have bxl := bx.lt; simp only [List.getElem?_cons_zero, List.getElem?_cons_succ] at bx0 bx1 bx2 bx3 bx4 bxl)
    | (go_at_call 55; clear tk3; (with_reducible refine (defs_is x.op false HD.out _).mono ?_); rintro e w4 ⟨rfl, g1⟩; clear bx0 bx1 bx2 bx3 bx4 bxf bxl; replace bx := bx.grew g1; replace HO := Lib.hid (HO.out.grew g1); replace HB := Lib.hid (HB.out.trans g1); clear g1; have bx0 := bx.cell 0; have bx1 := bx.cell 1; have bx2 := bx.cell 2; have bx3 := bx.cell 3; have bx4 := bx.cell 4; have bxf := bx.free; have bxl := bx.lt; simp only [List.getElem?_cons_zero, List.getElem?_cons_succ] at bx0 bx1 bx2 bx3 bx4 bxl)
    | (at_builtin; generalize hW : World.alloc _ _ = V; have hlit : Rw 1 encI V (some ⟨w4.heap.size, 0, none⟩) 1 [x.a] := (by subst hW; exact Rw.made encIE _ [x.a] 1 _ _ _ rfl rfl (by omega)); clear bxf bxl bx0 bx1 bx2 bx3 bx4; replace bx : Blk (w.heap.size) [.int .i64 x.op, .int .i64 x.a, .int .i64 x.b, .int .i64 x.c, .int .i16 x.i] 24 V := (by subst hW; exact bx.grew ((Grew.refl _).alloc _)); replace HO := Lib.hid (show OwR V _ _ _ _ _ _ from (by subst hW; exact HO.out.kept ((Grew.refl _).alloc _))); replace HB : Hid (Grew w V) := Lib.hid (by subst hW; exact HB.out.alloc _); clear hW; refine wpList_append_row encIE rfl _ _ 40 rfl w.heap.size 3 (.int .i64 0) 8 Tryd.underlying40 infoI rfl _ ([]) rfl HO.out _ 1 1 [x.a] rfl rfl hlit (by have := HB.out.sz; simp <;> omega) (by have := HB.out.sz; simp <;> omega) HB.out.sz ?_; intro p2 c2 zs2 wa hz2 ho2 hb2 hc2; replace bx := bx.chg hc2 (fun hs => HO.out.apart (by decide) bx hs); replace HB : Hid (Grew w wa) := Lib.hid (Below.trans HB.out hb2); obtain rfl : ([x.a] : List Int) = zs2 := (by simpa using hz2.out.symm); replace HO := Lib.hid ho2; clear ho2 hz2; clear hb2 hc2 hlit;  have bx0 := bx.cell 0; have bx1 := bx.cell 1; have bx2 := bx.cell 2; have bx3 := bx.cell 3; have bx4 := bx.cell 4; have bxf := bx.free; have bxl := bx.lt; simp only [List.getElem?_cons_zero, List.getElem?_cons_succ] at bx0 bx1 bx2 bx3 bx4 bxl)
    | (go_at_call 42; clear tk4; (with_reducible refine (has98 x.op false H1.out _).mono ?_); rintro e w5 ⟨rfl, g1⟩; clear bx0 bx1 bx2 bx3 bx4 bxf bxl; replace bx := bx.grew g1; replace HO := Lib.hid (HO.out.grew g1); replace HB := Lib.hid (HB.out.trans g1); clear g1; have bx0 := bx.cell 0; have bx1 := bx.cell 1; have bx2 := bx.cell 2; have bx3 := bx.cell 3; have bx4 := bx.cell 4; have bxf := bx.free; have bxl := bx.lt; simp only [List.getElem?_cons_zero, List.getElem?_cons_succ] at bx0 bx1 bx2 bx3 bx4 bxl)
    | (go_at_call 42; clear tk5; (with_reducible refine (has99 x.op false H2.out _).mono ?_); rintro e w6 ⟨rfl, g1⟩; clear bx0 bx1 bx2 bx3 bx4 bxf bxl; replace bx := bx.grew g1; replace HO := Lib.hid (HO.out.grew g1); replace HB := Lib.hid (HB.out.trans g1); clear g1; have bx0 := bx.cell 0; have bx1 := bx.cell 1; have bx2 := bx.cell 2; have bx3 := bx.cell 3; have bx4 := bx.cell 4; have bxf := bx.free; have bxl := bx.lt; simp only [List.getElem?_cons_zero, List.getElem?_cons_succ] at bx0 bx1 bx2 bx3 bx4 bxl)
    | (go_at_call 56; clear tk6; (with_reducible refine (set_any _ 1 _ [x.a] _ (HO.out.rd encIE).2 rfl (by decide)).mono ?_); rintro e w7 ⟨p3, c3, rfl, hr, g1⟩; clear bx0 bx1 bx2 bx3 bx4 bxf bxl; replace bx := bx.grew g1; replace HO := Lib.hid (HO.out.grew g1); replace HB := Lib.hid (HB.out.trans g1); clear g1; have bx0 := bx.cell 0; have bx1 := bx.cell 1; have bx2 := bx.cell 2; have bx3 := bx.cell 3; have bx4 := bx.cell 4; have bxf := bx.free; have bxl := bx.lt; simp only [List.getElem?_cons_zero, List.getElem?_cons_succ] at bx0 bx1 bx2 bx3 bx4 bxl; have HR := Lib.hid hr; clear hr))
  go_ret
  exact ⟨_, rfl, ⟨p3, c3, rfl, HR.out⟩, HB.out⟩
set_option maxHeartbeats 4000000 in
theorem rreads_xxxo (x : Cd) (hv : valid x = true) (hi : -32768 ≤ x.i ∧ x.i ≤ 32767) (h0 : hasR x.op 0 = true) (hd : defs x.op = true) (h1 : hasR x.op 1 = true) (h2 : hasR x.op 2 = false) (w : World) :
    Calls Tryd.prog 32 #[cdV x] w fun e w' => ∃ v, e = .returned v ∧ LstI v (sl [x.b] 8) w' ∧ Grew w w' := by
  have HV := Lib.hid hv
  have HI := Lib.hid hi
  have H0 := Lib.hid h0
  have HD := Lib.hid hd
  have H1 := Lib.hid h1
  have H2 := Lib.hid h2
  have HO : Hid (OwR w w.heap.size 3 1 encI (.slice none 0 0) []) := Lib.hid (OwR.nil 1 encI _ _ _)
  clear hv hi h0 hd h1 h2
  have HB := Lib.hid (Grew.refl w)
  have tk0 := Lib.hid trivial
  have tk1 := Lib.hid trivial
  have tk2 := Lib.hid trivial
  have tk3 := Lib.hid trivial
  have tk4 := Lib.hid trivial
  have tk5 := Lib.hid trivial
  have tk6 := Lib.hid trivial
  go_enter Tryd.func32, Tryd.ntmps32
  go_wp2_with (first
    | (go_at_call 13; clear tk0; generalize hW : World.alloc _ _ = V; have bx : Blk (w.heap.size) [.int .i64 x.op, .int .i64 x.a, .int .i64 x.b, .int .i64 x.c, .int .i16 x.i] 24 V := (by subst hW; exact Blk.grew (w := (w.alloc (.cells #[.int .i64 x.op, .int .i64 x.a, .int .i64 x.b, .int .i64 x.c, .int .i16 x.i] 24))) (by simpa using Blk.new w [.int .i64 x.op, .int .i64 x.a, .int .i64 x.b, .int .i64 x.c, .int .i16 x.i] 24) (by repeat (first | with_reducible exact Grew.refl _ | with_reducible refine Grew.alloc ?_ _ | with_reducible refine Grew.drw ?_ | with_reducible refine Grew.drwN ?_ _ | with_reducible refine Grew.sc ?_ (by first | omega | (simp <;> omega)) _ _))); have hgV : Grew w V := (by subst hW; repeat (first | with_reducible exact Grew.refl _ | with_reducible refine Grew.alloc ?_ _ | with_reducible refine Grew.drw ?_ | with_reducible refine Grew.drwN ?_ _ | with_reducible refine Grew.sc ?_ (by first | omega | (simp <;> omega)) _ _)); replace HO := Lib.hid (HO.out.grew hgV); clear hgV; replace HB : Hid (Grew w V) := Lib.hid (by subst hW; repeat (first | with_reducible exact HB.out | with_reducible refine Grew.sc ?_ (by first | omega | (simp <;> omega)) _ _ | with_reducible refine Grew.alloc ?_ _ | with_reducible refine Grew.drw ?_ | with_reducible refine Grew.drwN ?_ _)); clear hW; (with_reducible refine (rvalid_is x _ true HV.out HI.out).mono ?_); rintro e w1 ⟨rfl, g1⟩; replace bx := bx.grew g1; replace HO := Lib.hid (HO.out.grew g1); replace HB := Lib.hid (HB.out.trans g1); clear g1; have bx0 := bx.cell 0; have bx1 := bx.cell 1; have bx2 := bx.cell 2; have bx3 := bx.cell 3; have bx4 := bx.cell 4; have bxf := bx.free; have bxl := bx.lt; simp only [List.getElem?_cons_zero, List.getElem?_cons_succ] at bx0 bx1 bx2 bx3 bx4 bxl)
    | (go_at_call 40; clear tk1; (with_reducible refine (shape_any x.op _).mono ?_); rintro e w2 ⟨rfl, g1⟩; clear bx0 bx1 bx2 bx3 bx4 bxf bxl; replace bx := bx.grew g1; replace HO := Lib.hid (HO.out.grew g1); replace HB := Lib.hid (HB.out.trans g1); clear g1; have bx0 := bx.cell 0; have bx1 := bx.cell 1; have bx2 := bx.cell 2; have bx3 := bx.cell 3; have bx4 := bx.cell 4; have bxf := bx.free; have bxl := bx.lt; simp only [List.getElem?_cons_zero, List.getElem?_cons_succ] at bx0 bx1 bx2 bx3 bx4 bxl)
    | (go_at_call 42; clear tk2; (with_reducible refine (has97 x.op true H0.out _).mono ?_); rintro e w3 ⟨rfl, g1⟩; clear bx0 bx1 bx2 bx3 bx4 bxf bxl; replace bx := bx.grew g1; replace HO := Lib.hid (HO.out.grew g1); replace HB := Lib.hid (HB.out.trans g1); clear g1; have bx0 := bx.cell 0; have bx1 := bx.cell 1; have bx2 := bx.cell 2; have bx3 := bx.cell 3; have bx4 := bx.cell 4; have bxf := bx.free; have bxl := bx.lt; simp only [List.getElem?_cons_zero, List.getElem?_cons_succ] at bx0 bx1 bx2 bx3 bx4 bxl)
    | (go_at_call 55; clear tk3; (with_reducible refine (defs_is x.op true HD.out _).mono ?_); rintro e w4 ⟨rfl, g1⟩; clear bx0 bx1 bx2 bx3 bx4 bxf bxl; replace bx := bx.grew g1; replace HO := Lib.hid (HO.out.grew g1); replace HB := Lib.hid (HB.out.trans g1); clear g1; have bx0 := bx.cell 0; have bx1 := bx.cell 1; have bx2 := bx.cell 2; have bx3 := bx.cell 3; have bx4 := bx.cell 4; have bxf := bx.free; have bxl := bx.lt; simp only [List.getElem?_cons_zero, List.getElem?_cons_succ] at bx0 bx1 bx2 bx3 bx4 bxl)
    | (go_at_call 42; clear tk4; (with_reducible refine (has98 x.op true H1.out _).mono ?_); rintro e w5 ⟨rfl, g1⟩; clear bx0 bx1 bx2 bx3 bx4 bxf bxl; replace bx := bx.grew g1; replace HO := Lib.hid (HO.out.grew g1); replace HB := Lib.hid (HB.out.trans g1); clear g1; have bx0 := bx.cell 0; have bx1 := bx.cell 1; have bx2 := bx.cell 2; have bx3 := bx.cell 3; have bx4 := bx.cell 4; have bxf := bx.free; have bxl := bx.lt; simp only [List.getElem?_cons_zero, List.getElem?_cons_succ] at bx0 bx1 bx2 bx3 bx4 bxl)
    | (at_builtin; generalize hW : World.alloc _ _ = V; have hlit : Rw 1 encI V (some ⟨w5.heap.size, 0, none⟩) 1 [x.b] := (by subst hW; exact Rw.made encIE _ [x.b] 1 _ _ _ rfl rfl (by omega)); clear bxf bxl bx0 bx1 bx2 bx3 bx4; replace bx : Blk (w.heap.size) [.int .i64 x.op, .int .i64 x.a, .int .i64 x.b, .int .i64 x.c, .int .i16 x.i] 24 V := (by subst hW; exact bx.grew ((Grew.refl _).alloc _)); replace HO := Lib.hid (show OwR V _ _ _ _ _ _ from (by subst hW; exact HO.out.kept ((Grew.refl _).alloc _))); replace HB : Hid (Grew w V) := Lib.hid (by subst hW; exact HB.out.alloc _); clear hW; refine wpList_append_row encIE rfl _ _ 40 rfl w.heap.size 3 (.int .i64 0) 8 Tryd.underlying40 infoI rfl _ ([]) rfl HO.out _ 1 1 [x.b] rfl rfl hlit (by have := HB.out.sz; simp <;> omega) (by have := HB.out.sz; simp <;> omega) HB.out.sz ?_; intro p2 c2 zs2 wb hz2 ho2 hb2 hc2; replace bx := bx.chg hc2 (fun hs => HO.out.apart (by decide) bx hs); replace HB : Hid (Grew w wb) := Lib.hid (Below.trans HB.out hb2); obtain rfl : ([x.b] : List Int) = zs2 := (by simpa using hz2.out.symm); replace HO := Lib.hid ho2; clear ho2 hz2; clear hb2 hc2 hlit;  have bx0 := bx.cell 0; have bx1 := bx.cell 1; have bx2 := bx.cell 2; have bx3 := bx.cell 3; have bx4 := bx.cell 4; have bxf := bx.free; have bxl := bx.lt; simp only [List.getElem?_cons_zero, List.getElem?_cons_succ] at bx0 bx1 bx2 bx3 bx4 bxl)
    | (go_at_call 42; clear tk5; (with_reducible refine (has99 x.op false H2.out _).mono ?_); rintro e w6 ⟨rfl, g1⟩; clear bx0 bx1 bx2 bx3 bx4 bxf bxl; replace bx := bx.grew g1; replace HO := Lib.hid (HO.out.grew g1); replace HB := Lib.hid (HB.out.trans g1); clear g1; have bx0 := bx.cell 0; have bx1 := bx.cell 1; have bx2 := bx.cell 2; have bx3 := bx.cell 3; have bx4 := bx.cell 4; have bxf := bx.free; have bxl := bx.lt; simp only [List.getElem?_cons_zero, List.getElem?_cons_succ] at bx0 bx1 bx2 bx3 bx4 bxl)
    | (go_at_call 56; clear tk6; (with_reducible refine (set_any _ 1 _ [x.b] _ (HO.out.rd encIE).2 rfl (by decide)).mono ?_); rintro e w7 ⟨p3, c3, rfl, hr, g1⟩; clear bx0 bx1 bx2 bx3 bx4 bxf bxl; replace bx := bx.grew g1; replace HO := Lib.hid (HO.out.grew g1); replace HB := Lib.hid (HB.out.trans g1); clear g1; have bx0 := bx.cell 0; have bx1 := bx.cell 1; have bx2 := bx.cell 2; have bx3 := bx.cell 3; have bx4 := bx.cell 4; have bxf := bx.free; have bxl := bx.lt; simp only [List.getElem?_cons_zero, List.getElem?_cons_succ] at bx0 bx1 bx2 bx3 bx4 bxl; have HR := Lib.hid hr; clear hr))
  go_ret
  exact ⟨_, rfl, ⟨p3, c3, rfl, HR.out⟩, HB.out⟩
set_option maxHeartbeats 4000000 in
theorem rreads_xoxo (x : Cd) (hv : valid x = true) (hi : -32768 ≤ x.i ∧ x.i ≤ 32767) (h0 : hasR x.op 0 = true) (hd : defs x.op = false) (h1 : hasR x.op 1 = true) (h2 : hasR x.op 2 = false) (w : World) :
    Calls Tryd.prog 32 #[cdV x] w fun e w' => ∃ v, e = .returned v ∧ LstI v (sl [x.a, x.b] 8) w' ∧ Grew w w' := by
  have HV := Lib.hid hv
  have HI := Lib.hid hi
  have H0 := Lib.hid h0
  have HD := Lib.hid hd
  have H1 := Lib.hid h1
  have H2 := Lib.hid h2
  have HO : Hid (OwR w w.heap.size 3 1 encI (.slice none 0 0) []) := Lib.hid (OwR.nil 1 encI _ _ _)
  clear hv hi h0 hd h1 h2
  have HB := Lib.hid (Grew.refl w)
  have tk0 := Lib.hid trivial
  have tk1 := Lib.hid trivial
  have tk2 := Lib.hid trivial
  have tk3 := Lib.hid trivial
  have tk4 := Lib.hid trivial
  have tk5 := Lib.hid trivial
  have tk6 := Lib.hid trivial
  go_enter Tryd.func32, Tryd.ntmps32
  go_wp2_with (first
    | (go_at_call 13; clear tk0; generalize hW : World.alloc _ _ = V; have bx : Blk (w.heap.size) [.int .i64 x.op, .int .i64 x.a, .int .i64 x.b, .int .i64 x.c, .int .i16 x.i] 24 V := (by subst hW; exact Blk.grew (w := (w.alloc (.cells #[.int .i64 x.op, .int .i64 x.a, .int .i64 x.b, .int .i64 x.c, .int .i16 x.i] 24))) (by simpa using Blk.new w [.int .i64 x.op, .int .i64 x.a, .int .i64 x.b, .int .i64 x.c, .int .i16 x.i] 24) (by repeat (first | with_reducible exact Grew.refl _ | with_reducible refine Grew.alloc ?_ _ | with_reducible refine Grew.drw ?_ | with_reducible refine Grew.drwN ?_ _ | with_reducible refine Grew.sc ?_ (by first | omega | (simp <;> omega)) _ _))); have hgV : Grew w V := (by subst hW; repeat (first | with_reducible exact Grew.refl _ | with_reducible refine Grew.alloc ?_ _ | with_reducible refine Grew.drw ?_ | with_reducible refine Grew.drwN ?_ _ | with_reducible refine Grew.sc ?_ (by first | omega | (simp <;> omega)) _ _)); replace HO := Lib.hid (HO.out.grew hgV); clear hgV; replace HB : Hid (Grew w V) := Lib.hid (by subst hW; repeat (first | with_reducible exact HB.out | with_reducible refine Grew.sc ?_ (by first | omega | (simp <;> omega)) _ _ | with_reducible refine Grew.alloc ?_ _ | with_reducible refine Grew.drw ?_ | with_reducible refine Grew.drwN ?_ _)); clear hW; (with_reducible refine (rvalid_is x _ true HV.out HI.out).mono ?_); rintro e w1 ⟨rfl, g1⟩; replace bx := bx.grew g1; replace HO := Lib.hid (HO.out.grew g1); replace HB := Lib.hid (HB.out.trans g1); clear g1; have bx0 := bx.cell 0; have bx1 := bx.cell 1; have bx2 := bx.cell 2; have bx3 := bx.cell 3; have bx4 := bx.cell 4; have bxf := bx.free; have bxl := bx.lt; simp only [List.getElem?_cons_zero, List.getElem?_cons_succ] at bx0 bx1 bx2 bx3 bx4 bxl)
    | (go_at_call 40; clear tk1; (with_reducible refine (shape_any x.op _).mono ?_); rintro e w2 ⟨rfl, g1⟩; clear bx0 bx1 bx2 bx3 bx4 bxf bxl; replace bx := bx.grew g1; replace HO := Lib.hid (HO.out.grew g1); replace HB := Lib.hid (HB.out.trans g1); clear g1; have bx0 := bx.cell 0; have bx1 := bx.cell 1; have bx2 := bx.cell 2; have bx3 := bx.cell 3; have bx4 := bx.cell 4; have bxf := bx.free; have bxl := bx.lt; simp only [List.getElem?_cons_zero, List.getElem?_cons_succ] at bx0 bx1 bx2 bx3 bx4 bxl)
    | (go_at_call 42; clear tk2; (with_reducible refine (has97 x.op true H0.out _).mono ?_); rintro e w3 ⟨rfl, g1⟩; clear bx0 bx1 bx2 bx3 bx4 bxf bxl; replace bx := bx.grew g1; replace HO := Lib.hid (HO.out.grew g1); replace HB := Lib.hid (HB.out.trans g1); clear g1; have bx0 := bx.cell 0; have bx1 := bx.cell 1; have bx2 := bx.cell 2; have bx3 := bx.cell 3; have bx4 := bx.cell 4; have bxf := bx.free; have bxl := bx.lt; simp only [List.getElem?_cons_zero, List.getElem?_cons_succ] at bx0 bx1 bx2 bx3 bx4 bxl)
    | (go_at_call 55; clear tk3; (with_reducible refine (defs_is x.op false HD.out _).mono ?_); rintro e w4 ⟨rfl, g1⟩; clear bx0 bx1 bx2 bx3 bx4 bxf bxl; replace bx := bx.grew g1; replace HO := Lib.hid (HO.out.grew g1); replace HB := Lib.hid (HB.out.trans g1); clear g1; have bx0 := bx.cell 0; have bx1 := bx.cell 1; have bx2 := bx.cell 2; have bx3 := bx.cell 3; have bx4 := bx.cell 4; have bxf := bx.free; have bxl := bx.lt; simp only [List.getElem?_cons_zero, List.getElem?_cons_succ] at bx0 bx1 bx2 bx3 bx4 bxl)
    | (at_builtin; generalize hW : World.alloc _ _ = V; have hlit : Rw 1 encI V (some ⟨w4.heap.size, 0, none⟩) 1 [x.a] := (by subst hW; exact Rw.made encIE _ [x.a] 1 _ _ _ rfl rfl (by omega)); clear bxf bxl bx0 bx1 bx2 bx3 bx4; replace bx : Blk (w.heap.size) [.int .i64 x.op, .int .i64 x.a, .int .i64 x.b, .int .i64 x.c, .int .i16 x.i] 24 V := (by subst hW; exact bx.grew ((Grew.refl _).alloc _)); replace HO := Lib.hid (show OwR V _ _ _ _ _ _ from (by subst hW; exact HO.out.kept ((Grew.refl _).alloc _))); replace HB : Hid (Grew w V) := Lib.hid (by subst hW; exact HB.out.alloc _); clear hW; refine wpList_append_row encIE rfl _ _ 40 rfl w.heap.size 3 (.int .i64 0) 8 Tryd.underlying40 infoI rfl _ ([]) rfl HO.out _ 1 1 [x.a] rfl rfl hlit (by have := HB.out.sz; simp <;> omega) (by have := HB.out.sz; simp <;> omega) HB.out.sz ?_; intro p2 c2 zs2 wa hz2 ho2 hb2 hc2; replace bx := bx.chg hc2 (fun hs => HO.out.apart (by decide) bx hs); replace HB : Hid (Grew w wa) := Lib.hid (Below.trans HB.out hb2); obtain rfl : ([x.a] : List Int) = zs2 := (by simpa using hz2.out.symm); replace HO := Lib.hid ho2; clear ho2 hz2; clear hb2 hc2 hlit;  have bx0 := bx.cell 0; have bx1 := bx.cell 1; have bx2 := bx.cell 2; have bx3 := bx.cell 3; have bx4 := bx.cell 4; have bxf := bx.free; have bxl := bx.lt; simp only [List.getElem?_cons_zero, List.getElem?_cons_succ] at bx0 bx1 bx2 bx3 bx4 bxl)
    | (go_at_call 42; clear tk4; (with_reducible refine (has98 x.op true H1.out _).mono ?_); rintro e w5 ⟨rfl, g1⟩; clear bx0 bx1 bx2 bx3 bx4 bxf bxl; replace bx := bx.grew g1; replace HO := Lib.hid (HO.out.grew g1); replace HB := Lib.hid (HB.out.trans g1); clear g1; have bx0 := bx.cell 0; have bx1 := bx.cell 1; have bx2 := bx.cell 2; have bx3 := bx.cell 3; have bx4 := bx.cell 4; have bxf := bx.free; have bxl := bx.lt; simp only [List.getElem?_cons_zero, List.getElem?_cons_succ] at bx0 bx1 bx2 bx3 bx4 bxl)
    | (at_builtin; generalize hW : World.alloc _ _ = V; have hlit : Rw 1 encI V (some ⟨w5.heap.size, 0, none⟩) 1 [x.b] := (by subst hW; exact Rw.made encIE _ [x.b] 1 _ _ _ rfl rfl (by omega)); clear bxf bxl bx0 bx1 bx2 bx3 bx4; replace bx : Blk (w.heap.size) [.int .i64 x.op, .int .i64 x.a, .int .i64 x.b, .int .i64 x.c, .int .i16 x.i] 24 V := (by subst hW; exact bx.grew ((Grew.refl _).alloc _)); replace HO := Lib.hid (show OwR V _ _ _ _ _ _ from (by subst hW; exact HO.out.kept ((Grew.refl _).alloc _))); replace HB : Hid (Grew w V) := Lib.hid (by subst hW; exact HB.out.alloc _); clear hW; refine wpList_append_row encIE rfl _ _ 40 rfl w.heap.size 3 (.int .i64 0) 8 Tryd.underlying40 infoI rfl _ ([x.a]) rfl HO.out _ 1 1 [x.b] rfl rfl hlit (by have := HB.out.sz; simp <;> omega) (by have := HB.out.sz; simp <;> omega) HB.out.sz ?_; intro p2 c2 zs2 wb hz2 ho2 hb2 hc2; replace bx := bx.chg hc2 (fun hs => HO.out.apart (by decide) bx hs); replace HB : Hid (Grew w wb) := Lib.hid (Below.trans HB.out hb2); obtain rfl : ([x.a, x.b] : List Int) = zs2 := (by simpa using hz2.out.symm); replace HO := Lib.hid ho2; clear ho2 hz2; clear hb2 hc2 hlit;  have bx0 := bx.cell 0; have bx1 := bx.cell 1; have bx2 := bx.cell 2; have bx3 := bx.cell 3; have bx4 := bx.cell 4; have bxf := bx.free; have bxl := bx.lt; simp only [List.getElem?_cons_zero, List.getElem?_cons_succ] at bx0 bx1 bx2 bx3 bx4 bxl)
    | (go_at_call 42; clear tk5; (with_reducible refine (has99 x.op false H2.out _).mono ?_); rintro e w6 ⟨rfl, g1⟩; clear bx0 bx1 bx2 bx3 bx4 bxf bxl; replace bx := bx.grew g1; replace HO := Lib.hid (HO.out.grew g1); replace HB := Lib.hid (HB.out.trans g1); clear g1; have bx0 := bx.cell 0; have bx1 := bx.cell 1; have bx2 := bx.cell 2; have bx3 := bx.cell 3; have bx4 := bx.cell 4; have bxf := bx.free; have bxl := bx.lt; simp only [List.getElem?_cons_zero, List.getElem?_cons_succ] at bx0 bx1 bx2 bx3 bx4 bxl)
    | (go_at_call 56; clear tk6; (with_reducible refine (set_any _ 2 _ [x.a, x.b] _ (HO.out.rd encIE).2 rfl (by decide)).mono ?_); rintro e w7 ⟨p3, c3, rfl, hr, g1⟩; clear bx0 bx1 bx2 bx3 bx4 bxf bxl; replace bx := bx.grew g1; replace HO := Lib.hid (HO.out.grew g1); replace HB := Lib.hid (HB.out.trans g1); clear g1; have bx0 := bx.cell 0; have bx1 := bx.cell 1; have bx2 := bx.cell 2; have bx3 := bx.cell 3; have bx4 := bx.cell 4; have bxf := bx.free; have bxl := bx.lt; simp only [List.getElem?_cons_zero, List.getElem?_cons_succ] at bx0 bx1 bx2 bx3 bx4 bxl; have HR := Lib.hid hr; clear hr))
  go_ret
  exact ⟨_, rfl, ⟨p3, c3, rfl, HR.out⟩, HB.out⟩
set_option maxHeartbeats 4000000 in
theorem rreads_xxxx (x : Cd) (hv : valid x = true) (hi : -32768 ≤ x.i ∧ x.i ≤ 32767) (h0 : hasR x.op 0 = true) (hd : defs x.op = true) (h1 : hasR x.op 1 = true) (h2 : hasR x.op 2 = true) (w : World) :
    Calls Tryd.prog 32 #[cdV x] w fun e w' => ∃ v, e = .returned v ∧ LstI v (sl [x.b, x.c] 8) w' ∧ Grew w w' := by
  have HV := Lib.hid hv
  have HI := Lib.hid hi
  have H0 := Lib.hid h0
  have HD := Lib.hid hd
  have H1 := Lib.hid h1
  have H2 := Lib.hid h2
  have HO : Hid (OwR w w.heap.size 3 1 encI (.slice none 0 0) []) := Lib.hid (OwR.nil 1 encI _ _ _)
  clear hv hi h0 hd h1 h2
  have HB := Lib.hid (Grew.refl w)
  have tk0 := Lib.hid trivial
  have tk1 := Lib.hid trivial
  have tk2 := Lib.hid trivial
  have tk3 := Lib.hid trivial
  have tk4 := Lib.hid trivial
  have tk5 := Lib.hid trivial
  have tk6 := Lib.hid trivial
  go_enter Tryd.func32, Tryd.ntmps32
  go_wp2_with (first
    | (go_at_call 13; clear tk0; generalize hW : World.alloc _ _ = V; have bx : Blk (w.heap.size) [.int .i64 x.op, .int .i64 x.a, .int .i64 x.b, .int .i64 x.c, .int .i16 x.i] 24 V := (by subst hW; exact Blk.grew (w := (w.alloc (.cells #[.int .i64 x.op, .int .i64 x.a, .int .i64 x.b, .int .i64 x.c, .int .i16 x.i] 24))) (by simpa using Blk.new w [.int .i64 x.op, .int .i64 x.a, .int .i64 x.b, .int .i64 x.c, .int .i16 x.i] 24) (by repeat (first | with_reducible exact Grew.refl _ | with_reducible refine Grew.alloc ?_ _ | with_reducible refine Grew.drw ?_ | with_reducible refine Grew.drwN ?_ _ | with_reducible refine Grew.sc ?_ (by first | omega | (simp <;> omega)) _ _))); have hgV : Grew w V := (by subst hW; repeat (first | with_reducible exact Grew.refl _ | with_reducible refine Grew.alloc ?_ _ | with_reducible refine Grew.drw ?_ | with_reducible refine Grew.drwN ?_ _ | with_reducible refine Grew.sc ?_ (by first | omega | (simp <;> omega)) _ _)); replace HO := Lib.hid (HO.out.grew hgV); clear hgV; replace HB : Hid (Grew w V) := Lib.hid (by subst hW; repeat (first | with_reducible exact HB.out | with_reducible refine Grew.sc ?_ (by first | omega | (simp <;> omega)) _ _ | with_reducible refine Grew.alloc ?_ _ | with_reducible refine Grew.drw ?_ | with_reducible refine Grew.drwN ?_ _)); clear hW; (with_reducible refine (rvalid_is x _ true HV.out HI.out).mono ?_); rintro e w1 ⟨rfl, g1⟩; replace bx := bx.grew g1; replace HO := Lib.hid (HO.out.grew g1); replace HB := Lib.hid (HB.out.trans g1); clear g1; have bx0 := bx.cell 0; have bx1 := bx.cell 1; have bx2 := bx.cell 2; have bx3 := bx.cell 3; have bx4 := bx.cell 4; have bxf := bx.free; have bxl := bx.lt; simp only [List.getElem?_cons_zero, List.getElem?_cons_succ] at bx0 bx1 bx2 bx3 bx4 bxl)
    | (go_at_call 40; clear tk1; (with_reducible refine (shape_any x.op _).mono ?_); rintro e w2 ⟨rfl, g1⟩; clear bx0 bx1 bx2 bx3 bx4 bxf bxl; replace bx := bx.grew g1; replace HO := Lib.hid (HO.out.grew g1); replace HB := Lib.hid (HB.out.trans g1); clear g1; have bx0 := bx.cell 0; have bx1 := bx.cell 1; have bx2 := bx.cell 2; have bx3 := bx.cell 3; have bx4 := bx.cell 4; have bxf := bx.free; have bxl := bx.lt; simp only [List.getElem?_cons_zero, List.getElem?_cons_succ] at bx0 bx1 bx2 bx3 bx4 bxl)
    | (go_at_call 42; clear tk2; (with_reducible refine (has97 x.op true H0.out _).mono ?_); rintro e w3 ⟨rfl, g1⟩; clear bx0 bx1 bx2 bx3 bx4 bxf bxl; replace bx := bx.grew g1; replace HO := Lib.hid (HO.out.grew g1); replace HB := Lib.hid (HB.out.trans g1); clear g1; have bx0 := bx.cell 0; have bx1 := bx.cell 1; have bx2 := bx.cell 2; have bx3 := bx.cell 3; have bx4 := bx.cell 4; have bxf := bx.free; have bxl := bx.lt; simp only [List.getElem?_cons_zero, List.getElem?_cons_succ] at bx0 bx1 bx2 bx3 bx4 bxl)
    | (go_at_call 55; clear tk3; (with_reducible refine (defs_is x.op true HD.out _).mono ?_); rintro e w4 ⟨rfl, g1⟩; clear bx0 bx1 bx2 bx3 bx4 bxf bxl; replace bx := bx.grew g1; replace HO := Lib.hid (HO.out.grew g1); replace HB := Lib.hid (HB.out.trans g1); clear g1; have bx0 := bx.cell 0; have bx1 := bx.cell 1; have bx2 := bx.cell 2; have bx3 := bx.cell 3; have bx4 := bx.cell 4; have bxf := bx.free; have bxl := bx.lt; simp only [List.getElem?_cons_zero, List.getElem?_cons_succ] at bx0 bx1 bx2 bx3 bx4 bxl)
    | (go_at_call 42; clear tk4; (with_reducible refine (has98 x.op true H1.out _).mono ?_); rintro e w5 ⟨rfl, g1⟩; clear bx0 bx1 bx2 bx3 bx4 bxf bxl; replace bx := bx.grew g1; replace HO := Lib.hid (HO.out.grew g1); replace HB := Lib.hid (HB.out.trans g1); clear g1; have bx0 := bx.cell 0; have bx1 := bx.cell 1; have bx2 := bx.cell 2; have bx3 := bx.cell 3; have bx4 := bx.cell 4; have bxf := bx.free; have bxl := bx.lt; simp only [List.getElem?_cons_zero, List.getElem?_cons_succ] at bx0 bx1 bx2 bx3 bx4 bxl)
    | (at_builtin; generalize hW : World.alloc _ _ = V; have hlit : Rw 1 encI V (some ⟨w5.heap.size, 0, none⟩) 1 [x.b] := (by subst hW; exact Rw.made encIE _ [x.b] 1 _ _ _ rfl rfl (by omega)); clear bxf bxl bx0 bx1 bx2 bx3 bx4; replace bx : Blk (w.heap.size) [.int .i64 x.op, .int .i64 x.a, .int .i64 x.b, .int .i64 x.c, .int .i16 x.i] 24 V := (by subst hW; exact bx.grew ((Grew.refl _).alloc _)); replace HO := Lib.hid (show OwR V _ _ _ _ _ _ from (by subst hW; exact HO.out.kept ((Grew.refl _).alloc _))); replace HB : Hid (Grew w V) := Lib.hid (by subst hW; exact HB.out.alloc _); clear hW; refine wpList_append_row encIE rfl _ _ 40 rfl w.heap.size 3 (.int .i64 0) 8 Tryd.underlying40 infoI rfl _ ([]) rfl HO.out _ 1 1 [x.b] rfl rfl hlit (by have := HB.out.sz; simp <;> omega) (by have := HB.out.sz; simp <;> omega) HB.out.sz ?_; intro p2 c2 zs2 wb hz2 ho2 hb2 hc2; replace bx := bx.chg hc2 (fun hs => HO.out.apart (by decide) bx hs); replace HB : Hid (Grew w wb) := Lib.hid (Below.trans HB.out hb2); obtain rfl : ([x.b] : List Int) = zs2 := (by simpa using hz2.out.symm); replace HO := Lib.hid ho2; clear ho2 hz2; clear hb2 hc2 hlit;  have bx0 := bx.cell 0; have bx1 := bx.cell 1; have bx2 := bx.cell 2; have bx3 := bx.cell 3; have bx4 := bx.cell 4; have bxf := bx.free; have bxl := bx.lt; simp only [List.getElem?_cons_zero, List.getElem?_cons_succ] at bx0 bx1 bx2 bx3 bx4 bxl)
    | (go_at_call 42; clear tk5; (with_reducible refine (has99 x.op true H2.out _).mono ?_); rintro e w6 ⟨rfl, g1⟩; clear bx0 bx1 bx2 bx3 bx4 bxf bxl; replace bx := bx.grew g1; replace HO := Lib.hid (HO.out.grew g1); replace HB := Lib.hid (HB.out.trans g1); clear g1; have bx0 := bx.cell 0; have bx1 := bx.cell 1; have bx2 := bx.cell 2; have bx3 := bx.cell 3; have bx4 := bx.cell 4; have bxf := bx.free; have bxl := bx.lt; simp only [List.getElem?_cons_zero, List.getElem?_cons_succ] at bx0 bx1 bx2 bx3 bx4 bxl)
    | (at_builtin; generalize hW : World.alloc _ _ = V; have hlit : Rw 1 encI V (some ⟨w6.heap.size, 0, none⟩) 1 [x.c] := (by subst hW; exact Rw.made encIE _ [x.c] 1 _ _ _ rfl rfl (by omega)); clear bxf bxl bx0 bx1 bx2 bx3 bx4; replace bx : Blk (w.heap.size) [.int .i64 x.op, .int .i64 x.a, .int .i64 x.b, .int .i64 x.c, .int .i16 x.i] 24 V := (by subst hW; exact bx.grew ((Grew.refl _).alloc _)); replace HO := Lib.hid (show OwR V _ _ _ _ _ _ from (by subst hW; exact HO.out.kept ((Grew.refl _).alloc _))); replace HB : Hid (Grew w V) := Lib.hid (by subst hW; exact HB.out.alloc _); clear hW; refine wpList_append_row encIE rfl _ _ 40 rfl w.heap.size 3 (.int .i64 0) 8 Tryd.underlying40 infoI rfl _ ([x.b]) rfl HO.out _ 1 1 [x.c] rfl rfl hlit (by have := HB.out.sz; simp <;> omega) (by have := HB.out.sz; simp <;> omega) HB.out.sz ?_; intro p2 c2 zs2 wc hz2 ho2 hb2 hc2; replace bx := bx.chg hc2 (fun hs => HO.out.apart (by decide) bx hs); replace HB : Hid (Grew w wc) := Lib.hid (Below.trans HB.out hb2); obtain rfl : ([x.b, x.c] : List Int) = zs2 := (by simpa using hz2.out.symm); replace HO := Lib.hid ho2; clear ho2 hz2; clear hb2 hc2 hlit;  have bx0 := bx.cell 0; have bx1 := bx.cell 1; have bx2 := bx.cell 2; have bx3 := bx.cell 3; have bx4 := bx.cell 4; have bxf := bx.free; have bxl := bx.lt; simp only [List.getElem?_cons_zero, List.getElem?_cons_succ] at bx0 bx1 bx2 bx3 bx4 bxl)
    | (go_at_call 56; clear tk6; (with_reducible refine (set_any _ 2 _ [x.b, x.c] _ (HO.out.rd encIE).2 rfl (by decide)).mono ?_); rintro e w7 ⟨p3, c3, rfl, hr, g1⟩; clear bx0 bx1 bx2 bx3 bx4 bxf bxl; replace bx := bx.grew g1; replace HO := Lib.hid (HO.out.grew g1); replace HB := Lib.hid (HB.out.trans g1); clear g1; have bx0 := bx.cell 0; have bx1 := bx.cell 1; have bx2 := bx.cell 2; have bx3 := bx.cell 3; have bx4 := bx.cell 4; have bxf := bx.free; have bxl := bx.lt; simp only [List.getElem?_cons_zero, List.getElem?_cons_succ] at bx0 bx1 bx2 bx3 bx4 bxl; have HR := Lib.hid hr; clear hr))
  go_ret
  exact ⟨_, rfl, ⟨p3, c3, rfl, HR.out⟩, HB.out⟩
theorem rreads_none (x : Cd) (hv : valid x = false) (hi : -32768 ≤ x.i ∧ x.i ≤ 32767) (w : World) :
    Calls Tryd.prog 32 #[cdV x] w fun e w' => ∃ v, e = .returned v ∧ LstI v [] w' ∧ Grew w w' := by
  have HV := Lib.hid hv
  have HI := Lib.hid hi
  clear hv hi
  have HB := Lib.hid (Grew.refl w)
  have tk0 := Lib.hid trivial
  go_enter Tryd.func32, Tryd.ntmps32
  go_wp2_with (first
    | (go_at_call 13; clear tk0; generalize hW : World.alloc _ _ = V; have bx : Blk (w.heap.size) [.int .i64 x.op, .int .i64 x.a, .int .i64 x.b, .int .i64 x.c, .int .i16 x.i] 24 V := (by subst hW; exact Blk.grew (w := (w.alloc (.cells #[.int .i64 x.op, .int .i64 x.a, .int .i64 x.b, .int .i64 x.c, .int .i16 x.i] 24))) (by simpa using Blk.new w [.int .i64 x.op, .int .i64 x.a, .int .i64 x.b, .int .i64 x.c, .int .i16 x.i] 24) (by repeat (first | with_reducible exact Grew.refl _ | with_reducible refine Grew.alloc ?_ _ | with_reducible refine Grew.drw ?_ | with_reducible refine Grew.drwN ?_ _ | with_reducible refine Grew.sc ?_ (by first | omega | (simp <;> omega)) _ _))); replace HB : Hid (Grew w V) := Lib.hid (by subst hW; repeat (first | with_reducible exact HB.out | with_reducible refine Grew.sc ?_ (by first | omega | (simp <;> omega)) _ _ | with_reducible refine Grew.alloc ?_ _ | with_reducible refine Grew.drw ?_ | with_reducible refine Grew.drwN ?_ _)); clear hW; (with_reducible refine (rvalid_is x _ false HV.out HI.out).mono ?_); rintro e w1 ⟨rfl, g1⟩; replace bx := bx.grew g1; replace HB := Lib.hid (HB.out.trans g1); clear g1; have bx0 := bx.cell 0; have bx1 := bx.cell 1; have bx2 := bx.cell 2; have bx3 := bx.cell 3; have bx4 := bx.cell 4; have bxf := bx.free; have bxl := bx.lt; simp only [List.getElem?_cons_zero, List.getElem?_cons_succ] at bx0 bx1 bx2 bx3 bx4 bxl))
  go_ret
  exact ⟨_, rfl, ⟨none, 0, rfl, Rw.nil _ _ _⟩, HB.out⟩
/-- The operands that are used. -/
def opl (x : Cd) : List Int := (if hasR x.op 0 && !defs x.op then [x.a] else []) ++ ((if hasR x.op 1 then [x.b] else []) ++ (if hasR x.op 2 then [x.c] else []))
theorem tab_bits : ∀ k : Fin 31, bit (opr (k.val : Int)).rd 0 = (hasR (k.val : Int) 0 && !defs (k.val : Int)) ∧ bit (opr (k.val : Int)).rd 1 = hasR (k.val : Int) 1 ∧ bit (opr (k.val : Int)).rd 2 = hasR (k.val : Int) 2 ∧ bit (opr (k.val : Int)).wr 1 = false ∧ bit (opr (k.val : Int)).wr 2 = false ∧ (defs (k.val : Int) = true → hasR (k.val : Int) 0 = true) := by decide
theorem tab_comb : ∀ k : Fin 31, (hasR (k.val : Int) 0, defs (k.val : Int), hasR (k.val : Int) 1, hasR (k.val : Int) 2) ∈ ([(false, true, false, false), (false, false, false, false), (true, true, false, false), (true, false, false, false), (true, true, true, false), (true, false, true, false), (true, true, true, true)] : List (Bool × Bool × Bool × Bool)) := by decide
theorem rdL_eq (x : Cd) (hv : valid x = true) : rdL x = sl (opl x) 8 := by
  obtain ⟨k, hk, _⟩ := valid_op hv
  have ht := tab_bits k
  rw [← hk] at ht
  obtain ⟨h0, h1, h2, _, _, _⟩ := ht
  unfold rdL
  rw [if_pos hv]
  unfold cl sl
  congr 1
  funext z
  unfold pr opl
  rw [h0, h1, h2, Bool.eq_iff_iff]
  cases hasR x.op 0 <;> cases defs x.op <;> cases hasR x.op 1 <;> cases hasR x.op 2 <;> first | (simp; done) | (simp; omega)
theorem one_reg : ∀ k : Fin 8, (rgs 8).filter (fun z => (k.val : Int) == z) = [(k.val : Int)] := by decide
theorem wrL_yes (x : Cd) (hv : valid x = true) (hd : defs x.op = true) : wrL x = [x.a] := by
  obtain ⟨k, hk, _⟩ := valid_op hv
  have ht := tab_bits k
  rw [← hk] at ht
  obtain ⟨_, _, _, h1, h2, h3⟩ := ht
  have ha := ((valid_iff x).1 hv).1
  rw [h3 hd] at ha
  simp only [if_true] at ha
  obtain ⟨j, hj⟩ : ∃ j : Fin 8, x.a = (j.val : Int) := ⟨⟨x.a.toNat, by omega⟩, by show x.a = ((x.a.toNat : Nat) : Int); omega⟩
  unfold wrL
  rw [if_pos hv]
  unfold cl
  rw [show pr x (opr x.op).wr = fun z => x.a == z from by funext z; unfold pr; rw [h1, h2, show bit (opr x.op).wr 0 = true from hd]; simp, hj]
  exact one_reg j
theorem wrL_no (x : Cd) (hv : valid x = true) (hd : defs x.op = false) : wrL x = [] := by
  obtain ⟨k, hk, _⟩ := valid_op hv
  have ht := tab_bits k
  rw [← hk] at ht
  obtain ⟨_, _, _, h1, h2, h3⟩ := ht
  unfold wrL
  rw [if_pos hv]
  unfold cl
  rw [show pr x (opr x.op).wr = fun z => false from by funext z; unfold pr; rw [h1, h2, show bit (opr x.op).wr 0 = false from hd]; simp]
  rfl
theorem rreads_any (x : Cd) (hi : -32768 ≤ x.i ∧ x.i ≤ 32767) (w : World) : Calls Tryd.prog 32 #[cdV x] w fun e w' => ∃ v, e = .returned v ∧ LstI v (rdL x) w' ∧ Grew w w' := by
  cases hv : valid x
  · rw [show rdL x = [] from by unfold rdL; rw [hv]; rfl]
    exact rreads_none x hv hi w
  · rw [rdL_eq x hv]
    obtain ⟨k, hk, _⟩ := valid_op hv
    have ht := tab_comb k
    rw [← hk] at ht
    simp only [List.mem_cons, Prod.mk.injEq, List.not_mem_nil, or_false] at ht
    rcases ht with ⟨h0, hd, h1, h2⟩ | ⟨h0, hd, h1, h2⟩ | ⟨h0, hd, h1, h2⟩ | ⟨h0, hd, h1, h2⟩ | ⟨h0, hd, h1, h2⟩ | ⟨h0, hd, h1, h2⟩ | ⟨h0, hd, h1, h2⟩
    · rw [show opl x = [] from by unfold opl; rw [h0, hd, h1, h2]; rfl]; exact rreads_oxoo x hv hi h0 hd h1 h2 w
    · rw [show opl x = [] from by unfold opl; rw [h0, hd, h1, h2]; rfl]; exact rreads_oooo x hv hi h0 hd h1 h2 w
    · rw [show opl x = [] from by unfold opl; rw [h0, hd, h1, h2]; rfl]; exact rreads_xxoo x hv hi h0 hd h1 h2 w
    · rw [show opl x = [x.a] from by unfold opl; rw [h0, hd, h1, h2]; rfl]; exact rreads_xooo x hv hi h0 hd h1 h2 w
    · rw [show opl x = [x.b] from by unfold opl; rw [h0, hd, h1, h2]; rfl]; exact rreads_xxxo x hv hi h0 hd h1 h2 w
    · rw [show opl x = [x.a, x.b] from by unfold opl; rw [h0, hd, h1, h2]; rfl]; exact rreads_xoxo x hv hi h0 hd h1 h2 w
    · rw [show opl x = [x.b, x.c] from by unfold opl; rw [h0, hd, h1, h2]; rfl]; exact rreads_xxxx x hv hi h0 hd h1 h2 w
theorem rwrites_none (x : Cd) (hv : valid x = false) (hi : -32768 ≤ x.i ∧ x.i ≤ 32767) (w : World) :
    Calls Tryd.prog 34 #[cdV x] w fun e w' => ∃ v, e = .returned v ∧ LstI v [] w' ∧ Grew w w' := by
  have HV := Lib.hid hv
  have HI := Lib.hid hi
  clear hv hi
  have HB := Lib.hid (Grew.refl w)
  have tk0 := Lib.hid trivial
  go_enter Tryd.func34, Tryd.ntmps34
  go_wp2_with (first
    | (go_at_call 13; clear tk0; generalize hW : World.alloc _ _ = V; have bx : Blk (w.heap.size) [.int .i64 x.op, .int .i64 x.a, .int .i64 x.b, .int .i64 x.c, .int .i16 x.i] 24 V := (by subst hW; exact Blk.grew (w := (w.alloc (.cells #[.int .i64 x.op, .int .i64 x.a, .int .i64 x.b, .int .i64 x.c, .int .i16 x.i] 24))) (by simpa using Blk.new w [.int .i64 x.op, .int .i64 x.a, .int .i64 x.b, .int .i64 x.c, .int .i16 x.i] 24) (by repeat (first | with_reducible exact Grew.refl _ | with_reducible refine Grew.alloc ?_ _ | with_reducible refine Grew.drw ?_ | with_reducible refine Grew.drwN ?_ _ | with_reducible refine Grew.sc ?_ (by first | omega | (simp <;> omega)) _ _))); replace HB : Hid (Grew w V) := Lib.hid (by subst hW; repeat (first | with_reducible exact HB.out | with_reducible refine Grew.sc ?_ (by first | omega | (simp <;> omega)) _ _ | with_reducible refine Grew.alloc ?_ _ | with_reducible refine Grew.drw ?_ | with_reducible refine Grew.drwN ?_ _)); clear hW; (with_reducible refine (rvalid_is x _ false HV.out HI.out).mono ?_); rintro e w1 ⟨rfl, g1⟩; replace bx := bx.grew g1; replace HB := Lib.hid (HB.out.trans g1); clear g1; have bx0 := bx.cell 0; have bx1 := bx.cell 1; have bx2 := bx.cell 2; have bx3 := bx.cell 3; have bx4 := bx.cell 4; have bxf := bx.free; have bxl := bx.lt; simp only [List.getElem?_cons_zero, List.getElem?_cons_succ] at bx0 bx1 bx2 bx3 bx4 bxl))
  go_ret
  exact ⟨_, rfl, ⟨none, 0, rfl, Rw.nil _ _ _⟩, HB.out⟩
theorem rwrites_off (x : Cd) (hv : valid x = true) (hd : defs x.op = false) (hi : -32768 ≤ x.i ∧ x.i ≤ 32767) (w : World) :
    Calls Tryd.prog 34 #[cdV x] w fun e w' => ∃ v, e = .returned v ∧ LstI v [] w' ∧ Grew w w' := by
  have HV := Lib.hid hv
  have HI := Lib.hid hi
  have HD := Lib.hid hd
  clear hv hi hd
  have HB := Lib.hid (Grew.refl w)
  have tk0 := Lib.hid trivial
  have tk1 := Lib.hid trivial
  go_enter Tryd.func34, Tryd.ntmps34
  go_wp2_with (first
    | (go_at_call 13; clear tk0; generalize hW : World.alloc _ _ = V; have bx : Blk (w.heap.size) [.int .i64 x.op, .int .i64 x.a, .int .i64 x.b, .int .i64 x.c, .int .i16 x.i] 24 V := (by subst hW; exact Blk.grew (w := (w.alloc (.cells #[.int .i64 x.op, .int .i64 x.a, .int .i64 x.b, .int .i64 x.c, .int .i16 x.i] 24))) (by simpa using Blk.new w [.int .i64 x.op, .int .i64 x.a, .int .i64 x.b, .int .i64 x.c, .int .i16 x.i] 24) (by repeat (first | with_reducible exact Grew.refl _ | with_reducible refine Grew.alloc ?_ _ | with_reducible refine Grew.drw ?_ | with_reducible refine Grew.drwN ?_ _ | with_reducible refine Grew.sc ?_ (by first | omega | (simp <;> omega)) _ _))); replace HB : Hid (Grew w V) := Lib.hid (by subst hW; repeat (first | with_reducible exact HB.out | with_reducible refine Grew.sc ?_ (by first | omega | (simp <;> omega)) _ _ | with_reducible refine Grew.alloc ?_ _ | with_reducible refine Grew.drw ?_ | with_reducible refine Grew.drwN ?_ _)); clear hW; (with_reducible refine (rvalid_is x _ true HV.out HI.out).mono ?_); rintro e w1 ⟨rfl, g1⟩; replace bx := bx.grew g1; replace HB := Lib.hid (HB.out.trans g1); clear g1; have bx0 := bx.cell 0; have bx1 := bx.cell 1; have bx2 := bx.cell 2; have bx3 := bx.cell 3; have bx4 := bx.cell 4; have bxf := bx.free; have bxl := bx.lt; simp only [List.getElem?_cons_zero, List.getElem?_cons_succ] at bx0 bx1 bx2 bx3 bx4 bxl)
    | (go_at_call 55; clear tk1; (with_reducible refine (defs_is x.op false HD.out _).mono ?_); rintro e w2 ⟨rfl, g1⟩; clear bx0 bx1 bx2 bx3 bx4 bxf bxl; replace bx := bx.grew g1; replace HB := Lib.hid (HB.out.trans g1); clear g1; have bx0 := bx.cell 0; have bx1 := bx.cell 1; have bx2 := bx.cell 2; have bx3 := bx.cell 3; have bx4 := bx.cell 4; have bxf := bx.free; have bxl := bx.lt; simp only [List.getElem?_cons_zero, List.getElem?_cons_succ] at bx0 bx1 bx2 bx3 bx4 bxl))
  go_ret
  exact ⟨_, rfl, ⟨none, 0, rfl, Rw.nil _ _ _⟩, HB.out⟩
theorem rwrites_on (x : Cd) (hv : valid x = true) (hd : defs x.op = true) (hi : -32768 ≤ x.i ∧ x.i ≤ 32767) (w : World) :
    Calls Tryd.prog 34 #[cdV x] w fun e w' => ∃ v, e = .returned v ∧ LstI v [x.a] w' ∧ Grew w w' := by
  have HV := Lib.hid hv
  have HI := Lib.hid hi
  have HD := Lib.hid hd
  clear hv hi hd
  have HB := Lib.hid (Grew.refl w)
  have tk0 := Lib.hid trivial
  have tk1 := Lib.hid trivial
  go_enter Tryd.func34, Tryd.ntmps34
  go_wp2_with (first
    | (go_at_call 13; clear tk0; generalize hW : World.alloc _ _ = V; have bx : Blk (w.heap.size) [.int .i64 x.op, .int .i64 x.a, .int .i64 x.b, .int .i64 x.c, .int .i16 x.i] 24 V := (by subst hW; exact Blk.grew (w := (w.alloc (.cells #[.int .i64 x.op, .int .i64 x.a, .int .i64 x.b, .int .i64 x.c, .int .i16 x.i] 24))) (by simpa using Blk.new w [.int .i64 x.op, .int .i64 x.a, .int .i64 x.b, .int .i64 x.c, .int .i16 x.i] 24) (by repeat (first | with_reducible exact Grew.refl _ | with_reducible refine Grew.alloc ?_ _ | with_reducible refine Grew.drw ?_ | with_reducible refine Grew.drwN ?_ _ | with_reducible refine Grew.sc ?_ (by first | omega | (simp <;> omega)) _ _))); replace HB : Hid (Grew w V) := Lib.hid (by subst hW; repeat (first | with_reducible exact HB.out | with_reducible refine Grew.sc ?_ (by first | omega | (simp <;> omega)) _ _ | with_reducible refine Grew.alloc ?_ _ | with_reducible refine Grew.drw ?_ | with_reducible refine Grew.drwN ?_ _)); clear hW; (with_reducible refine (rvalid_is x _ true HV.out HI.out).mono ?_); rintro e w1 ⟨rfl, g1⟩; replace bx := bx.grew g1; replace HB := Lib.hid (HB.out.trans g1); clear g1; have bx0 := bx.cell 0; have bx1 := bx.cell 1; have bx2 := bx.cell 2; have bx3 := bx.cell 3; have bx4 := bx.cell 4; have bxf := bx.free; have bxl := bx.lt; simp only [List.getElem?_cons_zero, List.getElem?_cons_succ] at bx0 bx1 bx2 bx3 bx4 bxl)
    | (go_at_call 55; clear tk1; (with_reducible refine (defs_is x.op true HD.out _).mono ?_); rintro e w2 ⟨rfl, g1⟩; clear bx0 bx1 bx2 bx3 bx4 bxf bxl; replace bx := bx.grew g1; replace HB := Lib.hid (HB.out.trans g1); clear g1; have bx0 := bx.cell 0; have bx1 := bx.cell 1; have bx2 := bx.cell 2; have bx3 := bx.cell 3; have bx4 := bx.cell 4; have bxf := bx.free; have bxl := bx.lt; simp only [List.getElem?_cons_zero, List.getElem?_cons_succ] at bx0 bx1 bx2 bx3 bx4 bxl))
  go_ret
  exact ⟨_, rfl, ⟨_, _, rfl, Rw.made encIE _ [x.a] 1 _ _ _ rfl rfl (by decide)⟩, by repeat (first | with_reducible exact HB.out | with_reducible refine Grew.alloc ?_ _ | with_reducible refine Grew.drw ?_ | with_reducible refine Grew.drwN ?_ _ | with_reducible refine Grew.sc ?_ (by first | omega | (simp <;> omega)) _ _)⟩
theorem rwrites_any2 (x : Cd) (hi : -32768 ≤ x.i ∧ x.i ≤ 32767) (w : World) : Calls Tryd.prog 34 #[cdV x] w fun e w' => ∃ v, e = .returned v ∧ LstI v (wrL x) w' ∧ Grew w w' := by
  cases hv : valid x
  · rw [show wrL x = [] from by unfold wrL; rw [hv]; rfl]
    exact rwrites_none x hv hi w
  · cases hd : defs x.op
    · rw [wrL_no x hv hd]; exact rwrites_off x hv hd hi w
    · rw [wrL_yes x hv hd]; exact rwrites_on x hv hd hi w
set_option maxHeartbeats 4000000 in
theorem registers_law (x : Cd) (hi : -32768 ≤ x.i ∧ x.i ≤ 32767) (w : World) (he : Env w) : Calls Tryd.prog 10 #[cdV x] w fun e w' => e = .returned (.bool true) ∧ Grew w w' := by
  have HE := Lib.hid he
  have HI := Lib.hid hi
  clear he hi
  have HB := Lib.hid (Grew.refl w)
  have tk0 := Lib.hid trivial
  go_enter Tryd.func10, Tryd.ntmps10
  go_wp2_with (first
    | (go_at_call 11; clear tk0; generalize hW : World.alloc _ _ = V; have bx : Blk (w.heap.size) [.int .i64 x.op, .int .i64 x.a, .int .i64 x.b, .int .i64 x.c, .int .i16 x.i] 24 V := (by subst hW; exact Blk.grew (w := (w.alloc (.cells #[.int .i64 x.op, .int .i64 x.a, .int .i64 x.b, .int .i64 x.c, .int .i16 x.i] 24))) (by simpa using Blk.new w [.int .i64 x.op, .int .i64 x.a, .int .i64 x.b, .int .i64 x.c, .int .i16 x.i] 24) (by repeat (first | with_reducible exact Grew.refl _ | with_reducible refine Grew.alloc ?_ _ | with_reducible refine Grew.drw ?_ | with_reducible refine Grew.drwN ?_ _ | with_reducible refine Grew.sc ?_ (by first | omega | (simp <;> omega)) _ _))); replace HB : Hid (Grew w V) := Lib.hid (by subst hW; repeat (first | with_reducible exact HB.out | with_reducible refine Grew.sc ?_ (by first | omega | (simp <;> omega)) _ _ | with_reducible refine Grew.alloc ?_ _ | with_reducible refine Grew.drw ?_ | with_reducible refine Grew.drwN ?_ _)); clear hW; (with_reducible refine (wakes_any _ (HE.out.grew HB.out)).mono ?_); rintro e w1 ⟨rfl, g1⟩; replace bx := bx.grew g1; replace HB := Lib.hid (HB.out.trans g1); clear g1; have bx0 := bx.cell 0; have bx1 := bx.cell 1; have bx2 := bx.cell 2; have bx3 := bx.cell 3; have bx4 := bx.cell 4; have bxf := bx.free; have bxl := bx.lt; simp only [List.getElem?_cons_zero, List.getElem?_cons_succ] at bx0 bx1 bx2 bx3 bx4 bxl))
  have HED := (HE.out.grew HB.out).grew (Grew.refl w1).drw
  have c0 : Atv ⟨w.heap.size, 0, none⟩ (.int .i64 x.op) (w1).drew := (bx.grew (Grew.refl _).drw).atv 0 rfl
  have c1 : Atv ⟨w.heap.size, 1, none⟩ (.int .i64 x.a) (w1).drew := (bx.grew (Grew.refl _).drw).atv 1 rfl
  have c2 : Atv ⟨w.heap.size, 2, none⟩ (.int .i64 x.b) (w1).drew := (bx.grew (Grew.refl _).drw).atv 2 rfl
  have c3 : Atv ⟨w.heap.size, 3, none⟩ (.int .i64 x.c) (w1).drew := (bx.grew (Grew.refl _).drw).atv 3 rfl
  have c4 : Atv ⟨w.heap.size, 4, none⟩ (.int .i16 x.i) (w1).drew := (bx.grew (Grew.refl _).drw).atv 4 rfl
  generalize w.heap.size = S0 at c0 c1 c2 c3 c4 ⊢
  clear bx bx0 bx1 bx2 bx3 bx4 bxf bxl
  refine wp_posts [some 5, some 6, some 7, some 8, some 9, some 10, some 11, some 12, some 13, some 14, some 15, some 16, some 2] [false, false, true, false, false, true, true, true, true, true, true, true, true, true, true, true, true] [fun v _ => v = .agg #[.int .i64 (x.op), .int .i64 (x.a), .int .i64 (x.b), .int .i64 (x.c), .int .i16 (x.i)], fun v w => LstI v (rdL x) w, fun v _ => v = .agg #[.int .i64 (x.op), .int .i64 (x.a), .int .i64 (x.b), .int .i64 (x.c), .int .i16 (x.i)], fun v w => LstI v (rdL x) w, fun v _ => v = .bool true, fun v _ => v = .bool (true), fun v _ => v = .agg #[.int .i64 (x.op), .int .i64 (x.a), .int .i64 (x.b), .int .i64 (x.c), .int .i16 (x.i)], fun v w => LstI v (wrL x) w, fun v _ => v = .agg #[.int .i64 (x.op), .int .i64 (x.a), .int .i64 (x.b), .int .i64 (x.c), .int .i16 (x.i)], fun v w => LstI v (wrL x) w, fun v _ => v = .bool true, fun v _ => v = .bool (true), fun v _ => v = .bool (true)] (by kernel_rfl) (by kernel_rfl) rfl ?_ ⟨?_, ?_, ?_, ?_, ?_, ?_, ?_, ?_, ?_, ?_, ?_, ?_, ?_, trivial⟩ ?_
  · exact ⟨fun _ _ _ _ h => h, fun _ _ _ hg h => h.kept hg, fun _ _ _ _ h => h, fun _ _ _ hg h => h.kept hg, fun _ _ _ _ h => h, fun _ _ _ _ h => h, fun _ _ _ _ h => h, fun _ _ _ hg h => h.kept hg, fun _ _ _ _ h => h, fun _ _ _ hg h => h.kept hg, fun _ _ _ _ h => h, fun _ _ _ _ h => h, fun _ _ _ _ h => h, trivial⟩
  · intro u w hR hd; exact rn_ld_24 (ev rfl) (c0.kept hR) (c1.kept hR) (c2.kept hR) (c3.kept hR) (c4.kept hR) ⟨Grew.refl _, rfl⟩
  · intro u w hR hd; exact runs_c1 enters_rd (ev (hd.1 rfl)) (callq (reads_v x _ (HED.grew hR)))
  · intro u w hR hd; exact rn_ld_24 (ev rfl) (c0.kept hR) (c1.kept hR) (c2.kept hR) (c3.kept hR) (c4.kept hR) ⟨Grew.refl _, rfl⟩
  · intro u w hR hd; exact runs_c1 enters_rrd (ev (hd.1 rfl)) (callq (rreads_any x HI.out _))
  · intro u w hR hd; exact runs_c2 enters_same (ev rfl) (ev rfl) (callp (fun _ e => e) (same_v _ _ (rdL x) _ (hd.1 rfl) (hd.2.1 rfl)))
  · intro u w hR hd; exact runs_mv (ev (hd.1 rfl)) ⟨Grew.refl _, rfl⟩
  · intro u w hR hd; exact ⟨fun _ => rn_ld_24 (ev rfl) (c0.kept hR) (c1.kept hR) (c2.kept hR) (c3.kept hR) (c4.kept hR) ⟨Grew.refl _, rfl⟩, fun hn => absurd (hd.1 rfl) hn⟩
  · intro u w hR hd; exact ⟨fun _ => runs_c1 enters_wr (ev (hd.1 rfl)) (callq (writes_v x _ (HED.grew hR))), fun hn => absurd (hd.2.1 rfl) hn⟩
  · intro u w hR hd; exact ⟨fun _ => rn_ld_24 (ev rfl) (c0.kept hR) (c1.kept hR) (c2.kept hR) (c3.kept hR) (c4.kept hR) ⟨Grew.refl _, rfl⟩, fun hn => absurd (hd.1 rfl) hn⟩
  · intro u w hR hd; exact ⟨fun _ => runs_c1 enters_rwr (ev (hd.1 rfl)) (callq (rwrites_any2 x HI.out _)), fun hn => absurd (hd.2.2.1 rfl) hn⟩
  · intro u w hR hd; exact ⟨fun _ => runs_c2 enters_same (ev rfl) (ev rfl) (callp (fun _ e => e) (same_v _ _ (wrL x) _ (hd.1 rfl) (hd.2.1 rfl))), fun hn => absurd (hd.2.2.2.1 rfl) hn⟩
  · intro u w hR hd; exact runs_an (ev (hd.1 rfl)) (fun hb => ev ((hd.2.1 rfl))) ⟨Grew.refl _, rfl⟩
  · intro u w hR hd; exact runs_mva (ev (hd.1 rfl)) ⟨Grew.refl _, rfl⟩
  · intro u w4 hR h
    have he : u 2 = .bool true := h 12 (by decide)
    simp only [mixA, mixL, cond_true, cond_false]
    rw [he]
    clear h he
    go_wp2
    go_ret
    exact ⟨rfl, HB.out.trans ((Grew.refl _).drw.trans hR)⟩
end Go.Proofs.YtddffijipphfeaaDoor
