/-
  LAYER 11 (isa): what the laid variables give; contracts of the small functions.
-/
import Derived.Test.YtbhglpiiabpdjaaDoorRows
import Derived.Test.YtbhglpiiabpdjaaDoorIsaPlain
import Derived.Test.YtbhglpiiabpdjaaDoorRow
import Derived.Test.YtbhglpiiabpdjaaDoorOps
import Derived.LoopTactic
import Derived.Deep.LoopGhost
import Derived.Handy
namespace Go.Proofs.YtbhglpiiabpdjaaDoor
open Go Go.RowKit Go.IntWalk
set_option linter.unusedSimpArgs false
set_option linter.unusedVariables false
set_option maxRecDepth 8000

theorem var?_keep {P : Program} {w w' : World} {n : String} {cs : Array Value} (hb : Below w.heap.size w w') (h : w.var? P n = some cs) : w'.var? P n = some cs := by
  unfold World.var? at h ⊢
  cases hg : P.globalNamed n with
  | none => simp [hg] at h
  | some g =>
    simp only [hg, Option.bind_some] at h ⊢
    have hlt : g < w.heap.size := by
      rcases Nat.lt_or_ge g w.heap.size with h' | h'
      · exact h'
      · simp [Array.getElem?_eq_none h'] at h
    rw [hb.block g hlt]
    exact h
/-- A row of the table as cells. -/
abbrev oprv (o : Opr) : List Value := [.string ⟨o.mn.toArray⟩, .int .u8 o.wr, .int .u8 o.rd, .int .i16 o.lo, .int .i16 o.hi, .bool o.ev]
abbrev oprV (o : Opr) : Value := .agg #[.string ⟨o.mn.toArray⟩, .int .u8 o.wr, .int .u8 o.rd, .int .i16 o.lo, .int .i16 o.hi, .bool o.ev]
theorem encO : Enc 6 oprv := ⟨fun _ => rfl, fun x u hu => by simp at hu; rcases hu with rfl | rfl | rfl | rfl | rfl | rfl <;> rfl, by decide⟩
def opsCells : List Value := flatL oprv oprs
/-- The table of the operations, as the program's initialisers lay them. -/
structure Env (w : World) : Prop where
  ops : w.var? Tryd.prog "trickle/isa.operations" = some opsCells.toArray
theorem Env.grew {w w' : World} (h : Env w) (hb : Grew w w') : Env w' := ⟨var?_keep hb h.ops⟩
theorem Env.cell {w : World} (h : Env w) (k : Nat) (hk : k < 31) (j : Nat) {v : Value} (hv : (oprv (opr (k : Int)))[j]? = some v) : w.cell? ⟨1, k * 6 + j, none⟩ = some v := by
  have h1 := World.var?_cell (show Tryd.prog.globalNamed "trickle/isa.operations" = some 1 by kernel_rfl) h.ops (k * 6 + j)
  rw [h1]
  have h2 : oprs[k]? = some (opr (k : Int)) := by
    have hl : k < oprs.length := hk
    unfold opr
    simp only [Int.toNat_natCast, List.getD, List.getElem?_eq_getElem hl, Option.getD_some]
  have h3 := flatL_get encO h2 hv
  simpa [opsCells] using h3
section
variable {dst : Option Tmp} {ty : TypeId} {pos : String} {after : Array Edge} {g : Option (Nat × Bool)} {a : Act} {w : World} {T : Value → World → Prop}
theorem rn_ret_c101 {fn : Func} {p0 : Tmp} (h : fn.results = #[.cell p0 101]) {tmps : Array Value} {w : World} {S0 : Nat} {v0_0 v0_1 v0_2 v0_3 v0_4 v0_5 : Value} {R : Ending → World → Prop} (hp0 : tmps.getD p0 undef = .pointer (some ⟨S0, 0, none⟩)) (h0_0 : w.cell? ⟨S0, 0, none⟩ = some v0_0) (h0_1 : w.cell? ⟨S0, 1, none⟩ = some v0_1) (h0_2 : w.cell? ⟨S0, 2, none⟩ = some v0_2) (h0_3 : w.cell? ⟨S0, 3, none⟩ = some v0_3) (h0_4 : w.cell? ⟨S0, 4, none⟩ = some v0_4) (h0_5 : w.cell? ⟨S0, 5, none⟩ = some v0_5) (hR : R (.returned (.agg #[v0_0, v0_1, v0_2, v0_3, v0_4, v0_5])) w) : bodyPost Tryd.prog fn R .ret { tmps := tmps, defers := [] } w := by
  refine bodyPost_ret (v := .agg #[v0_0, v0_1, v0_2, v0_3, v0_4, v0_5]) ?_ rfl hR
  rw [Array.getD_eq_getD_getElem?] at hp0
  simp [results, h, hp0, h0_0, h0_1, h0_2, h0_3, h0_4, h0_5, go_sem]
theorem rn_ret_c103 {fn : Func} {p0 : Tmp} (h : fn.results = #[.cell p0 103]) {tmps : Array Value} {w : World} {S0 : Nat} {v0_0 v0_1 v0_2 : Value} {R : Ending → World → Prop} (hp0 : tmps.getD p0 undef = .pointer (some ⟨S0, 0, none⟩)) (h0_0 : w.cell? ⟨S0, 0, none⟩ = some v0_0) (h0_1 : w.cell? ⟨S0, 1, none⟩ = some v0_1) (h0_2 : w.cell? ⟨S0, 2, none⟩ = some v0_2) (hR : R (.returned (.agg #[v0_0, v0_1, v0_2])) w) : bodyPost Tryd.prog fn R .ret { tmps := tmps, defers := [] } w := by
  refine bodyPost_ret (v := .agg #[v0_0, v0_1, v0_2]) ?_ rfl hR
  rw [Array.getD_eq_getD_getElem?] at hp0
  simp [results, h, hp0, h0_0, h0_1, h0_2, go_sem]
end

theorem operationOf_in (k : Nat) (hk : k < 31) (w : World) (hE : Env w) :
    Calls Tryd.prog 46 #[.int .i64 (k : Int)] w fun e w' => e = .returned (oprV (opr (k : Int))) ∧ Grew w w' := by
  have h0 : w.cell? ⟨1, k * 6, none⟩ = _ := hE.cell k hk 0 rfl
  have h1 := hE.cell k hk 1 rfl
  have h2 := hE.cell k hk 2 rfl
  have h3 := hE.cell k hk 3 rfl
  have h4 := hE.cell k hk 4 rfl
  have h5 := hE.cell k hk 5 rfl
  have b0 : ¬ (k : Int) < 0 := by omega
  have b1 : ¬ (31 : Int) ≤ (k : Int) := by omega
  have b2 : 1 < w.heap.size := World.block_lt_of_cell? _ _ h0
  clear hE
  go_enter Tryd.func46, Tryd.ntmps46
  go_wp2
  refine rn_ret_c101 Tryd.results46 (S0 := w.heap.size) (v0_0 := .string ⟨(opr (k : Int)).mn.toArray⟩) (v0_1 := .int .u8 (opr (k : Int)).wr) (v0_2 := .int .u8 (opr (k : Int)).rd) (v0_3 := .int .i16 (opr (k : Int)).lo) (v0_4 := .int .i16 (opr (k : Int)).hi) (v0_5 := .bool (opr (k : Int)).ev) rfl (by go_simp) (by go_simp) (by go_simp) (by go_simp) (by go_simp) (by go_simp) ⟨?_, ?_⟩
  · rfl
  · exact (Grew.refl _).alloc _
theorem operationOf_out (op : Int) (ho : op < 0 ∨ 31 ≤ op) (w : World) :
    Calls Tryd.prog 46 #[.int .i64 op] w fun e w' => e = .returned (oprV (opr op)) ∧ Grew w w' := by
  rw [opr_out ho]
  have HO := Lib.hid ho
  by_cases h0 : op < 0
  · have h1 := h0
    clear ho
    go_enter Tryd.func46, Tryd.ntmps46
    go_wp2
    refine rn_ret_c101 Tryd.results46 (S0 := w.heap.size) (v0_0 := .string ⟨#[]⟩) (v0_1 := .int .u8 0) (v0_2 := .int .u8 0) (v0_3 := .int .i16 0) (v0_4 := .int .i16 0) (v0_5 := .bool false) rfl (by go_simp) (by go_simp) (by go_simp) (by go_simp) (by go_simp) (by go_simp) ⟨?_, ?_⟩
    · rfl
    · exact (Grew.refl _).alloc _
  · have h1 : 31 ≤ op := by omega
    clear ho
    go_enter Tryd.func46, Tryd.ntmps46
    go_wp2
    refine rn_ret_c101 Tryd.results46 (S0 := w.heap.size) (v0_0 := .string ⟨#[]⟩) (v0_1 := .int .u8 0) (v0_2 := .int .u8 0) (v0_3 := .int .i16 0) (v0_4 := .int .i16 0) (v0_5 := .bool false) rfl (by go_simp) (by go_simp) (by go_simp) (by go_simp) (by go_simp) (by go_simp) ⟨?_, ?_⟩
    · rfl
    · exact (Grew.refl _).alloc _
/-- operationOf. -/
theorem operationOf_any (op : Int) (w : World) (hE : Env w) :
    Calls Tryd.prog 46 #[.int .i64 op] w fun e w' => e = .returned (oprV (opr op)) ∧ Grew w w' := by
  rcases op_cases op with h | ⟨k, rfl⟩
  · exact operationOf_out op h w
  · exact operationOf_in k.val k.isLt w hE
theorem or_tab : ∀ x y : Fin 8, Go.bits BinOp.or IntKind.u8 (x.val : Int) (y.val : Int) = ((x.val ||| y.val : Nat) : Int) := by decide
theorem and_tab : ∀ (f : Fin 8) (i : Fin 3), (Go.bits BinOp.and IntKind.u8 ((f.val : Int) / 2 ^ i.val) 1 == 1) = bit f.val i.val := by decide
theorem registers_raw (o : Opr) (h1 : o.wr ≤ 7) (h2 : o.rd ≤ 7) (w : World) :
    Calls Tryd.prog 48 #[oprV o] w fun e w' => e = .returned (.int .u8 (o.wr ||| o.rd : Nat)) ∧ Grew w w' := by
  have H := Lib.hid (or_tab ⟨o.wr, by omega⟩ ⟨o.rd, by omega⟩)
  go_enter Tryd.func48, Tryd.ntmps48
  go_wp2
  go_ret
  exact ⟨congrArg (fun z => Ending.returned (.int .u8 z)) H.out, (Grew.refl _).alloc _⟩
theorem contains_raw (f i : Nat) (hf : f ≤ 7) (hi : i ≤ 2) (w : World) :
    Calls Tryd.prog 49 #[.int .u8 f, .int .i64 i] w fun e w' => e = .returned (.bool (bit f i)) ∧ Grew w w' := by
  have H := Lib.hid (and_tab ⟨f, by omega⟩ ⟨i, by omega⟩)
  go_enter Tryd.func49, Tryd.ntmps49
  go_wp2
  go_ret
  exact ⟨ret_bool H.out, Grew.refl _⟩
theorem registers_any (op : Int) (w : World) :
    Calls Tryd.prog 48 #[oprV (opr op)] w fun e w' => e = .returned (.int .u8 (regs op : Nat)) ∧ Grew w w' := registers_raw (opr op) (bits op).1 (bits op).2.1 w
theorem contains_any (op : Int) (i : Nat) (hi : i ≤ 2) (w : World) :
    Calls Tryd.prog 49 #[.int .u8 (regs op : Nat), .int .i64 i] w fun e w' => e = .returned (.bool (hasR op i)) ∧ Grew w w' := contains_raw (regs op) i (bits op).2.2 hi w
theorem contains0 (op : Int) (w : World) : Calls Tryd.prog 49 #[.int .u8 (regs op : Nat), .int .i64 0] w fun e w' => e = .returned (.bool (hasR op 0)) ∧ Grew w w' := contains_any op 0 (by omega) w
theorem contains1 (op : Int) (w : World) : Calls Tryd.prog 49 #[.int .u8 (regs op : Nat), .int .i64 1] w fun e w' => e = .returned (.bool (hasR op 1)) ∧ Grew w w' := contains_any op 1 (by omega) w
theorem contains2 (op : Int) (w : World) : Calls Tryd.prog 49 #[.int .u8 (regs op : Nat), .int .i64 2] w fun e w' => e = .returned (.bool (hasR op 2)) ∧ Grew w w' := contains_any op 2 (by omega) w
/-- A code as cells. -/
abbrev cdv (x : Cd) : List Value := [.int .i64 x.op, .int .i64 x.a, .int .i64 x.b, .int .i64 x.c, .int .i16 x.i]
abbrev cdV (x : Cd) : Value := .agg #[.int .i64 x.op, .int .i64 x.a, .int .i64 x.b, .int .i64 x.c, .int .i16 x.i]
theorem index0 (a b c : Int) (W : World) : Sem.run Tryd.prog (Instr.index 103 (.agg #[.int .i64 a, .int .i64 b, .int .i64 c]) (.int .i64 0)) W = .ok (.int .i64 a) W := by kernel_rfl
theorem index1 (a b c : Int) (W : World) : Sem.run Tryd.prog (Instr.index 103 (.agg #[.int .i64 a, .int .i64 b, .int .i64 c]) (.int .i64 1)) W = .ok (.int .i64 b) W := by kernel_rfl
theorem index2 (a b c : Int) (W : World) : Sem.run Tryd.prog (Instr.index 103 (.agg #[.int .i64 a, .int .i64 b, .int .i64 c]) (.int .i64 2)) W = .ok (.int .i64 c) W := by kernel_rfl
theorem registersOf_any (x : Cd) (w : World) :
    Calls Tryd.prog 47 #[cdV x] w fun e w' => e = .returned (.agg #[.int .i64 x.a, .int .i64 x.b, .int .i64 x.c]) ∧ Grew w w' := by
  go_enter Tryd.func47, Tryd.ntmps47
  go_wp2
  refine rn_ret_c103 Tryd.results47 (S0 := (w.heap.size + 1)) (v0_0 := .int .i64 x.a) (v0_1 := .int .i64 x.b) (v0_2 := .int .i64 x.c) rfl (by go_simp) (by go_simp) (by go_simp) ⟨?_, ?_⟩
  · rfl
  · exact ((Grew.refl _).alloc _).alloc _
end Go.Proofs.YtbhglpiiabpdjaaDoor
