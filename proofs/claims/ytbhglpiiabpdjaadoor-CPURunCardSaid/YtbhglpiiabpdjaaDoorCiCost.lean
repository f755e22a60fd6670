/-
  LAYER 11 (isa): costOf, Energy, Ticks, NVMWrites.
-/
import Derived.Test.YtbhglpiiabpdjaaDoorCiRef
namespace Go.Proofs.YtbhglpiiabpdjaaDoor
open Go Go.RowKit Go.IntWalk
set_option linter.unusedSimpArgs false
set_option linter.unusedVariables false
set_option maxRecDepth 8000
section
variable {dst : Option Tmp} {ty : TypeId} {pos : String} {after : Array Edge} {g : Option (Nat × Bool)} {a : Act} {w : World} {T : Value → World → Prop}
theorem rn_ret_c119 {fn : Func} {p0 : Tmp} (h : fn.results = #[.cell p0 119]) {tmps : Array Value} {w : World} {S0 : Nat} {v0_0 v0_1 v0_2 : Value} {R : Ending → World → Prop} (hp0 : tmps.getD p0 undef = .pointer (some ⟨S0, 0, none⟩)) (h0_0 : w.cell? ⟨S0, 0, none⟩ = some v0_0) (h0_1 : w.cell? ⟨S0, 1, none⟩ = some v0_1) (h0_2 : w.cell? ⟨S0, 2, none⟩ = some v0_2) (hR : R (.returned (.agg #[v0_0, v0_1, v0_2])) w) : bodyPost Tryd.prog fn R .ret { tmps := tmps, defers := [] } w := by
  refine bodyPost_ret (v := .agg #[v0_0, v0_1, v0_2]) ?_ rfl hR
  rw [Array.getD_eq_getD_getElem?] at hp0
  simp [results, h, hp0, h0_0, h0_1, h0_2, go_sem]
end
abbrev cstv (c : Int × Int × Int) : List Value := [.int .i64 c.1, .int .i64 c.2.1, .int .i64 c.2.2]
abbrev cstV (c : Int × Int × Int) : Value := .agg #[.int .i64 c.1, .int .i64 c.2.1, .int .i64 c.2.2]
theorem encC : Enc 3 cstv := ⟨fun _ => rfl, fun x u hu => by simp at hu; rcases hu with rfl | rfl | rfl <;> rfl, by decide⟩
def cstCells : List Value := flatL cstv csts
/-- The table of the costs, as the program's initialiser lays it. -/
structure EnvC (w : World) : Prop where
  tab : w.var? Tryd.prog "trickle/isa.costs" = some cstCells.toArray
theorem EnvC.grew {w w' : World} (h : EnvC w) (hb : Grew w w') : EnvC w' := ⟨var?_keep hb h.tab⟩
theorem EnvC.cell {w : World} (h : EnvC w) (k : Nat) (hk : k < 31) (j : Nat) {v : Value} (hv : (cstv (cst (k : Int)))[j]? = some v) : w.cell? ⟨2, k * 3 + j, none⟩ = some v := by
  have h1 := World.var?_cell (show Tryd.prog.globalNamed "trickle/isa.costs" = some 2 by kernel_rfl) h.tab (k * 3 + j)
  rw [h1]
  have h2 : csts[k]? = some (cst (k : Int)) := by
    have hl : k < csts.length := hk
    unfold cst
    simp only [Int.toNat_natCast, List.getD, List.getElem?_eq_getElem hl, Option.getD_some]
  have h3 := flatL_get encC h2 hv
  simpa [cstCells] using h3
theorem costOf_in (k : Nat) (hk : k < 31) (w : World) (hE : EnvC w) :
    Calls Tryd.prog 67 #[.int .i64 (k : Int)] w fun e w' => e = .returned (cstV (cst (k : Int))) ∧ Grew w w' := by
  have h0 : w.cell? ⟨2, k * 3, none⟩ = _ := hE.cell k hk 0 rfl
  have h1 := hE.cell k hk 1 rfl
  have h2 := hE.cell k hk 2 rfl
  have b0 : ¬ (k : Int) < 0 := by omega
  have b1 : ¬ (31 : Int) ≤ (k : Int) := by omega
  have b2 : 2 < w.heap.size := World.block_lt_of_cell? _ _ h0
  clear hE
  go_enter Tryd.func67, Tryd.ntmps67
  go_wp2
  refine rn_ret_c119 Tryd.results67 (S0 := w.heap.size) (v0_0 := .int .i64 (cst (k : Int)).1) (v0_1 := .int .i64 (cst (k : Int)).2.1) (v0_2 := .int .i64 (cst (k : Int)).2.2) rfl (by go_simp) (by go_simp) (by go_simp) ⟨?_, ?_⟩
  · rfl
  · exact (Grew.refl _).alloc _
theorem costOf_out (op : Int) (ho : op < 0 ∨ 31 ≤ op) (w : World) :
    Calls Tryd.prog 67 #[.int .i64 op] w fun e w' => e = .returned (cstV (cst op)) ∧ Grew w w' := by
  rw [cst_out ho]
  by_cases h0 : op < 0
  · have h1 := h0
    clear ho
    go_enter Tryd.func67, Tryd.ntmps67
    go_wp2
    refine rn_ret_c119 Tryd.results67 (S0 := w.heap.size) (v0_0 := .int .i64 0) (v0_1 := .int .i64 0) (v0_2 := .int .i64 0) rfl (by go_simp) (by go_simp) (by go_simp) ⟨?_, ?_⟩
    · rfl
    · exact (Grew.refl _).alloc _
  · have h1 : 31 ≤ op := by omega
    clear ho
    go_enter Tryd.func67, Tryd.ntmps67
    go_wp2
    refine rn_ret_c119 Tryd.results67 (S0 := w.heap.size) (v0_0 := .int .i64 0) (v0_1 := .int .i64 0) (v0_2 := .int .i64 0) rfl (by go_simp) (by go_simp) (by go_simp) ⟨?_, ?_⟩
    · rfl
    · exact (Grew.refl _).alloc _
theorem costOf_any (op : Int) (w : World) (hE : EnvC w) :
    Calls Tryd.prog 67 #[.int .i64 op] w fun e w' => e = .returned (cstV (cst op)) ∧ Grew w w' := by
  rcases op_cases op with h | ⟨k, rfl⟩
  · exact costOf_out op h w
  · exact costOf_in k.val k.isLt w hE
theorem energy_any (op : Int) (w : World) (hE : EnvC w) : Calls Tryd.prog 53 #[.int .i64 op] w fun e w' => e = .returned (.int .i64 (cst op).1) ∧ Grew w w' := by
  have HE := Lib.hid hE
  have hfd : ∀ W : World, Sem.run Tryd.prog (Instr.field 119 (cstV (cst op)) 0) W = .ok (.int .i64 (cst op).1) W := fun W => by kernel_rfl
  clear hE
  go_enter Tryd.func53, Tryd.ntmps53
  go_wp2_with (go_at_call 67; (with_reducible refine (costOf_any op _ HE.out).mono ?_); rintro e w1 ⟨rfl, g1⟩; have HB := Lib.hid g1; clear g1)
  go_ret
  exact ⟨rfl, HB.out⟩
theorem ticks_any (op : Int) (w : World) (hE : EnvC w) : Calls Tryd.prog 55 #[.int .i64 op] w fun e w' => e = .returned (.int .i64 (cst op).2.1) ∧ Grew w w' := by
  have HE := Lib.hid hE
  have hfd : ∀ W : World, Sem.run Tryd.prog (Instr.field 119 (cstV (cst op)) 1) W = .ok (.int .i64 (cst op).2.1) W := fun W => by kernel_rfl
  clear hE
  go_enter Tryd.func55, Tryd.ntmps55
  go_wp2_with (go_at_call 67; (with_reducible refine (costOf_any op _ HE.out).mono ?_); rintro e w1 ⟨rfl, g1⟩; have HB := Lib.hid g1; clear g1)
  go_ret
  exact ⟨rfl, HB.out⟩
theorem writes_any (op : Int) (w : World) (hE : EnvC w) : Calls Tryd.prog 54 #[.int .i64 op] w fun e w' => e = .returned (.int .i64 (cst op).2.2) ∧ Grew w w' := by
  have HE := Lib.hid hE
  have hfd : ∀ W : World, Sem.run Tryd.prog (Instr.field 119 (cstV (cst op)) 2) W = .ok (.int .i64 (cst op).2.2) W := fun W => by kernel_rfl
  clear hE
  go_enter Tryd.func54, Tryd.ntmps54
  go_wp2_with (go_at_call 67; (with_reducible refine (costOf_any op _ HE.out).mono ?_); rintro e w1 ⟨rfl, g1⟩; have HB := Lib.hid g1; clear g1)
  go_ret
  exact ⟨rfl, HB.out⟩
end Go.Proofs.YtbhglpiiabpdjaaDoor
