/-
  THE OPERATIONS OF A REGION BY POSTS, FOR LAYER 8 (capacitor).
-/
import Derived.Test.YtjepjcdobgdacaaCapAwake
namespace Go.Proofs.Ytjepjcdobgdacaa
open Go Go.RowKit Go.IntWalk
set_option linter.unusedSimpArgs false
set_option maxRecDepth 8000

/-- The cell at q holds v. -/
def Atv (q : Addr) (v : Value) (w : World) : Prop := w.cell? q = some v
theorem Atv.kept {R : World → World → Prop} [Keeps R] {q : Addr} {v : Value} {w w' : World} (h : Atv q v w) (hg : R w w') : w'.cell? q = some v :=
  (Below.cell (Keeps.grew hg) (p := q) (World.block_lt_of_cell? _ _ h)).trans h
theorem CapB.at {R : World → World → Prop} [Keeps R] {b : Nat} {x : Cp} {rest : List Value} {e : TypeId} {w w' : World} (h : CapB b x rest e w) (hg : R w w') : CapB b x rest e w' := h.grew (Keeps.grew hg)
section
variable {dst : Option Tmp} {ty : TypeId} {pos : String} {after : Array Edge} {g : Option (Nat × Bool)} {a : Act} {w : World} {T : Value → World → Prop}
theorem runs_leq3 {o1 o2 : Operand} {b c : Int} (hx : a.eval o1 = .int .i64 b) (hy : a.eval o2 = .int .i64 c) (h : T (.bool (decide (b ≤ c))) w) : Runs Try.prog ⟨dst, .binOp .leq 3 o1 o2 3, ty, pos, after, g⟩ a w T := by
  refine Runs.value (v := .bool (decide (b ≤ c))) (w' := w) ?_ h
  simp only [execOp, hx, hy]
  go_simp
theorem runs_lss3 {o1 o2 : Operand} {b c : Int} (hx : a.eval o1 = .int .i64 b) (hy : a.eval o2 = .int .i64 c) (h : T (.bool (decide (b < c))) w) : Runs Try.prog ⟨dst, .binOp .lss 3 o1 o2 3, ty, pos, after, g⟩ a w T := by
  refine Runs.value (v := .bool (decide (b < c))) (w' := w) ?_ h
  simp only [execOp, hx, hy]
  go_simp
theorem runs_geq3 {o1 o2 : Operand} {b c : Int} (hx : a.eval o1 = .int .i64 b) (hy : a.eval o2 = .int .i64 c) (h : T (.bool (decide (c ≤ b))) w) : Runs Try.prog ⟨dst, .binOp .geq 3 o1 o2 3, ty, pos, after, g⟩ a w T := by
  refine Runs.value (v := .bool (decide (c ≤ b))) (w' := w) ?_ h
  simp only [execOp, hx, hy]
  go_simp
theorem runs_gtr3 {o1 o2 : Operand} {b c : Int} (hx : a.eval o1 = .int .i64 b) (hy : a.eval o2 = .int .i64 c) (h : T (.bool (decide (c < b))) w) : Runs Try.prog ⟨dst, .binOp .gtr 3 o1 o2 3, ty, pos, after, g⟩ a w T := by
  refine Runs.value (v := .bool (decide (c < b))) (w' := w) ?_ h
  simp only [execOp, hx, hy]
  go_simp
theorem runs_neq3 {o1 o2 : Operand} {b c : Int} (hx : a.eval o1 = .int .i64 b) (hy : a.eval o2 = .int .i64 c) (h : T (.bool (b != c)) w) : Runs Try.prog ⟨dst, .binOp .neq 3 o1 o2 3, ty, pos, after, g⟩ a w T := by
  refine Runs.value (v := .bool (b != c)) (w' := w) ?_ h
  simp only [execOp, hx, hy]
  go_simp
theorem runs_eql3 {o1 o2 : Operand} {b c : Int} (hx : a.eval o1 = .int .i64 b) (hy : a.eval o2 = .int .i64 c) (h : T (.bool (b == c)) w) : Runs Try.prog ⟨dst, .binOp .eql 3 o1 o2 3, ty, pos, after, g⟩ a w T := by
  refine Runs.value (v := .bool (b == c)) (w' := w) ?_ h
  simp only [execOp, hx, hy]
  go_simp
theorem runs_ld3 {o : Operand} {q : Addr} {z : Int} (hx : a.eval o = .pointer (some q)) (hc : w.cell? q = some (.int .i64 z)) (h : T (.int .i64 z) w) : Runs Try.prog ⟨dst, .load 3 o, ty, pos, after, g⟩ a w T := by
  refine Runs.value (v := .int .i64 z) (w' := w) ?_ h
  simp only [execOp, hx]
  go_simp
theorem runs_leq2 {o1 o2 : Operand} {b c : Int} (hx : a.eval o1 = .int .i64 b) (hy : a.eval o2 = .int .i64 c) (h : T (.bool (decide (b ≤ c))) w) : Runs Try.prog ⟨dst, .binOp .leq 2 o1 o2 2, ty, pos, after, g⟩ a w T := by
  refine Runs.value (v := .bool (decide (b ≤ c))) (w' := w) ?_ h
  simp only [execOp, hx, hy]
  go_simp
theorem runs_lss2 {o1 o2 : Operand} {b c : Int} (hx : a.eval o1 = .int .i64 b) (hy : a.eval o2 = .int .i64 c) (h : T (.bool (decide (b < c))) w) : Runs Try.prog ⟨dst, .binOp .lss 2 o1 o2 2, ty, pos, after, g⟩ a w T := by
  refine Runs.value (v := .bool (decide (b < c))) (w' := w) ?_ h
  simp only [execOp, hx, hy]
  go_simp
theorem runs_geq2 {o1 o2 : Operand} {b c : Int} (hx : a.eval o1 = .int .i64 b) (hy : a.eval o2 = .int .i64 c) (h : T (.bool (decide (c ≤ b))) w) : Runs Try.prog ⟨dst, .binOp .geq 2 o1 o2 2, ty, pos, after, g⟩ a w T := by
  refine Runs.value (v := .bool (decide (c ≤ b))) (w' := w) ?_ h
  simp only [execOp, hx, hy]
  go_simp
theorem runs_gtr2 {o1 o2 : Operand} {b c : Int} (hx : a.eval o1 = .int .i64 b) (hy : a.eval o2 = .int .i64 c) (h : T (.bool (decide (c < b))) w) : Runs Try.prog ⟨dst, .binOp .gtr 2 o1 o2 2, ty, pos, after, g⟩ a w T := by
  refine Runs.value (v := .bool (decide (c < b))) (w' := w) ?_ h
  simp only [execOp, hx, hy]
  go_simp
theorem runs_neq2 {o1 o2 : Operand} {b c : Int} (hx : a.eval o1 = .int .i64 b) (hy : a.eval o2 = .int .i64 c) (h : T (.bool (b != c)) w) : Runs Try.prog ⟨dst, .binOp .neq 2 o1 o2 2, ty, pos, after, g⟩ a w T := by
  refine Runs.value (v := .bool (b != c)) (w' := w) ?_ h
  simp only [execOp, hx, hy]
  go_simp
theorem runs_eql2 {o1 o2 : Operand} {b c : Int} (hx : a.eval o1 = .int .i64 b) (hy : a.eval o2 = .int .i64 c) (h : T (.bool (b == c)) w) : Runs Try.prog ⟨dst, .binOp .eql 2 o1 o2 2, ty, pos, after, g⟩ a w T := by
  refine Runs.value (v := .bool (b == c)) (w' := w) ?_ h
  simp only [execOp, hx, hy]
  go_simp
theorem runs_ld2 {o : Operand} {q : Addr} {z : Int} (hx : a.eval o = .pointer (some q)) (hc : w.cell? q = some (.int .i64 z)) (h : T (.int .i64 z) w) : Runs Try.prog ⟨dst, .load 2 o, ty, pos, after, g⟩ a w T := by
  refine Runs.value (v := .int .i64 z) (w' := w) ?_ h
  simp only [execOp, hx]
  go_simp
theorem runs_neq27 {o1 o2 : Operand} {b c : Int} (hx : a.eval o1 = .int .i64 b) (hy : a.eval o2 = .int .i64 c) (h : T (.bool (b != c)) w) : Runs Try.prog ⟨dst, .binOp .neq 27 o1 o2 27, ty, pos, after, g⟩ a w T := by
  refine Runs.value (v := .bool (b != c)) (w' := w) ?_ h
  simp only [execOp, hx, hy]
  go_simp
theorem runs_eql27 {o1 o2 : Operand} {b c : Int} (hx : a.eval o1 = .int .i64 b) (hy : a.eval o2 = .int .i64 c) (h : T (.bool (b == c)) w) : Runs Try.prog ⟨dst, .binOp .eql 27 o1 o2 27, ty, pos, after, g⟩ a w T := by
  refine Runs.value (v := .bool (b == c)) (w' := w) ?_ h
  simp only [execOp, hx, hy]
  go_simp
theorem runs_neq4 {o1 o2 : Operand} {b c : Bool} (hx : a.eval o1 = .bool b) (hy : a.eval o2 = .bool c) (h : T (.bool (b != c)) w) : Runs Try.prog ⟨dst, .binOp .neq 4 o1 o2 4, ty, pos, after, g⟩ a w T := by
  refine Runs.value (v := .bool (b != c)) (w' := w) ?_ h
  simp only [execOp, hx, hy]
  go_simp
  cases b <;> cases c <;> rfl
theorem runs_ld4 {o : Operand} {q : Addr} {z : Bool} (hx : a.eval o = .pointer (some q)) (hc : w.cell? q = some (.bool z)) (h : T (.bool z) w) : Runs Try.prog ⟨dst, .load 4 o, ty, pos, after, g⟩ a w T := by
  refine Runs.value (v := .bool z) (w' := w) ?_ h
  simp only [execOp, hx]
  go_simp
theorem runs_fld23_0 {o : Operand} {S : Nat} (hx : a.eval o = .pointer (some ⟨S, 0, none⟩)) (h : T (.pointer (some ⟨S, 0, none⟩)) w) : Runs Try.prog ⟨dst, .fieldAddr 23 o 0, ty, pos, after, g⟩ a w T := by
  refine Runs.value (v := .pointer (some ⟨S, 0, none⟩)) (w' := w) ?_ h
  simp only [execOp, hx]
  go_simp
theorem runs_fld23_1 {o : Operand} {S : Nat} (hx : a.eval o = .pointer (some ⟨S, 0, none⟩)) (h : T (.pointer (some ⟨S, 1, none⟩)) w) : Runs Try.prog ⟨dst, .fieldAddr 23 o 1, ty, pos, after, g⟩ a w T := by
  refine Runs.value (v := .pointer (some ⟨S, 1, none⟩)) (w' := w) ?_ h
  simp only [execOp, hx]
  go_simp
theorem runs_fld23_2 {o : Operand} {S : Nat} (hx : a.eval o = .pointer (some ⟨S, 0, none⟩)) (h : T (.pointer (some ⟨S, 2, none⟩)) w) : Runs Try.prog ⟨dst, .fieldAddr 23 o 2, ty, pos, after, g⟩ a w T := by
  refine Runs.value (v := .pointer (some ⟨S, 2, none⟩)) (w' := w) ?_ h
  simp only [execOp, hx]
  go_simp
theorem runs_fld34_0 {o : Operand} {S : Nat} (hx : a.eval o = .pointer (some ⟨S, 0, none⟩)) (h : T (.pointer (some ⟨S, 0, none⟩)) w) : Runs Try.prog ⟨dst, .fieldAddr 34 o 0, ty, pos, after, g⟩ a w T := by
  refine Runs.value (v := .pointer (some ⟨S, 0, none⟩)) (w' := w) ?_ h
  simp only [execOp, hx]
  go_simp
theorem runs_fld34_1 {o : Operand} {S : Nat} (hx : a.eval o = .pointer (some ⟨S, 0, none⟩)) (h : T (.pointer (some ⟨S, 3, none⟩)) w) : Runs Try.prog ⟨dst, .fieldAddr 34 o 1, ty, pos, after, g⟩ a w T := by
  refine Runs.value (v := .pointer (some ⟨S, 3, none⟩)) (w' := w) ?_ h
  simp only [execOp, hx]
  go_simp
theorem runs_fld34_2 {o : Operand} {S : Nat} (hx : a.eval o = .pointer (some ⟨S, 0, none⟩)) (h : T (.pointer (some ⟨S, 4, none⟩)) w) : Runs Try.prog ⟨dst, .fieldAddr 34 o 2, ty, pos, after, g⟩ a w T := by
  refine Runs.value (v := .pointer (some ⟨S, 4, none⟩)) (w' := w) ?_ h
  simp only [execOp, hx]
  go_simp
end
theorem enters_running : Enters Try.prog 20 := fun args w => by go_simp
theorem enters_charge : Enters Try.prog 19 := fun args w => by go_simp
theorem running_st (b : Nat) (x : Cp) (rest : List Value) (e : TypeId) (w : World) (h : CapB b x rest e w) : Calls Try.prog 20 #[.pointer (some ⟨b, 0, none⟩)] w fun e w' => e = .returned (.bool x.r) ∧ Still w w' := (running_any b x rest e w h).mono fun _ _ h => ⟨h.1, h.2.symm⟩
theorem charge_st (b : Nat) (x : Cp) (rest : List Value) (e : TypeId) (w : World) (h : CapB b x rest e w) : Calls Try.prog 19 #[.pointer (some ⟨b, 0, none⟩)] w fun e w' => e = .returned (.int .i64 x.q) ∧ Still w w' := (charge_any b x rest e w h).mono fun _ _ h => ⟨h.1, h.2.symm⟩
end Go.Proofs.Ytjepjcdobgdacaa
