/-
  THE OPERATIONS OF A REGION BY POSTS, FOR LAYER 7 (nvm): numbers, comparisons, cells.
-/
import Derived.Test.YtmfahmbebpojpaaNvOps
namespace Go.Proofs.Ytmfahmbebpojpaa
open Go Go.RowKit Go.IntWalk
set_option maxRecDepth 8000
set_option linter.unusedSimpArgs false

section
variable {dst : Option Tmp} {ty : TypeId} {pos : String} {after : Array Edge} {g : Option (Nat × Bool)} {a : Act} {w : World} {T : Value → World → Prop}
theorem runs_ldi {o : Operand} {q : Addr} {z : Int} (hx : a.eval o = .pointer (some q)) (hc : w.cell? q = some (.int .i64 z)) (h : T (.int .i64 z) w) : Runs Try.prog ⟨dst, .load 3 o, ty, pos, after, g⟩ a w T := by
  refine Runs.value (v := .int .i64 z) (w' := w) ?_ h
  simp only [execOp, hx]
  go_simp
theorem runs_leqi {o1 o2 : Operand} {b c : Int} (hx : a.eval o1 = .int .i64 b) (hy : a.eval o2 = .int .i64 c) (h : T (.bool (decide (b ≤ c))) w) : Runs Try.prog ⟨dst, .binOp .leq 3 o1 o2 3, ty, pos, after, g⟩ a w T := by
  refine Runs.value (v := .bool (decide (b ≤ c))) (w' := w) ?_ h
  simp only [execOp, hx, hy]
  go_simp
theorem runs_neqi {o1 o2 : Operand} {b c : Int} (hx : a.eval o1 = .int .i64 b) (hy : a.eval o2 = .int .i64 c) (h : T (.bool (b != c)) w) : Runs Try.prog ⟨dst, .binOp .neq 3 o1 o2 3, ty, pos, after, g⟩ a w T := by
  refine Runs.value (v := .bool (b != c)) (w' := w) ?_ h
  simp only [execOp, hx, hy]
  go_simp
theorem runs_neql {o1 o2 : Operand} {b c : Int} (hx : a.eval o1 = .int .i64 b) (hy : a.eval o2 = .int .i64 c) (h : T (.bool (b != c)) w) : Runs Try.prog ⟨dst, .binOp .neq 2 o1 o2 2, ty, pos, after, g⟩ a w T := by
  refine Runs.value (v := .bool (b != c)) (w' := w) ?_ h
  simp only [execOp, hx, hy]
  go_simp
theorem runs_neqb {o1 o2 : Operand} {b c : Bool} (hx : a.eval o1 = .bool b) (hy : a.eval o2 = .bool c) (h : T (.bool (b != c)) w) : Runs Try.prog ⟨dst, .binOp .neq 4 o1 o2 4, ty, pos, after, g⟩ a w T := by
  refine Runs.value (v := .bool (b != c)) (w' := w) ?_ h
  simp only [execOp, hx, hy]
  go_simp
  cases b <;> cases c <;> rfl
theorem runs_eqlb {o1 o2 : Operand} {b c : Bool} (hx : a.eval o1 = .bool b) (hy : a.eval o2 = .bool c) (h : T (.bool (b == c)) w) : Runs Try.prog ⟨dst, .binOp .eql 4 o1 o2 4, ty, pos, after, g⟩ a w T := by
  refine Runs.value (v := .bool (b == c)) (w' := w) ?_ h
  simp only [execOp, hx, hy]
  go_simp
theorem runs_addi {o1 o2 : Operand} {b c : Int} (hx : a.eval o1 = .int .i64 b) (hy : a.eval o2 = .int .i64 c) (hb : -9223372036854775808 ≤ b + c ∧ b + c ≤ 9223372036854775807) (h : T (.int .i64 (b + c)) w) : Runs Try.prog ⟨dst, .binOp .add 3 o1 o2 3, ty, pos, after, g⟩ a w T := by
  refine Runs.value (v := .int .i64 (b + c)) (w' := w) ?_ h
  have hw : IntKind.i64.wrap (b + c) = b + c := IntWalk.i64_in _ hb
  simp only [execOp, hx, hy]
  go_simp
theorem runs_mini {o1 o2 : Operand} {b c : Int} {ts : Array TypeId} (hx : a.eval o1 = .int .i64 b) (hy : a.eval o2 = .int .i64 c) (h : T (.int .i64 (if c < b then c else b)) w) : Runs Try.prog ⟨dst, .call { callee := .builtin .min, args := #[o1, o2], argTypes := ts }, 3, pos, after, g⟩ a w T := by
  refine Runs.value (v := .int .i64 (if c < b then c else b)) (w' := w) ?_ h
  simp only [execOp, resolve, List.map_toArray, List.map_cons, List.map_nil, hx, hy]
  go_simp
theorem runs_orb {x y : Operand} {b c : Bool} (hx : a.eval x = .bool b) (hy : b = false → a.eval y = .bool c) (h : T (.bool (b || c)) w) : Runs Try.prog ⟨dst, .pick x (.const (.bool true)) y, ty, pos, after, g⟩ a w T := runs_or2 hx hy h
end
theorem write_no (g q : Nat) (s : NV) (a : Int) (w : World) (h : NvS w g q s) (ha : (s.off || !validB s.B.length a 1) = true) :
    Calls Try.prog 19 #[.pointer (some ⟨q, 0, none⟩), .int .i64 a, .int .u8 1] w fun e w' => e = .returned (.bool false) ∧ NvS w' g q s ∧ Chg w w' (Nvb g q s.mt) := by
  have e : wr1 s a 1 = (s, false) := by rw [wr1, if_pos ha]
  have := write_any g q s a 1 w h
  rw [e] at this
  exact this
end Go.Proofs.Ytmfahmbebpojpaa
