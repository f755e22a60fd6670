/-
  THE OPERATIONS OF THE DRAWN REGIONS OF THE STATEMENTS' do BY POSTS.
-/
import Derived.Test.YteeecehfbmeohaaRmEx
namespace Go.Proofs.Yteeecehfbmeohaa
open Go Go.RowKit Go.IntWalk
set_option linter.unusedSimpArgs false
set_option maxRecDepth 8000

theorem enters_rrun : Enters Try.prog 28 := fun args w => by go_simp
theorem enters_roff : Enters Try.prog 29 := fun args w => by go_simp
theorem enters_rsat : Enters Try.prog 30 := fun args w => by go_simp
theorem enters_now : Enters Try.prog 18 := fun args w => by go_simp
theorem enters_epoch : Enters Try.prog 19 := fun args w => by go_simp
section
variable {dst : Option Tmp} {ty : TypeId} {pos : String} {after : Array Edge} {g : Option (Nat × Bool)} {a : Act} {w : World} {T : Value → World → Prop}
theorem rn_ld_38 {x : Operand} {S o : Nat} {v0 v1 v2 : Value} (hx : a.eval x = .pointer (some ⟨S, o, none⟩)) (h0 : w.cell? ⟨S, o, none⟩ = some v0) (h1 : w.cell? ⟨S, o + 1, none⟩ = some v1) (h2 : w.cell? ⟨S, o + 2, none⟩ = some v2) (h : T (.agg #[v0, v1, v2]) w) : Runs Try.prog ⟨dst, .load 38 x, ty, pos, after, g⟩ a w T := by
  refine Runs.value (v := .agg #[v0, v1, v2]) (w' := w) ?_ h
  simp only [execOp, hx]
  go_simp
theorem rn_fld_40_1 {x : Operand} {S o : Nat} (hx : a.eval x = .pointer (some ⟨S, o, none⟩)) (h : T (.pointer (some ⟨S, o + 1, none⟩)) w) : Runs Try.prog ⟨dst, .fieldAddr 40 x 1, ty, pos, after, g⟩ a w T := by
  refine Runs.value (v := .pointer (some ⟨S, o + 1, none⟩)) (w' := w) ?_ h
  simp only [execOp, hx]
  go_simp
theorem rn_fld_40_2 {x : Operand} {S o : Nat} (hx : a.eval x = .pointer (some ⟨S, o, none⟩)) (h : T (.pointer (some ⟨S, o + 2, none⟩)) w) : Runs Try.prog ⟨dst, .fieldAddr 40 x 2, ty, pos, after, g⟩ a w T := by
  refine Runs.value (v := .pointer (some ⟨S, o + 2, none⟩)) (w' := w) ?_ h
  simp only [execOp, hx]
  go_simp
theorem rn_eql_26 {o1 o2 : Operand} {b c : Int} (hx : a.eval o1 = .int .i64 b) (hy : a.eval o2 = .int .i64 c) (h : T (.bool (b == c)) w) : Runs Try.prog ⟨dst, .binOp .eql 26 o1 o2 26, ty, pos, after, g⟩ a w T := by
  refine Runs.value (v := .bool (b == c)) (w' := w) ?_ h
  simp only [execOp, hx, hy]
  go_simp
theorem rn_fld_38_0 {x : Operand} {S o : Nat} (hx : a.eval x = .pointer (some ⟨S, o, none⟩)) (h : T (.pointer (some ⟨S, o, none⟩)) w) : Runs Try.prog ⟨dst, .fieldAddr 38 x 0, ty, pos, after, g⟩ a w T := by
  refine Runs.value (v := .pointer (some ⟨S, o, none⟩)) (w' := w) ?_ h
  simp only [execOp, hx]
  go_simp
theorem rn_eql_25 {o1 o2 : Operand} {b0 c0 b1 c1 : Int} (hx : a.eval o1 = .agg #[.int .i64 b0, .int .i64 b1]) (hy : a.eval o2 = .agg #[.int .i64 c0, .int .i64 c1]) (h : T (.bool ((b0 == c0) && (b1 == c1))) w) : Runs Try.prog ⟨dst, .binOp .eql 25 o1 o2 25, ty, pos, after, g⟩ a w T := by
  refine Runs.value (v := .bool ((b0 == c0) && (b1 == c1))) (w' := w) ?_ h
  simp only [execOp, hx, hy]
  go_simp
  by_cases e0 : b0 = c0 <;> by_cases e1 : b1 = c1 <;> simp [e0, e1]
theorem rn_fld_38_1 {x : Operand} {S o : Nat} (hx : a.eval x = .pointer (some ⟨S, o, none⟩)) (h : T (.pointer (some ⟨S, o + 2, none⟩)) w) : Runs Try.prog ⟨dst, .fieldAddr 38 x 1, ty, pos, after, g⟩ a w T := by
  refine Runs.value (v := .pointer (some ⟨S, o + 2, none⟩)) (w' := w) ?_ h
  simp only [execOp, hx]
  go_simp
theorem rn_eql_3 {o1 o2 : Operand} {b c : Int} (hx : a.eval o1 = .int .i64 b) (hy : a.eval o2 = .int .i64 c) (h : T (.bool (b == c)) w) : Runs Try.prog ⟨dst, .binOp .eql 3 o1 o2 3, ty, pos, after, g⟩ a w T := by
  refine Runs.value (v := .bool (b == c)) (w' := w) ?_ h
  simp only [execOp, hx, hy]
  go_simp
theorem rn_st_38 {x y : Operand} {S o : Nat} {v0 : Int} {v1 : Int} {v2 : Int} {u0 u1 u2 : Value} (hx : a.eval x = .pointer (some ⟨S, o, none⟩)) (hy : a.eval y = .agg #[.int .i64 v0, .int .i64 v1, .int .i64 v2]) (h0 : w.cell? ⟨S, o, none⟩ = some u0) (h1 : w.cell? ⟨S, o + 1, none⟩ = some u1) (h2 : w.cell? ⟨S, o + 2, none⟩ = some u2) (hf : ∀ i, w.frozen? ⟨S, i, none⟩ = false) (h : T undef (((w.setCell ⟨S, o, none⟩ (.int .i64 v0)).setCell ⟨S, o + 1, none⟩ (.int .i64 v1)).setCell ⟨S, o + 2, none⟩ (.int .i64 v2))) : Runs Try.prog ⟨dst, .store 38 x y, ty, pos, after, g⟩ a w T := by
  have hf0 := hf o
  have hf1 := hf (o + 1)
  have hf2 := hf (o + 2)
  refine Runs.skip (w' := (((w.setCell ⟨S, o, none⟩ (.int .i64 v0)).setCell ⟨S, o + 1, none⟩ (.int .i64 v1)).setCell ⟨S, o + 2, none⟩ (.int .i64 v2))) ?_ h
  simp only [execOp, hx, hy]
  go_simp
end
end Go.Proofs.Yteeecehfbmeohaa
