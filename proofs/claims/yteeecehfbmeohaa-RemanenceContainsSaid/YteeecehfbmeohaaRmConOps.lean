/-
  THE OPERATIONS OF THE DRAWN REGIONS OF THE STATEMENTS' Contains BY POSTS.
-/
import Derived.Test.YteeecehfbmeohaaRmLaws3
namespace Go.Proofs.Yteeecehfbmeohaa
open Go Go.RowKit Go.IntWalk
set_option linter.unusedSimpArgs false
set_option maxRecDepth 8000

theorem enters_own : Enters Try.prog 11 := fun args w => by go_simp
theorem enters_mea : Enters Try.prog 10 := fun args w => by go_simp
theorem enters_age : Enters Try.prog 15 := fun args w => by go_simp
section
variable {dst : Option Tmp} {ty : TypeId} {pos : String} {after : Array Edge} {g : Option (Nat × Bool)} {a : Act} {w : World} {T : Value → World → Prop}
theorem rn_ld_23 {x : Operand} {S o : Nat} {v0 v1 : Value} (hx : a.eval x = .pointer (some ⟨S, o, none⟩)) (h0 : w.cell? ⟨S, o, none⟩ = some v0) (h1 : w.cell? ⟨S, o + 1, none⟩ = some v1) (h : T (.agg #[v0, v1]) w) : Runs Try.prog ⟨dst, .load 23 x, ty, pos, after, g⟩ a w T := by
  refine Runs.value (v := .agg #[v0, v1]) (w' := w) ?_ h
  simp only [execOp, hx]
  go_simp
theorem rn_fld_52_1 {x : Operand} {S o : Nat} (hx : a.eval x = .pointer (some ⟨S, o, none⟩)) (h : T (.pointer (some ⟨S, o + 1, none⟩)) w) : Runs Try.prog ⟨dst, .fieldAddr 52 x 1, ty, pos, after, g⟩ a w T := by
  refine Runs.value (v := .pointer (some ⟨S, o + 1, none⟩)) (w' := w) ?_ h
  simp only [execOp, hx]
  go_simp
theorem rn_ld_50 {x : Operand} {q : Addr} {v : Value} (hx : a.eval x = .pointer (some q)) (hc : w.cell? q = some v) (h : T v w) : Runs Try.prog ⟨dst, .load 50 x, ty, pos, after, g⟩ a w T := by
  refine Runs.value (v := v) (w' := w) ?_ h
  simp only [execOp, hx]
  go_simp
theorem rn_cv_50_2 {x : Operand} {z : Int} (hx : a.eval x = .int .u32 z) (hb : -9223372036854775808 ≤ z ∧ z ≤ 9223372036854775807) (h : T (.int .i64 z) w) : Runs Try.prog ⟨dst, .convert 50 2 x, ty, pos, after, g⟩ a w T := by
  refine Runs.value (v := .int .i64 z) (w' := w) ?_ h
  have hw : IntKind.i64.wrap z = z := IntWalk.i64_in _ hb
  simp only [execOp, hx]
  go_simp
end
end Go.Proofs.Yteeecehfbmeohaa
