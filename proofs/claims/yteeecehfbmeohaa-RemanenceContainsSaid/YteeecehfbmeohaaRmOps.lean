/-
  THE OPERATIONS OF LAYER 9's DRAWN REGIONS BY POSTS.
-/
import Derived.Test.YteeecehfbmeohaaRmWalks
import Derived.Test.YteeecehfbmeohaaPostsSS
namespace Go.Proofs.Yteeecehfbmeohaa
open Go Go.RowKit Go.IntWalk
set_option linter.unusedSimpArgs false
set_option maxRecDepth 8000

theorem Atv.kept {R : World → World → Prop} [Keeps R] {q : Addr} {v : Value} {w w' : World} (h : Atv q v w) (hg : R w w') : w'.cell? q = some v := h.grew (Keeps.grew hg)
theorem enters_add : Enters Try.prog 32 := fun args w => by go_simp
section
variable {dst : Option Tmp} {ty : TypeId} {pos : String} {after : Array Edge} {g : Option (Nat × Bool)} {a : Act} {w : World} {T : Value → World → Prop}
theorem rn_nil {x : Operand} {q : Addr} (hx : a.eval x = .pointer (some q)) (h : T (.pointer (some q)) w) : Runs Try.prog ⟨dst, .nilCheck x, ty, pos, after, g⟩ a w T := by
  refine Runs.value (v := .pointer (some q)) (w' := w) ?_ h
  simp only [execOp, hx]
  go_simp
theorem rn_fld_36_0 {x : Operand} {S o : Nat} (hx : a.eval x = .pointer (some ⟨S, o, none⟩)) (h : T (.pointer (some ⟨S, o, none⟩)) w) : Runs Try.prog ⟨dst, .fieldAddr 36 x 0, ty, pos, after, g⟩ a w T := by
  refine Runs.value (v := .pointer (some ⟨S, o, none⟩)) (w' := w) ?_ h
  simp only [execOp, hx]
  go_simp
theorem rn_ld_25 {x : Operand} {S o : Nat} {v0 v1 : Value} (hx : a.eval x = .pointer (some ⟨S, o, none⟩)) (h0 : w.cell? ⟨S, o, none⟩ = some v0) (h1 : w.cell? ⟨S, o + 1, none⟩ = some v1) (h : T (.agg #[v0, v1]) w) : Runs Try.prog ⟨dst, .load 25 x, ty, pos, after, g⟩ a w T := by
  refine Runs.value (v := .agg #[v0, v1]) (w' := w) ?_ h
  simp only [execOp, hx]
  go_simp
theorem rn_ext {x : Operand} {k : Nat} {vs : Array Value} {v : Value} (hx : a.eval x = .tuple vs) (hk : vs[k]? = some v) (h : T v w) : Runs Try.prog ⟨dst, .extract x k, ty, pos, after, g⟩ a w T := by
  refine Runs.value (v := v) (w' := w) ?_ h
  simp only [execOp, hx]
  go_simp
theorem rn_alloc_25 (h : T (.pointer (some ⟨w.heap.size, 0, none⟩)) (w.alloc (.cells #[.int .i64 (0), .int .i64 (0)] 25))) : Runs Try.prog ⟨dst, .alloc 25, ty, pos, after, g⟩ a w T := by
  refine Runs.value (v := .pointer (some ⟨w.heap.size, 0, none⟩)) (w' := w.alloc (.cells #[.int .i64 (0), .int .i64 (0)] 25)) ?_ h
  simp only [execOp]
  go_simp
theorem rn_st_25 {x y : Operand} {S o : Nat} {v0 : Int} {v1 : Int} {u0 u1 : Value} (hx : a.eval x = .pointer (some ⟨S, o, none⟩)) (hy : a.eval y = .agg #[.int .i64 v0, .int .i64 v1]) (h0 : w.cell? ⟨S, o, none⟩ = some u0) (h1 : w.cell? ⟨S, o + 1, none⟩ = some u1) (hf : ∀ i, w.frozen? ⟨S, i, none⟩ = false) (h : T undef ((w.setCell ⟨S, o, none⟩ (.int .i64 v0)).setCell ⟨S, o + 1, none⟩ (.int .i64 v1))) : Runs Try.prog ⟨dst, .store 25 x y, ty, pos, after, g⟩ a w T := by
  have hf0 := hf o
  have hf1 := hf (o + 1)
  refine Runs.skip (w' := ((w.setCell ⟨S, o, none⟩ (.int .i64 v0)).setCell ⟨S, o + 1, none⟩ (.int .i64 v1))) ?_ h
  simp only [execOp, hx, hy]
  go_simp
end
end Go.Proofs.Yteeecehfbmeohaa
