/-
  THE OPERATIONS OF THE DRAWN REGIONS OF LAYER 10's REFERENCE BY POSTS.
-/
import Derived.Test.YtaehlpdnjfblbaaDoorSeObj2
namespace Go.Proofs.YtaehlpdnjfblbaaDoor
open Go Go.RowKit Go.IntWalk
set_option linter.unusedSimpArgs false
set_option maxRecDepth 8000

section
variable {dst : Option Tmp} {ty : TypeId} {pos : String} {after : Array Edge} {g : Option (Nat × Bool)} {a : Act} {w : World} {T : Value → World → Prop}
theorem rn_ret_c37_t {fn : Func} {p0 p1 : Tmp} (h : fn.results = #[.cell p0 37, .tmp p1]) {tmps : Array Value} {w : World} {S0 : Nat} {v0_0 v0_1 : Value} {v1 : Value} {R : Ending → World → Prop} (hp0 : tmps.getD p0 undef = .pointer (some ⟨S0, 0, none⟩)) (h0_0 : w.cell? ⟨S0, 0, none⟩ = some v0_0) (h0_1 : w.cell? ⟨S0, 1, none⟩ = some v0_1) (hp1 : tmps.getD p1 undef = v1) (hR : R (.returned (.tuple #[.agg #[v0_0, v0_1], v1])) w) : bodyPost Tryd.prog fn R .ret { tmps := tmps, defers := [] } w := by
  refine bodyPost_ret (v := .tuple #[.agg #[v0_0, v0_1], v1]) ?_ rfl hR
  rw [Array.getD_eq_getD_getElem?] at hp0 hp1
  simp [results, h, hp0, h0_0, h0_1, hp1, go_sem]
theorem rn_idx_28 {x y : Operand} {b o n c : Nat} (i : Nat) (hx : a.eval x = .slice (some ⟨b, o, none⟩) n c) (hy : a.eval y = .int .i64 (i : Int)) (hi : i < n) (h : T (.pointer (some ⟨b, o + i * 2, none⟩)) w) : Runs Tryd.prog ⟨dst, .indexAddr 28 x y, ty, pos, after, g⟩ a w T := by
  have hi2 : (i : Int) < (n : Int) := by omega
  refine Runs.value (v := .pointer (some ⟨b, o + i * 2, none⟩)) (w' := w) ?_ h
  simp only [execOp, hx, hy]
  go_simp
theorem rn_ld_37 {x : Operand} {S o : Nat} {v0 v1 : Value} (hx : a.eval x = .pointer (some ⟨S, o, none⟩)) (h0 : w.cell? ⟨S, o, none⟩ = some v0) (h1 : w.cell? ⟨S, o + 1, none⟩ = some v1) (h : T (.agg #[v0, v1]) w) : Runs Tryd.prog ⟨dst, .load 37 x, ty, pos, after, g⟩ a w T := by
  refine Runs.value (v := .agg #[v0, v1]) (w' := w) ?_ h
  simp only [execOp, hx]
  go_simp
theorem rn_neq_37 {o1 o2 : Operand} {b0 c0 b1 c1 : Int} (hx : a.eval o1 = .agg #[.int .i64 b0, .int .i16 b1]) (hy : a.eval o2 = .agg #[.int .i64 c0, .int .i16 c1]) (h : T (.bool (!((b0 == c0) && (b1 == c1)))) w) : Runs Tryd.prog ⟨dst, .binOp .neq 37 o1 o2 37, ty, pos, after, g⟩ a w T := by
  refine Runs.value (v := .bool (!((b0 == c0) && (b1 == c1)))) (w' := w) ?_ h
  simp only [execOp, hx, hy]
  go_simp
  by_cases e0 : b0 = c0 <;> by_cases e1 : b1 = c1 <;> simp [e0, e1]
theorem rn_fld_37_0 {x : Operand} {S o : Nat} (hx : a.eval x = .pointer (some ⟨S, o, none⟩)) (h : T (.pointer (some ⟨S, o, none⟩)) w) : Runs Tryd.prog ⟨dst, .fieldAddr 37 x 0, ty, pos, after, g⟩ a w T := by
  refine Runs.value (v := .pointer (some ⟨S, o, none⟩)) (w' := w) ?_ h
  simp only [execOp, hx]
  go_simp
theorem rn_ld_2 {x : Operand} {q : Addr} {v : Value} (hx : a.eval x = .pointer (some q)) (hc : w.cell? q = some v) (h : T v w) : Runs Tryd.prog ⟨dst, .load 2 x, ty, pos, after, g⟩ a w T := by
  refine Runs.value (v := v) (w' := w) ?_ h
  simp only [execOp, hx]
  go_simp
theorem rn_lss_2 {o1 o2 : Operand} {b c : Int} (hx : a.eval o1 = .int .i64 b) (hy : a.eval o2 = .int .i64 c) (h : T (.bool (decide (b < c))) w) : Runs Tryd.prog ⟨dst, .binOp .lss 2 o1 o2 2, ty, pos, after, g⟩ a w T := by
  refine Runs.value (v := .bool (decide (b < c))) (w' := w) ?_ h
  simp only [execOp, hx, hy]
  go_simp
theorem rn_gtr_2 {o1 o2 : Operand} {b c : Int} (hx : a.eval o1 = .int .i64 b) (hy : a.eval o2 = .int .i64 c) (h : T (.bool (decide (c < b))) w) : Runs Tryd.prog ⟨dst, .binOp .gtr 2 o1 o2 2, ty, pos, after, g⟩ a w T := by
  refine Runs.value (v := .bool (decide (c < b))) (w' := w) ?_ h
  simp only [execOp, hx, hy]
  go_simp
theorem rn_gtr_3 {o1 o2 : Operand} {b c : Int} (hx : a.eval o1 = .int .i64 b) (hy : a.eval o2 = .int .i64 c) (h : T (.bool (decide (c < b))) w) : Runs Tryd.prog ⟨dst, .binOp .gtr 3 o1 o2 3, ty, pos, after, g⟩ a w T := by
  refine Runs.value (v := .bool (decide (c < b))) (w' := w) ?_ h
  simp only [execOp, hx, hy]
  go_simp
theorem rn_sub_3 {o1 o2 : Operand} {b c : Int} (hx : a.eval o1 = .int .i64 b) (hy : a.eval o2 = .int .i64 c) (hb : -9223372036854775808 ≤ b - c ∧ b - c ≤ 9223372036854775807) (h : T (.int .i64 (b - c)) w) : Runs Tryd.prog ⟨dst, .binOp .sub 3 o1 o2 3, ty, pos, after, g⟩ a w T := by
  refine Runs.value (v := .int .i64 (b - c)) (w' := w) ?_ h
  have hw : IntKind.i64.wrap (b - c) = b - c := IntWalk.i64_in _ hb
  simp only [execOp, hx, hy]
  go_simp
theorem rn_leq_2 {o1 o2 : Operand} {b c : Int} (hx : a.eval o1 = .int .i64 b) (hy : a.eval o2 = .int .i64 c) (h : T (.bool (decide (b ≤ c))) w) : Runs Tryd.prog ⟨dst, .binOp .leq 2 o1 o2 2, ty, pos, after, g⟩ a w T := by
  refine Runs.value (v := .bool (decide (b ≤ c))) (w' := w) ?_ h
  simp only [execOp, hx, hy]
  go_simp
end
end Go.Proofs.YtaehlpdnjfblbaaDoor
