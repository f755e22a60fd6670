/-
  THE OPERATIONS OF THE DRAWN REGIONS OF LAYER 9's REFERENCE BY POSTS.
-/
import Derived.Test.YteeecehfbmeohaaRmObj
namespace Go.Proofs.Yteeecehfbmeohaa
open Go Go.RowKit Go.IntWalk
set_option linter.unusedSimpArgs false
set_option maxRecDepth 8000

theorem rmost_any (w : World) : Calls Try.prog 26 #[] w fun e w' => e = .returned (.int .i64 1099511627776) ∧ w' = w := by
  go_enter Try.func26, Try.ntmps26
  go_wp2
  go_ret
  exact ⟨rfl, rfl⟩
theorem enters_rmost : Enters Try.prog 26 := fun args w => by go_simp
section
variable {dst : Option Tmp} {ty : TypeId} {pos : String} {after : Array Edge} {g : Option (Nat × Bool)} {a : Act} {w : World} {T : Value → World → Prop}
theorem rn_ret_c38_t {fn : Func} {p0 p1 : Tmp} (h : fn.results = #[.cell p0 38, .tmp p1]) {tmps : Array Value} {w : World} {S0 : Nat} {v0_0 v0_1 v0_2 : Value} {v1 : Value} {R : Ending → World → Prop} (hp0 : tmps.getD p0 undef = .pointer (some ⟨S0, 0, none⟩)) (h0_0 : w.cell? ⟨S0, 0, none⟩ = some v0_0) (h0_1 : w.cell? ⟨S0, 1, none⟩ = some v0_1) (h0_2 : w.cell? ⟨S0, 2, none⟩ = some v0_2) (hp1 : tmps.getD p1 undef = v1) (hR : R (.returned (.tuple #[.agg #[v0_0, v0_1, v0_2], v1])) w) : bodyPost Try.prog fn R .ret { tmps := tmps, defers := [] } w := by
  refine bodyPost_ret (v := .tuple #[.agg #[v0_0, v0_1, v0_2], v1]) ?_ rfl hR
  rw [Array.getD_eq_getD_getElem?] at hp0 hp1
  simp [results, h, hp0, h0_0, h0_1, h0_2, hp1, go_sem]
theorem rn_ret_c25_t_t {fn : Func} {p0 p1 p2 : Tmp} (h : fn.results = #[.cell p0 25, .tmp p1, .tmp p2]) {tmps : Array Value} {w : World} {S0 : Nat} {v0_0 v0_1 : Value} {v1 : Value} {v2 : Value} {R : Ending → World → Prop} (hp0 : tmps.getD p0 undef = .pointer (some ⟨S0, 0, none⟩)) (h0_0 : w.cell? ⟨S0, 0, none⟩ = some v0_0) (h0_1 : w.cell? ⟨S0, 1, none⟩ = some v0_1) (hp1 : tmps.getD p1 undef = v1) (hp2 : tmps.getD p2 undef = v2) (hR : R (.returned (.tuple #[.agg #[v0_0, v0_1], v1, v2])) w) : bodyPost Try.prog fn R .ret { tmps := tmps, defers := [] } w := by
  refine bodyPost_ret (v := .tuple #[.agg #[v0_0, v0_1], v1, v2]) ?_ rfl hR
  rw [Array.getD_eq_getD_getElem?] at hp0 hp1 hp2
  simp [results, h, hp0, h0_0, h0_1, hp1, hp2, go_sem]
theorem rn_fld_23_0 {x : Operand} {S o : Nat} (hx : a.eval x = .pointer (some ⟨S, o, none⟩)) (h : T (.pointer (some ⟨S, o, none⟩)) w) : Runs Try.prog ⟨dst, .fieldAddr 23 x 0, ty, pos, after, g⟩ a w T := by
  refine Runs.value (v := .pointer (some ⟨S, o, none⟩)) (w' := w) ?_ h
  simp only [execOp, hx]
  go_simp
theorem rn_ld_3 {x : Operand} {q : Addr} {v : Value} (hx : a.eval x = .pointer (some q)) (hc : w.cell? q = some v) (h : T v w) : Runs Try.prog ⟨dst, .load 3 x, ty, pos, after, g⟩ a w T := by
  refine Runs.value (v := v) (w' := w) ?_ h
  simp only [execOp, hx]
  go_simp
theorem rn_geq_3 {o1 o2 : Operand} {b c : Int} (hx : a.eval o1 = .int .i64 b) (hy : a.eval o2 = .int .i64 c) (h : T (.bool (decide (c ≤ b))) w) : Runs Try.prog ⟨dst, .binOp .geq 3 o1 o2 3, ty, pos, after, g⟩ a w T := by
  refine Runs.value (v := .bool (decide (c ≤ b))) (w' := w) ?_ h
  simp only [execOp, hx, hy]
  go_simp
theorem rn_leq_3 {o1 o2 : Operand} {b c : Int} (hx : a.eval o1 = .int .i64 b) (hy : a.eval o2 = .int .i64 c) (h : T (.bool (decide (b ≤ c))) w) : Runs Try.prog ⟨dst, .binOp .leq 3 o1 o2 3, ty, pos, after, g⟩ a w T := by
  refine Runs.value (v := .bool (decide (b ≤ c))) (w' := w) ?_ h
  simp only [execOp, hx, hy]
  go_simp
theorem rn_fld_23_1 {x : Operand} {S o : Nat} (hx : a.eval x = .pointer (some ⟨S, o, none⟩)) (h : T (.pointer (some ⟨S, o + 1, none⟩)) w) : Runs Try.prog ⟨dst, .fieldAddr 23 x 1, ty, pos, after, g⟩ a w T := by
  refine Runs.value (v := .pointer (some ⟨S, o + 1, none⟩)) (w' := w) ?_ h
  simp only [execOp, hx]
  go_simp
theorem rn_ld_2 {x : Operand} {q : Addr} {v : Value} (hx : a.eval x = .pointer (some q)) (hc : w.cell? q = some v) (h : T v w) : Runs Try.prog ⟨dst, .load 2 x, ty, pos, after, g⟩ a w T := by
  refine Runs.value (v := v) (w' := w) ?_ h
  simp only [execOp, hx]
  go_simp
theorem rn_geq_2 {o1 o2 : Operand} {b c : Int} (hx : a.eval o1 = .int .i64 b) (hy : a.eval o2 = .int .i64 c) (h : T (.bool (decide (c ≤ b))) w) : Runs Try.prog ⟨dst, .binOp .geq 2 o1 o2 2, ty, pos, after, g⟩ a w T := by
  refine Runs.value (v := .bool (decide (c ≤ b))) (w' := w) ?_ h
  simp only [execOp, hx, hy]
  go_simp
theorem rn_leq_2 {o1 o2 : Operand} {b c : Int} (hx : a.eval o1 = .int .i64 b) (hy : a.eval o2 = .int .i64 c) (h : T (.bool (decide (b ≤ c))) w) : Runs Try.prog ⟨dst, .binOp .leq 2 o1 o2 2, ty, pos, after, g⟩ a w T := by
  refine Runs.value (v := .bool (decide (b ≤ c))) (w' := w) ?_ h
  simp only [execOp, hx, hy]
  go_simp
theorem rn_bld_25_01 {x0 x1 : Nat} {v0_0 : Int} {v1_0 : Int} (hx0 : a.eval (.tmp x0) = .int .i64 v0_0) (hx1 : a.eval (.tmp x1) = .int .i64 v1_0) (h : T (.agg #[.int .i64 v0_0, .int .i64 v1_0]) w) : Runs Try.prog ⟨dst, .build 25 #[(0, .tmp x0), (1, .tmp x1)], ty, pos, after, g⟩ a w T := by
  rw [slot_eval, ← slot_get] at hx0 hx1
  refine Runs.value (v := .agg #[.int .i64 v0_0, .int .i64 v1_0]) (w' := w) ?_ h
  simp only [execOp]
  go_simp
end
end Go.Proofs.Yteeecehfbmeohaa
