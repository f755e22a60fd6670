/-
  THE OPERATIONS OF A REGION BY POSTS, FOR LAYER 7 (nvm): cutting a slice of bytes.
-/
import Derived.Test.YtmfahmbebpojpaaNvOps2
import Derived.Test.YtmfahmbebpojpaaSlices
import Derived.Test.YtmfahmbebpojpaaPostsC
namespace Go.Proofs.Ytmfahmbebpojpaa
open Go Go.RowKit Go.IntWalk
set_option maxRecDepth 8000
set_option linter.unusedSimpArgs false

section
variable {dst : Option Tmp} {ty : TypeId} {pos : String} {after : Array Edge} {g : Option (Nat × Bool)} {a : Act} {w : World} {T : Value → World → Prop}
/-- 'b[:h]': the same address. -/
theorem runs_cuth {o1 o2 : Operand} {p : Option Addr} {n c H : Nat} (hx : a.eval o1 = .slice p n c) (hy : a.eval o2 = .int .i64 (H : Int)) (hH : H ≤ n) (hn : n ≤ c) (h : T (.slice p H c) w) : Runs Try.prog ⟨dst, .slice 29 o1 none (some o2) none, ty, pos, after, g⟩ a w T := by
  have hrun : (Instr.sliceAt 29 (.slice p n c) none (some (.int .i64 (H : Int))) none).run Try.prog w = .ok (.slice p H c) w := by
    rw [run_sliceAt_slice w 29 _ _ _ _ under_bytes, run_slice_h w 29 p n c under_bytes .i64 H (by omega) (by omega), size_u8]
    simp only [Result.andThen, sliced_eq, cutAt, Int.toNat_natCast]
    cases p with
    | none => simp
    | some ad =>
      obtain ⟨b, o, s⟩ := ad
      simp [Addr.add]
  refine Runs.value (v := .slice p H c) (w' := w) ?_ h
  simp only [execOp, hx, hy, Option.map_some, Option.map_none]
  go_simp
end
end Go.Proofs.Ytmfahmbebpojpaa
