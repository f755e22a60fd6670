/-
  LAYER 6 (deadlinequeue): what the frames of the statements ask.
-/
import Derived.Test.YtjcoghjkjnhljaaDqOpen
namespace Go.Proofs.Ytjcoghjkjnhljaa
open Go Go.RowKit
theorem bounds_i64 {x : Int} (h : (Lit.int .i64 x).wf = true) : In64 x := by
  simpa [Lit.wf, IntKind.min, IntKind.max, IntKind.bits, IntKind.signed, In64] using h
theorem bounds_u8 {x : Int} (h : (Lit.int .u8 x).wf = true) : 0 ≤ x ∧ x ≤ 255 := by
  simpa [Lit.wf, IntKind.min, IntKind.max, IntKind.bits, IntKind.signed] using h
end Go.Proofs.Ytjcoghjkjnhljaa
