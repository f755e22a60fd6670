/-
  DeadlineQueueOptimal: the Go function trickle/tricklelaw06.DeadlineQueueOptimal returns true at every input, and each argument reads afterwards as it read before. No condition.
-/
import Derived.Test.YtjcoghjkjnhljaaRows
import Derived.Test.YtjcoghjkjnhljaaDqLaw3
import Derived.Test.YtjcoghjkjnhljaaDqFrame
import Derived.Lib.SmallJoins
import Derived.WalkKit
import Derived.ProofKit
import Derived.OpenShut
import Derived.ShutString
import Derived.ChangeOld
import Derived.Below
namespace Go.Proofs.Ytjcoghjkjnhljaa.deadlineQueueOptimal
open Go.ChangeShapes Go.WideShapes Go.ChangeAt Go.RowKit
open Go.ChangeMaps (open_string shut_string)
set_option linter.unusedVariables false

theorem own : ownKnob Try.prog.godebug = none := by kernel_rfl
theorem laidOut : laidOutB Try.prog = true := by kernel_rfl

set_option maxRecDepth 100000 in
theorem lifted (os : Os) (started : os.Started) (H : Type) (enc : TypeId × Value → H) :
    ReturnsInHanded {} Try.checked os 7 .any (Rows.deadlineQueueOptimalSpec.pre6 enc Try.prog Try.f7 Rows.deadlineQueueOptimalRow.domain false) (Rows.deadlineQueueOptimalSpec.post enc Try.prog Try.f7 false true false false) := by
  refine returnsInHanded_of_change (C := Try.checked) own started (by kernel_rfl) Try.func7
    (ChangeSpec.witness6 (enc := enc) (C := Try.checked) false ⟨#[], #[.int .i64 0, .agg #[.slice none 0 0, .slice none 0 0]], []⟩ 8 (by kernel_rfl) (by kernel_rfl) (by kernel_rfl) (by kernel_rfl)) ?_
  intro W base args ds gs before hval0 hW hcnd _
  have hval : ∀ (j : Nat) t v, Try.f7.params[j]? = some t → args[j]? = some v → Value.okWide Try.prog W .any base t v := hval0
  have hW' := hW
  obtain ⟨p, q, hA0, hV, rfl, hfz, hnd⟩ := hW
  have hA : DataW.TrodAll enc Try.prog W 0 (fun _ => true) true Try.f7.params.toList args.toList ds p := hA0
  rw [Try.params7] at hA hval
  obtain ⟨v0, vs0, d0, ds0, p0, q0, hargs, rfl, rfl, h0, r0⟩ := trodAll_cons hA
  obtain ⟨v1, vs1, d1, ds1, p1, q1, rfl, rfl, rfl, h1, r1⟩ := trodAll_cons r0
  obtain ⟨rfl, rfl, rfl⟩ := trodAll_nil r1
  obtain rfl : args = #[v0, v1] := by cases args; simp_all
  obtain ⟨rfl, rfl⟩ := trodVars_none hV
  obtain ⟨a0, rfl, rfl, rfl, w0⟩ := open_int Try.underlying2 (hval 0 2 v0 rfl rfl) h0
  have b0 := bounds_i64 w0
  have k1 := h1
  have lt1 : ∀ x ∈ p1, x.block < W.heap.size := by obtain ⟨m, hm⟩ := k1; exact DataW.trod_lt m _ _ _ hm
  obtain ⟨va1, vb1, ya1, yb1, nn1, rfl, rfl, rfl, ha1, hb1⟩ := Go.Joins.open_agg2 Try.underlying50 (by kernel_rfl) (by kernel_rfl) (hval 1 50 v1 rfl rfl) h1
  obtain ⟨a1, len1, cap1, rfl⟩ := slice_form' Try.underlying39 ha1
  obtain ⟨qa1, ql1, qc1, rfl⟩ := slice_form' Try.underlying48 hb1
  obtain ⟨x1, e1, w1, f1⟩ := RdI.opened Try.underlying39 Try.underlying32 (by kernel_rfl) rfl rfl (by kernel_rfl) (by kernel_rfl) Try.underlying3 Try.underlying2 ⟨_, ha1⟩
  obtain ⟨y1, l1, u1, g1⟩ := Rd.opened_ints Try.underlying48 Try.underlying2 (by kernel_rfl) ⟨_, hb1⟩
  have j1 : JobsOk W a1 cap1 x1 qa1 qc1 y1 := ⟨w1, u1, f1, fun v hv => bounds_i64 (g1 v hv)⟩
  clear hA0 hval0
  refine (optimal_any a0 a1 len1 cap1 x1 qa1 ql1 qc1 y1 W e1 l1 j1).mono fun e W' ⟨he, bel0⟩ => ?_
  have bel : Below W.heap.size W W' := bel0
  subst he
  exact ⟨_, rfl, _, _, _, [], _, [], hW', trodAll_mk1 (shut_bool Try.underlying4 _), (trodAll_cons_mk (shut_int Try.underlying2 w0) (trodAll_cons_mk (Below.trod laidOut (by kernel_rfl) (of_decide_eq_true (by kernel_rfl)) k1 bel lt1) trodAll_mk0)), rfl, bel.frame _, fun h => by cases h⟩

theorem over : Rows.deadlineQueueOptimalRow.holds Try.pinned (OpenSpec.ofChange Rows.deadlineQueueOptimalSpec) :=
  OpenClaim.holds_of_wide 7 Try.f7 rfl rfl rfl rfl rfl rfl rfl ⟨rfl, rfl, rfl, rfl, rfl⟩ rfl rfl rfl rfl rfl (by kernel_rfl) Try.func7 (by kernel_rfl)
    (of_decide_eq_true (by kernel_rfl)) (by unfold Func.isWrapper; first | (rw [if_pos (by decide +kernel)]; kernel_rfl) | (rw [if_neg (by decide +kernel)]; exact ⟨rfl, rfl⟩))
    (fun os started H enc _ => lifted os started H enc)

end Go.Proofs.Ytjcoghjkjnhljaa.deadlineQueueOptimal
namespace Go.Proofs.Ytjcoghjkjnhljaa
/-- THE STATEMENT. -/
theorem deadlineQueueOptimal_holds : Rows.DeadlineQueueOptimalSaid := deadlineQueueOptimal.over
#print axioms deadlineQueueOptimal_holds
end Go.Proofs.Ytjcoghjkjnhljaa
