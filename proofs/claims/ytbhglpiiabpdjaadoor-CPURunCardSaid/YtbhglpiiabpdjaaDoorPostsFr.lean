/-
  A REGION THAT DRAWS ITS ORDER, BY POSTS, WITH A TAIL: operations that nothing of the tail waits for (moves) are taken first.
-/
import Derived.Test.YtbhglpiiabpdjaaDoorPostsOps
import Derived.Test.YtbhglpiiabpdjaaDoorPostsTail
namespace Go.Proofs.YtbhglpiiabpdjaaDoor
open Go

section
variable {P : Program} {ops : Array Oper} {Q : Exit → Act → World → Prop} {R : World → World → Prop} {F : Nat → Value → World → Prop} {sl : List (Option Nat)} {D : List Bool} {a0 : Act} {w0 : World}
theorem count_set {l : Array Bool} {i : Nat} (hi : i < l.size) (h : l.getD i false = false) : (l.setIfInBounds i true).toList.count false + 1 = l.toList.count false := by
  have e1 : (l.setIfInBounds i true).toList = l.toList.set i true := by simp
  have e2 := List.count_set (l := l.toList) (a := true) (b := false) (i := i) (by simpa using hi)
  have hlf : l[i] = false := by simpa [hi] using h
  rw [e1, e2]
  have e3 : 0 < l.toList.count false := List.count_pos_iff.2 (by rw [← hlf]; exact Array.getElem_mem_toList hi)
  have e4 : (l.toList[i]'(by simpa using hi) == false) = true := by simp [hlf]
  have e5 : (true == false) = false := rfl
  simp only [e4, e5, if_true, Bool.false_eq_true, if_false] at e2 ⊢
  omega
end
end Go.Proofs.YtbhglpiiabpdjaaDoor
