/-
  LOOPS INSIDE A FENCE WITH A GHOST NUMBER (any program): the relation may speak of the activation as a whole, its deferred calls too. Nothing of the program stands here.
-/
import Derived.LoopNIn
import Derived.ControlIn
namespace Go.Proofs.YtapgpdgbdmnkgaaDoor
open Go
theorem roundsIn_more {F : Fence} {n : Nat} {P : Program} {c : Code} {Q : Exit → Act → World → Prop} : ∀ (m : Nat) (a : Act) (w : World), Code.roundsIn F n P c Q m a w → Code.roundsIn F n P c Q (m + 1) a w := by
  intro m
  induction m with
  | zero => intro a w h; exact h.elim
  | succ m ih =>
    intro a w h
    rw [roundsIn_succ] at h ⊢
    refine wpIn_mono h ?_
    intro e a' w' hp
    cases e with
    | normal => exact ih a' w' hp
    | exit id => exact hp
    | goto t => exact hp
    | ret => exact hp
    | panic ch => exact hp
    | outgrown => exact hp
theorem roundsIn_le {F : Fence} {n : Nat} {P : Program} {c : Code} {Q : Exit → Act → World → Prop} {m m' : Nat} (hm : m ≤ m') {a : Act} {w : World} (h : Code.roundsIn F n P c Q m a w) : Code.roundsIn F n P c Q m' a w := by
  induction hm with
  | refl => exact h
  | step _ ih => exact roundsIn_more _ _ _ ih
/-- One round less. -/
def Again (J : Nat → Act → World → Prop) (k : Nat) (a : Act) (w : World) : Prop := ∃ k', k' < k ∧ J k' a w
theorem wpIn_loop_ghost {F : Fence} {n : Nat} {P : Program} {c : Code} {Q : Exit → Act → World → Prop} (J : Nat → Act → World → Prop) (k : Nat) {a : Act} {w : World} (h0 : J k a w)
    (h : ∀ k a w, J k a w → c.wpIn F n P (Exit.then (Again J k) Q) a w) : (Code.loop c).wpIn F n P Q a w := by
  have key : ∀ (k : Nat) (a : Act) (w : World), J k a w → Code.roundsIn F n P c Q (k + 1) a w := by
    intro k
    induction k using Nat.strongRecOn with
    | _ k ih =>
      intro a w hj
      rw [roundsIn_succ]
      refine wpIn_mono (h k a w hj) ?_
      intro e a' w' hp
      cases e with
      | normal =>
        obtain ⟨k', hk, hj'⟩ := hp
        exact roundsIn_le (by omega) (ih k' hk a' w' hj')
      | exit id => exact hp
      | goto t => exact hp
      | ret => exact hp
      | panic ch => exact hp
      | outgrown => exact hp
  exact wpIn_loop_rounds (k + 1) (key k a w h0)
end Go.Proofs.YtapgpdgbdmnkgaaDoor
