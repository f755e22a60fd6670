/-
  THE OPERATIONS OF A REGION BY POSTS: moves, picks, calls (any program).
-/
import Derived.Test.YtbhglpiiabpdjaaDoorPosts
import Derived.Below
import Derived.WalkKit
namespace Go.Proofs.YtbhglpiiabpdjaaDoor
open Go Go.RowKit

section
variable {P : Program} {dst : Option Tmp} {ty : TypeId} {pos : String} {after : Array Edge} {g : Option (Nat × Bool)} {a : Act} {w : World} {T : Value → World → Prop}
/-- What a slot holds. -/
def slot (a : Act) (n : Nat) : Value := a.tmps.toList.getD n undef
theorem slot_eval (a : Act) (n : Nat) : a.eval (.tmp n) = slot a n := by simp [slot, Act.eval]
/-- A call of a Go function is entered. -/
def Enters (P : Program) (f : FuncId) : Prop := ∀ (args : Array Value) (w : World), Sem.run P (callFunc f args) w = .ok (.enter f args) w
theorem runs_call {f : FuncId} {xs : Array Operand} {ts : Array TypeId} {vs : Array Value} (hf : Enters P f) (hx : xs.map a.eval = vs) (h : Calls P f vs w fun e w'' => ∃ v, e = .returned v ∧ T v w'') : Runs P ⟨dst, .call { callee := .value (.func f), args := xs, argTypes := ts }, ty, pos, after, g⟩ a w T := by
  refine Runs.call (f := f) (args := vs) (w' := w) ?_ h
  have e : execOp a.eval ⟨dst, .call { callee := .value (.func f), args := xs, argTypes := ts }, ty, pos, after, g⟩ = (do let d ← resolve a.eval { callee := .value (.func f), args := xs, argTypes := ts } ty; invoke d.target d.args) := rfl
  rw [e]
  have e2 : resolve a.eval { callee := .value (.func f), args := xs, argTypes := ts } ty = Deferred.ofValue (.func (.func f) #[] #[]) vs := by rw [← hx]; rfl
  rw [e2]
  have e3 : (Deferred.ofValue (.func (.func f) #[] #[]) vs : Sem Deferred) = pure { target := .fn (.func f) #[], args := #[] ++ vs } := rfl
  rw [e3]
  have := hf vs w
  simpa [invoke, go_sem] using this
end
/-- The world has only grown. -/
def Grew (w w' : World) : Prop := Below w.heap.size w w'
theorem Grew.refl (w : World) : Grew w w := Below.refl _ _
theorem Grew.trans {a b c : World} (h : Grew a b) (h' : Grew b c) : Grew a c := Below.trans h (Below.mono h' h.size)
theorem Grew.drew (w : World) : Grew w w.drew := (Below.refl _ _).drew
/-- The claims, as a list. -/
def postAt (ps : List (Value → World → Prop)) (i : Nat) : Value → World → Prop := ps.getD i (fun _ _ => True)
def Monos : List (Value → World → Prop) → Prop
  | [] => True
  | p :: ps => (∀ v w w', Grew w w' → p v w → p v w') ∧ Monos ps
theorem Monos.at : ∀ {ps : List (Value → World → Prop)}, Monos ps → ∀ (i : Nat) (v : Value) (w w' : World), Grew w w' → postAt ps i v w → postAt ps i v w'
  | [], _, _, _, _, _, _, _ => trivial
  | _ :: _, h, 0, v, w, w', hg, hp => h.1 v w w' hg hp
  | _ :: ps, h, i + 1, v, w, w', hg, hp => Monos.at (ps := ps) h.2 i v w w' hg hp
section
variable {P : Program} {id : Nat} {ops : Array Oper} {Q : Exit → Act → World → Prop} {a0 : Act} {w0 : World}
theorem wp_posts (sl : List (Option Nat)) (D : List Bool) (ps : List (Value → World → Prop)) (hm : P.follows .mixedOrders = true) (hok : regionOk ops sl D = true) (hD : D.length = a0.tmps.size) (hps : Monos ps)
    (hs : Steps P Grew (postAt ps) sl (mixA D a0) w0.drew 0 ops.toList) (hend : ∀ u w, Grew w0.drew w → (∀ i, i < ops.size → postAt ps i (uval sl u i) w) → Q .normal (mixA D a0 u) w) : (Code.region id ops true).wp P Q a0 w0 :=
  wp_region_posts sl D Grew (postAt ps) hm hok hD Grew.refl Grew.trans hps.at hs hend
end
end Go.Proofs.YtbhglpiiabpdjaaDoor
