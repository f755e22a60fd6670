/-
  THE OPERATIONS OF A REGION BY POSTS: moves, picks, calls (any program).
-/
import Derived.Test.YtcajamgajchheaaDoorPosts
import Derived.Below
import Derived.WalkKit
namespace Go.Proofs.YtcajamgajchheaaDoor
open Go Go.RowKit

section
variable {P : Program} {dst : Option Tmp} {ty : TypeId} {pos : String} {after : Array Edge} {g : Option (Nat × Bool)} {a : Act} {w : World} {T : Value → World → Prop}
/-- What a slot holds. -/
def slot (a : Act) (n : Nat) : Value := a.tmps.toList.getD n undef
theorem slot_eval (a : Act) (n : Nat) : a.eval (.tmp n) = slot a n := by simp [slot, Act.eval]
theorem slot_get (a : Act) (n : Nat) : a.tmps[n]?.getD undef = slot a n := by simp [slot]
theorem runs_move {x : Nat} (h : T (slot a x) w) : Runs P ⟨dst, .move (.tmp x), ty, pos, after, g⟩ a w T := Runs.value (w' := w) rfl (by rw [slot_eval]; exact h)
theorem runs_assign {x : Nat} (h : T (slot a x) w) : Runs P ⟨dst, .assign (.tmp x), ty, pos, after, g⟩ a w T := Runs.value (w' := w) rfl (by rw [slot_eval]; exact h)
theorem runs_not {t : TypeId} {x : Nat} {b : Bool} (hx : slot a x = .bool b) (h : T (.bool !b) w) : Runs P ⟨dst, .unOp .not t (.tmp x), ty, pos, after, g⟩ a w T := by
  refine Runs.value (v := .bool !b) (w' := w) ?_ h
  simp only [execOp, slot_eval, hx]
  rfl
/-- 'a && b' -/
theorem runs_and {x y : Nat} {b c : Bool} (hx : slot a x = .bool b) (hy : b = true → slot a y = .bool c) (h : T (.bool (b && c)) w) : Runs P ⟨dst, .pick (.tmp x) (.tmp y) (.const (.bool false)), ty, pos, after, g⟩ a w T := by
  refine Runs.value (v := .bool (b && c)) (w' := w) ?_ h
  simp only [execOp, slot_eval, hx]
  cases b with
  | false => rfl
  | true => rw [hy rfl]; rfl
/-- 'a || b' -/
theorem runs_or {x y : Nat} {b c : Bool} (hx : slot a x = .bool b) (hy : b = false → slot a y = .bool c) (h : T (.bool (b || c)) w) : Runs P ⟨dst, .pick (.tmp x) (.const (.bool true)) (.tmp y), ty, pos, after, g⟩ a w T := by
  refine Runs.value (v := .bool (b || c)) (w' := w) ?_ h
  simp only [execOp, slot_eval, hx]
  cases b with
  | true => rfl
  | false => rw [hy rfl]; rfl
/-- A call of a Go function is entered. -/
def Enters (P : Program) (f : FuncId) : Prop := ∀ (args : Array Value) (w : World), Sem.run P (callFunc f args) w = .ok (.enter f args) w
theorem runs_call {f : FuncId} {xs : Array Operand} {ts : Array TypeId} {vs : Array Value} (hf : Enters P f) (hx : xs.map a.eval = vs) (h : Calls P f vs w fun e w'' => ∃ v, e = .returned v ∧ T v w'') : Runs P ⟨dst, .call { callee := .value (.func f), args := xs, argTypes := ts }, ty, pos, after, g⟩ a w T := by
  refine Runs.call (f := f) (args := vs) (w' := w) ?_ h
  have e : execOp a.eval ⟨dst, .call { callee := .value (.func f), args := xs, argTypes := ts }, ty, pos, after, g⟩ = (do let d ← resolve a.eval { callee := .value (.func f), args := xs, argTypes := ts } ty; invoke d.target d.args) := rfl
  rw [e]
  have e2 : resolve a.eval { callee := .value (.func f), args := xs, argTypes := ts } ty = Deferred.ofValue (.func (.func f) #[] #[]) vs := by rw [← hx]; rfl
  rw [e2]
  have e3 : (Deferred.ofValue (.func (.func f) #[] #[]) vs : Sem Deferred) = pure { target := .fn (.func f) #[], args := #[] ++ vs } := rfl
  rw [e3]
  have := hf vs w
  simpa [invoke, go_sem] using this
theorem runs_call1 {f : FuncId} {x : Nat} {t : TypeId} {v : Value} (hf : Enters P f) (hx : slot a x = v) (h : Calls P f #[v] w fun e w'' => ∃ v, e = .returned v ∧ T v w'') : Runs P ⟨dst, .call { callee := .value (.func f), args := #[.tmp x], argTypes := #[t] }, ty, pos, after, g⟩ a w T :=
  runs_call hf (by simp [slot_eval, hx]) h
theorem runs_call2 {f : FuncId} {x y : Nat} {ts : Array TypeId} {v u : Value} (hf : Enters P f) (hx : slot a x = v) (hy : slot a y = u) (h : Calls P f #[v, u] w fun e w'' => ∃ v, e = .returned v ∧ T v w'') : Runs P ⟨dst, .call { callee := .value (.func f), args := #[.tmp x, .tmp y], argTypes := ts }, ty, pos, after, g⟩ a w T :=
  runs_call hf (by simp [slot_eval, hx, hy]) h
theorem runs_call3 {f : FuncId} {x y z : Nat} {ts : Array TypeId} {v u t : Value} (hf : Enters P f) (hx : slot a x = v) (hy : slot a y = u) (hz : slot a z = t) (h : Calls P f #[v, u, t] w fun e w'' => ∃ v, e = .returned v ∧ T v w'') : Runs P ⟨dst, .call { callee := .value (.func f), args := #[.tmp x, .tmp y, .tmp z], argTypes := ts }, ty, pos, after, g⟩ a w T :=
  runs_call hf (by simp [slot_eval, hx, hy, hz]) h
end
/-- The world has only grown. -/
def Grew (w w' : World) : Prop := Below w.heap.size w w'
theorem Grew.refl (w : World) : Grew w w := Below.refl _ _
theorem Grew.trans {a b c : World} (h : Grew a b) (h' : Grew b c) : Grew a c := Below.trans h (Below.mono h' h.size)
theorem Grew.drew (w : World) : Grew w w.drew := (Below.refl _ _).drew
/-- The claims, as a list. -/
def postAt (ps : List (Value → World → Prop)) (i : Nat) : Value → World → Prop := ps.getD i (fun _ _ => True)
def Monos : List (Value → World → Prop) → Prop
  | [] => True
  | p :: ps => (∀ v w w', Grew w w' → p v w → p v w') ∧ Monos ps
theorem Monos.at : ∀ {ps : List (Value → World → Prop)}, Monos ps → ∀ (i : Nat) (v : Value) (w w' : World), Grew w w' → postAt ps i v w → postAt ps i v w'
  | [], _, _, _, _, _, _, _ => trivial
  | _ :: _, h, 0, v, w, w', hg, hp => h.1 v w w' hg hp
  | _ :: ps, h, i + 1, v, w, w', hg, hp => Monos.at (ps := ps) h.2 i v w w' hg hp
theorem mono_eq (x : Value) : ∀ (v : Value) (w w' : World), Grew w w' → v = x → v = x := fun _ _ _ _ h => h
section
variable {P : Program} {id : Nat} {ops : Array Oper} {Q : Exit → Act → World → Prop} {a0 : Act} {w0 : World}
theorem wp_posts (sl : List (Option Nat)) (D : List Bool) (ps : List (Value → World → Prop)) (hm : P.follows .mixedOrders = true) (hok : regionOk ops sl D = true) (hD : D.length = a0.tmps.size) (hps : Monos ps)
    (hs : Steps P Grew (postAt ps) sl (mixA D a0) w0.drew 0 ops.toList) (hend : ∀ u w, Grew w0.drew w → (∀ i, i < ops.size → postAt ps i (uval sl u i) w) → Q .normal (mixA D a0 u) w) : (Code.region id ops true).wp P Q a0 w0 :=
  wp_region_posts sl D Grew (postAt ps) hm hok hD Grew.refl Grew.trans hps.at hs hend
end
end Go.Proofs.YtcajamgajchheaaDoor
