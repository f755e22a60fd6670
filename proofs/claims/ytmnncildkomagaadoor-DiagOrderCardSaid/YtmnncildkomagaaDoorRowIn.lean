/-
  APPEND TO A ROW OF THE CALL's OWN, INSIDE A FENCE (any program). Nothing of the program stands here.
-/
import Derived.Test.YtmnncildkomagaaDoorRow
import Derived.OwnWalkIn
import Derived.TacticsInMore
namespace Go.Proofs.YtmnncildkomagaaDoor
open Go Go.RowKit Go.ChangeShapes Go.WideShapes Go.ChangeAt
theorem wpListIn_append_row {F : Fence} {m : Nat} {α : Type} {k : Nat} {enc : α → List Value} {P : Program} {w : World} {ops : Array Oper} {rest : List Oper} {o : Oper} {a : Act} {Q : Exit → Act → World → Prop} (E : Enc k enc) (hgd : o.guard = none) (s x : Operand) (t : TypeId)
    (ho : o.op = .call { callee := .builtin .append, args := #[s, x], argTypes := #[t, t] })
    (base : Nat) (e : TypeId) (z : Value) (by' : Nat) (ht : P.underlying t = some (.slice e)) (hi : (P.info? e).map (fun i => (i.zero, i.size, i.bytes)) = some (some z, k, by')) (hzs : z.cells.size = k)
    (v : Value) (xs : List α) (hs : a.eval s = v) (hown : OwR w base e k enc v xs)
    (p : Option Addr) (n c : Nat) (ys : List α) (hx : a.eval x = .slice p n c) (hl : ys.length = n) (hin : Rw k enc w p c ys)
    (hbytes : (xs.length + ys.length) * by' ≤ 140737488355328) (h63 : xs.length + ys.length ≤ 9223372036854775807) (hbase : base ≤ w.heap.size)
    (h : ∀ p' c' zs w', Hid (zs = xs ++ ys) → OwR w' base e k enc (.slice p' zs.length c') zs → Below base w w' → Chg w w' (fun j => v.ownBlock = some j) → (Value.ownBlock (.slice p' zs.length c') = v.ownBlock ∨ Value.ownBlock (.slice p' zs.length c') = some w.heap.size) → wpListIn F m P ops Q rest (a.put o.dst (.slice p' zs.length c')) w') : wpListIn F m P ops Q (o :: rest) a w := by
  obtain ⟨v', w', hrun, h2, h3, h4, h5⟩ := run_append_row (P := P) E t o.type base e z by' ht hi hzs v xs hown p n c ys hl hin hbytes h63 hbase
  obtain ⟨p', c', rfl, _, _⟩ := h2.parts E
  refine wpListIn_plain hgd fun K hK => ?_
  unfold Oper.wpIn
  refine ⟨?_, ?_⟩
  · simp [Oper.about, ho, resolve, Target.leads, Sem.run_pure]
  · rw [Oper.semAt_plain F _ _ (by rw [ho]; intro c hc'; cases hc')]
    simp [execOp, ho, resolve, invoke, builtin, hs, hx, hrun, Result.andThen]
    have := h p' c' _ w' rfl h2 h3 (Chg.of_grownBy h4) h5
    rw [List.length_append] at this
    exact hK _ _ this
/-- The same outside a fence; it says where the new row lies. -/
theorem wpList_append_rowO {α : Type} {k : Nat} {enc : α → List Value} {P : Program} {w : World} {ops : Array Oper} {rest : List Oper} {o : Oper} {a : Act} {Q : Exit → Act → World → Prop} (E : Enc k enc) (hgd : o.guard = none) (s x : Operand) (t : TypeId)
    (ho : o.op = .call { callee := .builtin .append, args := #[s, x], argTypes := #[t, t] })
    (base : Nat) (e : TypeId) (z : Value) (by' : Nat) (ht : P.underlying t = some (.slice e)) (hi : (P.info? e).map (fun i => (i.zero, i.size, i.bytes)) = some (some z, k, by')) (hzs : z.cells.size = k)
    (v : Value) (xs : List α) (hs : a.eval s = v) (hown : OwR w base e k enc v xs)
    (p : Option Addr) (n c : Nat) (ys : List α) (hx : a.eval x = .slice p n c) (hl : ys.length = n) (hin : Rw k enc w p c ys)
    (hbytes : (xs.length + ys.length) * by' ≤ 140737488355328) (h63 : xs.length + ys.length ≤ 9223372036854775807) (hbase : base ≤ w.heap.size)
    (h : ∀ p' c' zs w', Hid (zs = xs ++ ys) → OwR w' base e k enc (.slice p' zs.length c') zs → Below base w w' → Chg w w' (fun j => v.ownBlock = some j) → (Value.ownBlock (.slice p' zs.length c') = v.ownBlock ∨ Value.ownBlock (.slice p' zs.length c') = some w.heap.size) → wpList P ops Q rest (a.put o.dst (.slice p' zs.length c')) w') : wpList P ops Q (o :: rest) a w := by
  obtain ⟨v', w', hrun, h2, h3, h4, h5⟩ := run_append_row (P := P) E t o.type base e z by' ht hi hzs v xs hown p n c ys hl hin hbytes h63 hbase
  obtain ⟨p', c', rfl, _, _⟩ := h2.parts E
  refine wpList_plain hgd fun K hK => ?_
  unfold Oper.wp
  simp [execOp, ho, resolve, invoke, builtin, hs, hx, hrun, Result.andThen]
  have := h p' c' _ w' rfl h2 h3 (Chg.of_grownBy h4) h5
  rw [List.length_append] at this
  exact hK _ _ this
end Go.Proofs.YtmnncildkomagaaDoor
