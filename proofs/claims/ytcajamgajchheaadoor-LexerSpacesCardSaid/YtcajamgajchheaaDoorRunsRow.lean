/-
  APPEND TO A ROW OF THE CALL's OWN as an operation of a region that draws: it says where the new row lies (any program). Nothing of the program stands here.
-/
import Derived.Test.YtcajamgajchheaaDoorRow
namespace Go.Proofs.YtcajamgajchheaaDoor
open Go Go.RowKit Go.ChangeShapes Go.WideShapes Go.ChangeAt
theorem runs_append_rowO {α : Type} {k : Nat} {enc : α → List Value} {P : Program} {w : World} {a : Act} (E : Enc k enc) {s x : Operand} {t ty : TypeId} {dst : Option Tmp} {pos : String} {after : Array Edge} {g : Option (Nat × Bool)} {T : Value → World → Prop}
    (base : Nat) (e : TypeId) (z : Value) (by' : Nat) (ht : P.underlying t = some (.slice e)) (hi : (P.info? e).map (fun i => (i.zero, i.size, i.bytes)) = some (some z, k, by')) (hzs : z.cells.size = k)
    (v : Value) (xs : List α) (hs : a.eval s = v) (hown : OwR w base e k enc v xs)
    (p : Option Addr) (n c : Nat) (ys : List α) (hx : a.eval x = .slice p n c) (hl : ys.length = n) (hin : Rw k enc w p c ys)
    (hbytes : (xs.length + ys.length) * by' ≤ 140737488355328) (h63 : xs.length + ys.length ≤ 9223372036854775807) (hbase : base ≤ w.heap.size)
    (h : ∀ p' c' w', OwR w' base e k enc (.slice p' (xs.length + ys.length) c') (xs ++ ys) → Below base w w' → Chg w w' (fun j => v.ownBlock = some j) → (Value.ownBlock (.slice p' (xs.length + ys.length) c') = v.ownBlock ∨ Value.ownBlock (.slice p' (xs.length + ys.length) c') = some w.heap.size) → T (.slice p' (xs.length + ys.length) c') w') :
    Runs P ⟨dst, .call { callee := .builtin .append, args := #[s, x], argTypes := #[t, t] }, ty, pos, after, g⟩ a w T := by
  obtain ⟨v', w', hrun, h2, h3, h4, h5⟩ := run_append_row (P := P) E t ty base e z by' ht hi hzs v xs hown p n c ys hl hin hbytes h63 hbase
  obtain ⟨p', c', rfl, _, _⟩ := h2.parts E
  rw [List.length_append] at h2 hrun h5
  refine Runs.value (v := .slice p' (xs.length + ys.length) c') (w' := w') ?_ (h p' c' w' h2 h3 (Chg.of_grownBy h4) h5)
  simp [execOp, resolve, invoke, builtin, hs, hx, hrun, Result.andThen]
end Go.Proofs.YtcajamgajchheaaDoor
