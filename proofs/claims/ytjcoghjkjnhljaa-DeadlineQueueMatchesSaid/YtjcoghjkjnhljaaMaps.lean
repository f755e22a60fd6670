/-
  MAPS WITH KEYS OF TYPE int, over whatever program and whatever plain elements: as functions. Nothing of the program stands here.
-/
import Derived.WalkKit
import Derived.Lib.Hide
import Derived.Maps.OwnSet
import Derived.Maps.Views
import Derived.WalkArith
namespace Go.Proofs.Ytjcoghjkjnhljaa
open Go Go.RowKit
open Go.Maps (Keyed int_keyed keyOf_int_mk)
open Go.ChangeMaps (heap_setBlock_other)

theorem ownsMap_sharp {H : Type} {P : Program} {k : TypeId} {R : Value → Option (DataW H × List MemPlace)} {w : World} {b n : Nat} {D : DataW H} (h : w.ownsMap P k R b n D) : w.ownsMap P k R b (Maps.size D) D := by
  obtain ⟨es, clock, hb, F, hs, rfl⟩ := h
  exact ⟨es, clock, hb, F, by simp [Maps.size, length_sorted], rfl⟩
theorem plainElem_bool_inv {H : Type} {P : Program} {e : TypeId} (he : P.underlying e = some .bool) {v : Value} {z : DataW H × List MemPlace} (h : plainElem P e v = some z) : ∃ b, v = .bool b ∧ z = (.lit (.bool b), []) := by
  unfold plainElem at h
  rw [he] at h
  cases v <;> simp at h
  exact ⟨_, rfl, h.symm⟩

/-- The elements of a type: their values, how they read, the zero. -/
structure Elm (P : Program) (e : TypeId) (α : Type) where
  ev : α → Value
  el : α → Lit
  z : α
  ok : α → Prop
  rd : ∀ a, ok a → plainElem (H := Unit) P e (ev a) = some (.lit (el a), [])
  inv : ∀ (v : Value) (a : α) (ps : List MemPlace), plainElem (H := Unit) P e v = some (.lit (el a), ps) → v = ev a
  zero : ∀ w, (zeroValue e).run P w = .ok (ev z) w
  zok : ok z
def elmInt {P : Program} {e : TypeId} (he : P.underlying e = some (.int .i64)) (hz : ∀ w, (zeroValue e).run P w = .ok (.int .i64 0) w) : Elm P e Int where
  ev := Value.int .i64
  el := Lit.int .i64
  z := 0
  ok := fun a => (Lit.int .i64 a).wf = true
  rd := fun a h => plainElem_int he h
  inv := fun v a ps h => by
    obtain ⟨c, rfl, hc, _⟩ := plainElem_int_inv he h
    simp only [Prod.mk.injEq, DataW.lit.injEq, Lit.int.injEq, true_and] at hc
    rw [hc.1]
  zero := hz
  zok := by decide
def elmBool {P : Program} {e : TypeId} (he : P.underlying e = some .bool) (hz : ∀ w, (zeroValue e).run P w = .ok (.bool false) w) : Elm P e Bool where
  ev := Value.bool
  el := Lit.bool
  z := false
  ok := fun _ => True
  rd := fun a _ => plainElem_bool he a
  inv := fun v a ps h => by
    obtain ⟨c, rfl, hc⟩ := plainElem_bool_inv he h
    simp only [Prod.mk.injEq, DataW.lit.injEq, Lit.bool.injEq] at hc
    rw [hc.1]
  zero := hz
  zok := trivial

section
variable {P : Program} {k e t : TypeId} {α : Type} {E : Elm P e α} {w w' : World} {b s : Nat} {f : Int → Option α}
def In64 (i : Int) : Prop := -9223372036854775808 ≤ i ∧ i ≤ 9223372036854775807
theorem In64.wf {i : Int} (h : In64 i) : (Lit.int .i64 i).wf = true := WalkArith.wf_i64 h
/-- Block b is a map of s entries that reads as f at the keys of type int. -/
def MapG (k : TypeId) (E : Elm P e α) (w : World) (b s : Nat) (f : Int → Option α) : Prop :=
  ∃ D : DataW Unit, w.ownsMap P k (plainElem P e) b s D ∧ Maps.size D = s ∧ ∀ i, In64 i → Maps.has D (.int .i64 i) = (f i).isSome ∧ ∀ v, f i = some v → D.atKey (.int .i64 i) (.lit (E.el E.z)) = .lit (E.el v)
theorem MapG.lt (h : MapG k E w b s f) : b < w.heap.size := let ⟨_, h, _⟩ := h; h.lt
theorem MapG.made (w : World) : MapG k E (w.alloc (.map #[] 0)) w.heap.size 0 (fun _ => none) :=
  ⟨.map [], World.ownsMap_made w P k _, rfl, fun i _ => ⟨rfl, fun v h => by cases h⟩⟩
theorem MapG.keep (h : MapG k E w b s f) (hb : w'.heap[b]? = w.heap[b]?) : MapG k E w' b s f := by
  obtain ⟨D, ⟨es, clock, hb', F, hs, rfl⟩, h2⟩ := h
  exact ⟨_, ⟨es, clock, by rw [hb]; exact hb', F, hs, rfl⟩, h2⟩
theorem MapG.ismap (h : MapG k E w b s f) : ∃ es clock, w.heap[b]? = some (.map es clock) := by
  obtain ⟨D, ⟨es, clock, hb, _⟩, _⟩ := h
  exact ⟨es, clock, hb⟩
variable (hk : P.underlying k = some (.int .i64)) (ht : P.underlying t = some (.map k e))
include hk ht
theorem MapG.look (h : MapG k E w b s f) {i : Int} (hi : In64 i) : (Instr.lookup t (.map (some b)) (.int .i64 i) false).run P w = .ok (E.ev ((f i).getD E.z)) w := by
  obtain ⟨D, hown, hs, hf⟩ := h
  obtain ⟨v, ps, hrun, hv⟩ := hown.lookup (int_keyed hk) ht (E.zero w) (E.rd _ E.zok) (keyOf_int_mk hk hi.wf)
  rw [hrun]
  obtain ⟨h1, h2⟩ := hf i hi
  cases hfi : f i with
  | none =>
    rw [hfi] at h1
    rw [Maps.atKey_of_not_has h1] at hv
    rw [E.inv _ _ _ hv]
    rfl
  | some x =>
    rw [h2 x hfi] at hv
    rw [E.inv _ _ _ hv]
    rfl
theorem MapG.look_ok (h : MapG k E w b s f) {i : Int} (hi : In64 i) : (Instr.lookup t (.map (some b)) (.int .i64 i) true).run P w = .ok (.tuple #[E.ev ((f i).getD E.z), .bool (f i).isSome]) w := by
  obtain ⟨D, hown, hs, hf⟩ := h
  obtain ⟨v, ps, hrun, hv⟩ := hown.look_ok (int_keyed hk) ht (E.zero w) (E.rd _ E.zok) (keyOf_int_mk hk hi.wf)
  rw [hrun]
  obtain ⟨h1, h2⟩ := hf i hi
  rw [h1]
  cases hfi : f i with
  | none =>
    rw [hfi] at h1
    rw [Maps.atKey_of_not_has h1] at hv
    rw [E.inv _ _ _ hv]
    rfl
  | some x =>
    rw [h2 x hfi] at hv
    rw [E.inv _ _ _ hv]
    rfl
theorem MapG.store (h : MapG k E w b s f) (hs : s < maxLen) {i : Int} (hi : In64 i) {v : α} (hv : E.ok v) :
    ∃ w', (Instr.mapUpdate t (.map (some b)) (.int .i64 i) (E.ev v)).run P w = .ok () w' ∧ MapG k E w' b (if (f i).isSome then s else s + 1) (fun j => if j = i then some v else f j) ∧ w.mapTurned w' b := by
  obtain ⟨D, hown, hsz, hf⟩ := h
  obtain ⟨w', hrun, hown', ht'⟩ := hown.store (int_keyed hk) ht hs (keyOf_int_mk hk hi.wf) (E.rd v hv)
  refine ⟨w', hrun, ⟨D.put (.int .i64 i) (.lit (E.el v)), ?_, ?_, fun j hj => ?_⟩, ht'⟩
  · have h1 := ownsMap_sharp hown'
    rw [Maps.size_put (hown.tidy (int_keyed hk)), (hf i hi).1, hsz] at h1
    exact h1
  · rw [Maps.size_put (hown.tidy (int_keyed hk)), (hf i hi).1, hsz]
  · have hK : WideAt.IsKeyLit (Lit.int .i64 i) := trivial
    by_cases e : j = i
    · subst e
      rw [Maps.has_put_same hown.isMap hK, Maps.atKey_put_same hown.isMap hK]
      simp
    · have hne : Lit.int .i64 j ≠ Lit.int .i64 i := by simpa using e
      rw [Maps.has_put_other hne, Maps.atKey_put_other hne]
      simp only [if_neg e]
      exact hf j hj
theorem MapG.drop (h : MapG k E w b s f) {i : Int} (hi : In64 i) (ty : TypeId) :
    ∃ w', (Builtin.delete_ #[t, k] ty #[.map (some b), .int .i64 i]).run P w = .ok (.tuple #[]) w' ∧ MapG k E w' b (if (f i).isSome then s - 1 else s) (fun j => if j = i then none else f j) ∧ w.mapTurned w' b := by
  obtain ⟨D, hown, hsz, hf⟩ := h
  obtain ⟨w', hrun, hown', ht'⟩ := hown.drop (int_keyed hk) ht (keyOf_int_mk hk hi.wf) ty
  have e1 := Maps.size_del (k := Lit.int .i64 i) (hown.tidy (int_keyed hk))
  rw [(hf i hi).1, hsz] at e1
  have e2 : Maps.size (D.del (Lit.int .i64 i)) = if (f i).isSome then s - 1 else s := by
    split at e1 <;> rename_i h0
    · rw [if_pos h0]; omega
    · rw [if_neg h0]; omega
  refine ⟨w', hrun, ⟨D.del (.int .i64 i), e2 ▸ ownsMap_sharp hown', e2, fun j hj => ?_⟩, ht'⟩
  by_cases e : j = i
  · subst e
    rw [Maps.has_del_same]
    simp
  · have hne : Lit.int .i64 j ≠ Lit.int .i64 i := by simpa using e
    rw [Maps.has_del_other hne, Maps.atKey_del_other hne]
    simp only [if_neg e]
    exact hf j hj
end
theorem mapTurned_other {w w' : World} {b : Nat} (h : w.mapTurned w' b) (j : Nat) (hj : j ≠ b) : w'.heap[j]? = w.heap[j]? := by
  obtain ⟨es, clock, es', clock', hb, rfl⟩ := h
  exact heap_setBlock_other hb _ hj
end Go.Proofs.Ytjcoghjkjnhljaa
