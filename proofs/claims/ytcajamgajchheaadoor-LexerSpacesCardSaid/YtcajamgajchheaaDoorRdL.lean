/-
  SLICES OF STRUCTS OF WHATEVER FLAT SHAPE (any program): how they lie, that they stay, how an argument of such a type opens. Nothing of the program stands here.
-/
import Derived.WalkKit
import Derived.Deep.SlicePairs
import Derived.Deep.Strs
import Derived.Lib.SmallJoins
import Derived.Test.YtcajamgajchheaaDoorPostsOps
namespace Go.Proofs.YtcajamgajchheaaDoor
open Go Go.RowKit Go.ChangeShapes Go.WideShapes Go.ChangeAt
set_option linter.unusedSimpArgs false

/-- The slice value of the address p and the capacity c holds xs, each of k cells. -/
structure RdL {α : Type} (k : Nat) (enc : α → List Value) (w : World) (p : Option Addr) (c : Nat) (xs : List α) : Prop where
  cap : xs.length ≤ c
  max : c ≤ 9223372036854775807
  cells : 0 < xs.length → ∃ b o, p = some ⟨b, o, none⟩ ∧ ∀ i x, xs[i]? = some x → ∀ j v, (enc x)[j]? = some v → w.cell? ⟨b, o + i * k + j, none⟩ = some v
theorem RdL.kept {α : Type} {k : Nat} {enc : α → List Value} {w w' : World} {p : Option Addr} {c : Nat} {xs : List α} (h : RdL k enc w p c xs) (hb : Grew w w') : RdL k enc w' p c xs :=
  ⟨h.cap, h.max, fun hn => by
    obtain ⟨b, o, rfl, hc⟩ := h.cells hn
    exact ⟨b, o, rfl, fun i x hx j v hv => (Below.cell hb (p := ⟨b, _, none⟩) (World.block_lt_of_cell? _ _ (hc i x hx j v hv))).trans (hc i x hx j v hv)⟩⟩
theorem RdL.nil {α : Type} (k : Nat) (enc : α → List Value) (w : World) (p : Option Addr) (c : Nat) (hc : c ≤ 9223372036854775807) : RdL k enc w p c ([] : List α) := ⟨Nat.zero_le _, hc, fun h => absurd h (Nat.lt_irrefl 0)⟩

/-- The cells of a flat type. -/
inductive LK where
  | int (k : IntKind)
  | bool
  | str
def OkLeaf : LK → Value → Prop
  | .int k, v => ∃ n, v = .int k n ∧ (Lit.int k n).wf = true
  | .bool, v => ∃ b, v = .bool b
  | .str, v => ∃ s, v = .string s ∧ s.size ≤ maxLen
inductive Rowed : List LK → List Value → Prop where
  | nil : Rowed [] []
  | cons {k : LK} {ks : List LK} {v : Value} {vs : List Value} (h : OkLeaf k v) (t : Rowed ks vs) : Rowed (k :: ks) (v :: vs)
theorem Rowed.append {a b : List LK} {x y : List Value} (h : Rowed a x) (h' : Rowed b y) : Rowed (a ++ b) (x ++ y) := by
  induction h with
  | nil => exact h'
  | cons h _ ih => exact .cons h ih
theorem Rowed.len {a : List LK} {x : List Value} (h : Rowed a x) : x.length = a.length := by
  induction h with
  | nil => rfl
  | cons _ _ ih => simp [ih]
def leafFs (P : Program) (g : TypeId → Option (List LK)) : Nat → List Field → Option (List LK)
  | _, [] => some []
  | off, fd :: r => if fd.offset = off then (g fd.type).bind fun k => if P.cellsOf fd.type = k.length then (leafFs P g (off + k.length) r).map (k ++ ·) else none else none
def leafK (P : Program) : Nat → TypeId → Option (List LK)
  | 0, _ => none
  | f + 1, t => match P.underlying t with
    | some (.int k) => some [.int k]
    | some .bool => some [.bool]
    | some .string => some [.str]
    | some (.struct fs) => (leafFs P (leafK P f) 0 fs.toList).bind fun ks => if P.cellsOf t = ks.length then some ks else none
    | _ => none
section
variable {H : Type} {enc : TypeId × Value → H} {P : Program} {W : World} {base : Nat} {spare : Nat → Bool} {held : Bool}
theorem leafFs_open (g : TypeId → Option (List LK)) (n : Nat) (cs : List Value) (hg : ∀ t ks, g t = some ks → ∀ cs x, DataW.trod enc P W base spare held n t cs = some x → Rowed ks cs) :
    ∀ (r : List Field) (off : Nat) (ks : List LK), leafFs P g off r = some ks → (∀ f ∈ r, ∃ x, DataW.trod enc P W base spare held n f.type ((cs.drop f.offset).take (P.cellsOf f.type)) = some x) → Rowed ks ((cs.drop off).take ks.length)
  | [], off, ks, h, _ => by
    obtain rfl : [] = ks := by simpa [leafFs] using h
    exact .nil
  | fd :: r, off, ks, h, hf => by
    unfold leafFs at h
    split at h
    · rename_i ho
      cases hk : g fd.type with
      | none => rw [hk] at h; cases h
      | some k =>
        rw [hk] at h
        simp only [Option.bind_some] at h
        split at h
        · rename_i hc
          cases hr : leafFs P g (off + k.length) r with
          | none => rw [hr] at h; cases h
          | some k' =>
            rw [hr] at h
            obtain rfl : k ++ k' = ks := by simpa using h
            obtain ⟨x, hx⟩ := hf fd (List.mem_cons_self ..)
            have h1 := hg _ _ hk _ _ hx
            rw [ho, hc] at h1
            have h2 := leafFs_open g n cs hg r (off + k.length) k' hr (fun f hm => hf f (List.mem_cons_of_mem _ hm))
            have := h1.append h2
            rw [List.length_append, List.take_add]
            rwa [← List.drop_drop] at this
        · cases h
    · cases h
theorem leaf_open : ∀ (f : Nat) (t : TypeId) (ks : List LK), leafK P f t = some ks → ∀ (n : Nat) (cs : List Value) (x : DataW H × List MemPlace), DataW.trod enc P W base spare held n t cs = some x → Rowed ks cs
  | 0, _, _, h, _, _, _, _ => by cases h
  | f + 1, t, ks, h, n, cs, x, hx => by
    unfold leafK at h
    split at h
    · rename_i k hu
      obtain rfl := Option.some.inj h
      obtain ⟨m, rfl, _, hw⟩ := DataW.trod_int hu hx
      exact .cons ⟨m, rfl, hw⟩ .nil
    · rename_i hu
      obtain rfl := Option.some.inj h
      obtain ⟨b, rfl, _⟩ := DataW.trod_bool hu hx
      exact .cons ⟨b, rfl⟩ .nil
    · rename_i hu
      obtain rfl := Option.some.inj h
      obtain ⟨s, rfl, _, hs⟩ := DataW.trod_string hu hx
      exact .cons ⟨s, rfl, hs⟩ .nil
    · rename_i fs hu
      cases hl : leafFs P (leafK P f) 0 fs.toList with
      | none => rw [hl] at h; cases h
      | some ks' =>
        rw [hl] at h
        simp only [Option.bind_some] at h
        split at h
        · rename_i hc
          obtain rfl := Option.some.inj h
          obtain ⟨xs, m, _, _, hlen, hxs, hf⟩ := DataW.trod_struct hu hx
          have := leafFs_open (leafK P f) m cs (fun t ks ht cs x hx => leaf_open f t ks ht m cs x hx) fs.toList 0 ks' hl (fun fd hm => by
            obtain ⟨i, hi, rfl⟩ := List.getElem_of_mem hm
            have h1 := hf i fs.toList[i] (by rw [← Array.getElem?_toList]; exact List.getElem?_eq_getElem hi)
            have h2 : i < xs.length := by rw [hxs]; simpa using hi
            rw [List.getElem?_eq_getElem h2] at h1
            exact ⟨_, h1⟩)
          rw [List.drop_zero, List.take_of_length_le (by rw [hlen, hc]; exact Nat.le_refl _)] at this
          exact this
        · cases h
    · cases h
/-- An argument that is a slice of such a type. -/
theorem RdL.opened {α : Type} [Inhabited α] {t e : TypeId} (k : Nat) (row : α → List Value) (ok : α → Prop) (ks : List LK) (ht : P.underlying t = some (.slice e)) (hk : P.cellsOf e = k) (hks : leafK P 9 e = some ks) (hkl : ks.length = k)
    (hrow : ∀ cs, Rowed ks cs → ∃ q : α, cs = row q ∧ ok q) {a0 : Option Addr} {len cap : Nat} {d0 : DataW H} {p : List MemPlace} (h : DataW.Trod enc P W 0 (fun _ => true) true t (.slice a0 len cap) d0 p) (k0 : 0 < k) :
    ∃ l : List α, l.length = len ∧ RdL k row W a0 cap l ∧ ∀ x ∈ l, ok x := by
  obtain ⟨fuel, hf⟩ := h
  rcases Go.Deep.open_slice ht hf with ⟨hcs, _⟩ | ⟨a, len', cap', m, n, D, Pl, hcs, _, hl, hm', hmm, _, hall⟩
  · simp [Value.cells] at hcs
    obtain ⟨rfl, rfl, rfl⟩ := hcs
    exact ⟨[], rfl, RdL.nil _ _ _ _ _ (by omega), fun x h => by cases h⟩
  · simp [Value.cells] at hcs
    obtain ⟨rfl, rfl, rfl⟩ := hcs
    simp only [if_true] at hmm
    subst hmm
    have each : ∀ i, i < m → ∃ q : α, ok q ∧ ∀ j v, (row q)[j]? = some v → W.cell? ((a.add (i * k)).add j) = some v := fun i hi => by
      obtain ⟨cs', g0, g1⟩ := hall i hi
      rw [hk] at g0
      obtain ⟨q, rfl, hq⟩ := hrow cs' (leaf_open 9 e ks hks _ _ _ g1)
      obtain ⟨_, hlen, hcell⟩ := World.cells?_some g0
      refine ⟨q, hq, fun j v hv => ?_⟩
      have hj : j < (row q).length := (List.getElem?_eq_some_iff.1 hv).1
      have h1 := hcell j (by omega)
      rw [h1]
      simp only [List.getD, hv, Option.getD_some]
    let q : Nat → α := fun i => if h : i < m then (each i h).choose else default
    have hq : ∀ i, i < m → ok (q i) ∧ ∀ j v, (row (q i))[j]? = some v → W.cell? ((a.add (i * k)).add j) = some v := fun i hi => by
      have := (each i hi).choose_spec
      simpa only [q, hi, dif_pos] using this
    refine ⟨(List.range len).map q, by simp, ⟨by simpa using hl, by simpa [maxLen] using hm', fun h => ?_⟩, fun x hx => ?_⟩
    · simp at h
      obtain ⟨b, o, s⟩ := a
      obtain ⟨cs', g0, g1⟩ := hall 0 (by omega)
      obtain ⟨_, hlen, hcell⟩ := World.cells?_some g0
      have h0 := hcell 0 (by rw [hk]; exact k0)
      have h2 : 0 < cs'.length := by rw [hlen, hk]; exact k0
      rw [List.getElem?_eq_getElem h2] at h0
      obtain rfl : s = none := by simpa [Addr.add] using World.cell?_spot h0
      refine ⟨b, o, rfl, fun i e hi j v hv => ?_⟩
      have hil := (List.getElem?_eq_some_iff.1 hi).1
      simp at hil
      have he : e = q i := by simpa [hil] using hi.symm
      subst he
      have := (hq i (by omega)).2 j v hv
      rw [Go.WideShapes.add_plain, Go.WideShapes.add_plain] at this
      exact this
    · obtain ⟨i, hi, rfl⟩ := List.mem_map.1 hx
      exact (hq i (by have := List.mem_range.1 hi; omega)).1
end
end Go.Proofs.YtcajamgajchheaaDoor
