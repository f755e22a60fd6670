/-
  CONTRACTS OF THE SPLITTER OF LAYER 3 (cobs): Write.
-/
import Derived.Test.YtkkooghmeoodaaaCobsFinish
namespace Go.Proofs.Ytkkooghmeoodaaa
open Go Go.RowKit Go.IntWalk
set_option linter.unusedSimpArgs false

/-! ### The candidate is kept only so far as it can matter -/
theorem stB_cut (most : Nat) (cand : List UInt8) (out : List (List UInt8)) (sk : Nat) : stB most ⟨cand.take (top most + 1), out, sk⟩ 0 = stB most ⟨cand, out, sk⟩ 0 := by
  rcases Nat.lt_or_ge (top most + 1) cand.length with h | h
  · have hl : (cand.take (top most + 1)).length = top most + 1 := by simp; omega
    rw [stB_bad most cand out sk (List.length_pos_iff.1 (by omega)) (cut_skip most cand (by omega)), stB_bad most _ out sk (List.length_pos_iff.1 (by omega)) (cut_skip most _ (by omega))]
  · rw [List.take_of_length_le h]
theorem take_join (a b : List UInt8) (S : Nat) : (a.take S ++ b).take S = (a ++ b).take S := by
  rw [List.take_append, List.take_append, List.take_take, Nat.min_self]
  congr 2
  rw [List.length_take]
  omega
theorem stL_out (most : Nat) (cand : List UInt8) (out : List (List UInt8)) (sk : Nat) (xs : List UInt8) : stL most ⟨cand, out, sk⟩ xs = ⟨(stL most ⟨cand, [], sk⟩ xs).cand, out ++ (stL most ⟨cand, [], sk⟩ xs).out, (stL most ⟨cand, [], sk⟩ xs).skip⟩ := by
  induction xs generalizing cand out sk with
  | nil => simp [stL]
  | cons c xs ih =>
    have e : ∀ s, stL most s (c :: xs) = stL most (stB most s c) xs := fun s => rfl
    rw [e, e]
    have h2 : stB most ⟨cand, out, sk⟩ c = ⟨(stB most ⟨cand, [], sk⟩ c).cand, out ++ (stB most ⟨cand, [], sk⟩ c).out, (stB most ⟨cand, [], sk⟩ c).skip⟩ := by
      unfold stB
      dsimp only
      split
      · simp
      · split
        · simp
        · split <;> simp
    rw [h2, ih, ih (stB most ⟨cand, [], sk⟩ c).cand (stB most ⟨cand, [], sk⟩ c).out]
    simp

/-! ### Packets in memory -/
/-- A packet aside of the splitter at sb. -/
structure PkIn (w : World) (sb : Nat) (t : Pk) : Prop where
  bin : Bin w t.p t.c t.x
  typ : Typ w t.p 5
  out : Out w sb t.p
theorem PkIn.off {w w' : World} {N sb : Nat} {t : Pk} (h : PkIn w sb t) (hf : Off N sb w w') (hN : w.heap.size ≤ N) : PkIn w' sb t :=
  ⟨h.bin.off h.out hf hN, h.typ.off h.out hf hN, h.out.off h.typ hf hN⟩
theorem OwnV.out {w : World} {base sb most sk : Nat} {ac : List UInt8} {e : TypeId} {p : Option Addr} {n c : Nat} {vs : List Value} (h : OwnV w base e (.slice p n c) vs) (hS : Spl w sb most ac sk) (h1 : e ≠ 46) (h2 : e ≠ 5) : Out w sb p := fun a ha hc => by
  obtain ⟨q, m, d, hr, ho⟩ := hS
  obtain ⟨cs, fr, h3⟩ := h.parts.2.2.1 a ha
  rcases (Spl.cand hr _).1 hc with he | he
  · rw [he, hr] at h3
    simp only [Option.some.injEq, Obj.cells.injEq] at h3
    exact h1 h3.2.1.symm
  · cases q with
    | none => simp at he
    | some b =>
      simp at he
      obtain ⟨cs', fr', h4⟩ := ho.parts.2.2.1 b rfl
      rw [he, h3] at h4
      simp only [Option.some.injEq, Obj.cells.injEq] at h4
      exact h2 h4.2.1
theorem OwnV.off {w w' : World} {base sb most sk N : Nat} {ac : List UInt8} {e : TypeId} {p : Option Addr} {n c : Nat} {vs : List Value} (h : OwnV w base e (.slice p n c) vs) (hS : Spl w sb most ac sk) (h1 : e ≠ 46) (h2 : e ≠ 5) (hf : Off N sb w w') (hN : w.heap.size ≤ N) : OwnV w' base e (.slice p n c) vs :=
  h.keep fun a ha hl => (hf.block a.block (by omega) (h.out hS h1 h2 a ha)).1
/-- append to a list of slices: what the splitter has and the packets stay. -/
theorem list_append {w w' : World} {base sb most sk : Nat} {ac : List UInt8} {p : Option Addr} {n c : Nat} {us vs : List Value} {v' : Value} (h : OwnV w base 22 (.slice p n c) us) (hS : Spl w sb most ac sk) (ha : Appended w base 22 p c vs v' w') (hbase : base ≤ w.heap.size) :
    Spl w' sb most ac sk ∧ (∀ t, PkIn w sb t → PkIn w' sb t) ∧ Off base sb w w' := by
  obtain ⟨p1, c1, rfl, _, hk, _, _⟩ := id ha
  have hout := h.out hS (by decide) (by decide)
  have hS' : Spl w' sb most ac sk := hS.keep fun k hkl hc => hk.block k hkl fun he => by
    cases p with
    | none => simp at he
    | some a => simp at he; exact hout a rfl (he ▸ hc)
  have hsb : w'.heap[sb]? = w.heap[sb]? := hk.block sb hS.lt fun he => by
    cases p with
    | none => simp at he
    | some a => simp at he; exact hout a rfl (.inl he)
  have hpk : ∀ t : Pk, PkIn w sb t → ∀ a, t.p = some a → a.block < w.heap.size → w'.heap[a.block]? = w.heap[a.block]? := fun t ht a hta hl => hk.block a.block hl fun he => by
    cases p with
    | none => simp at he
    | some b =>
      simp at he
      obtain ⟨cs, fr, h3⟩ := ht.typ a hta
      obtain ⟨cs', fr', h4⟩ := h.parts.2.2.1 b rfl
      rw [he, h3] at h4
      simp only [Option.some.injEq, Obj.cells.injEq] at h4
      exact absurd h4.2.1 (by decide)
  refine ⟨hS', fun t ht => ⟨ht.bin.keep fun b o hp hl => hpk t ht _ hp hl, ht.typ.keep (hpk t ht), fun a hta hc => ht.out a hta ((cand_same hsb _).1 hc)⟩, Off.of_below (hk.below base hbase fun k hkb he => ?_) hsb⟩
  cases p with
  | none => simp at he
  | some a =>
    simp at he
    have := (h.parts.2.2.2 a rfl).1
    omega
end Go.Proofs.Ytkkooghmeoodaaa
