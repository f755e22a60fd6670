/-
  SLICES OF ANY ONE-CELL ELEMENTS (slices of slices of bytes among them): where they lie, what append does to the one row it writes. Nothing of the program stands here.
-/
import Derived.Test.YtmfahmbebpojpaaSlices
import Derived.Maps.AppendAt
import Derived.Deep.Slices
namespace Go.Proofs.Ytmfahmbebpojpaa
open Go Go.RowKit Go.ChangeShapes Go.WideShapes Go.ChangeAt

/-- The slice value of the address p and the capacity c holds the values vs, a cell each. -/
structure BinV (w : World) (p : Option Addr) (c : Nat) (vs : List Value) : Prop where
  cap : vs.length ≤ c
  max : c ≤ 9223372036854775807
  bare : p = none → c = 0
  cells : 0 < vs.length → ∃ b o, p = some ⟨b, o, none⟩ ∧ ∀ i u, vs[i]? = some u → w.cell? ⟨b, o + i, none⟩ = some u

theorem Bin.vals {w : World} {p : Option Addr} {c : Nat} {xs : List UInt8} (h : Bin w p c xs) : BinV w p c (bvs xs) :=
  ⟨by rw [bvs_len]; exact h.cap, h.max, h.bare, fun hn => by
    rw [bvs_len] at hn
    obtain ⟨b, o, hp, hc⟩ := h.cells hn
    refine ⟨b, o, hp, fun i u hu => ?_⟩
    have hi : i < xs.length := by have := (List.getElem?_eq_some_iff.1 hu).1; rwa [bvs_len] at this
    rw [bvs_get hi] at hu
    rw [hc i hi, Option.some.inj hu]⟩
theorem BinV.cell {w : World} {b o c : Nat} {vs : List Value} (h : BinV w (some ⟨b, o, none⟩) c vs) (i : Nat) (u : Value) (hu : vs[i]? = some u) : w.cell? ⟨b, o + i, none⟩ = some u := by
  obtain ⟨b', o', hp, hc⟩ := h.cells (by have := (List.getElem?_eq_some_iff.1 hu).1; omega)
  obtain ⟨rfl, rfl⟩ : b = b' ∧ o = o' := by simpa using hp
  exact hc i u hu
theorem BinV.made (w : World) (u : Value) (e : TypeId) (fr : Nat × Nat) : BinV (w.alloc (.cells #[u] e fr)) (some ⟨w.heap.size, 0, none⟩) 1 [u] :=
  ⟨Nat.le_refl _, by omega, fun h => (by cases h), fun _ => ⟨_, _, rfl, fun i v hv => by
    rw [World.cell?_alloc_mark, Nat.zero_add]
    simpa using hv⟩⟩
/-- Of the blocks that were there only those that P names may have changed. -/
structure Kept (w w' : World) (g : Nat → Prop) : Prop where
  os : w'.os = w.os
  tape : w'.tape = w.tape
  output : w'.output = w.output
  size : w.heap.size ≤ w'.heap.size
  block : ∀ k, k < w.heap.size → ¬ g k → w'.heap[k]? = w.heap[k]?
theorem Kept.of_grown {w w' : World} {row : Option Nat} (h : w.grownBy w' row) : Kept w w' (fun k => row = some k) :=
  ⟨h.os, h.tape, h.output, h.size, fun k hk hn => h.block k hk (fun e => hn e.symm)⟩
theorem Kept.below {w w' : World} {g : Nat → Prop} (h : Kept w w' g) (N : Nat) (hN : N ≤ w.heap.size) (hg : ∀ k, k < N → ¬ g k) : Below N w w' :=
  ⟨h.os, h.tape, h.output, h.size, fun k hk => h.block k (by omega) (hg k hk)⟩
theorem BinV.keep {w w' : World} {p : Option Addr} {c : Nat} {vs : List Value} (h : BinV w p c vs) (hb : ∀ b o, p = some ⟨b, o, none⟩ → b < w.heap.size → w'.heap[b]? = w.heap[b]?) : BinV w' p c vs :=
  ⟨h.cap, h.max, h.bare, fun hn => by
    obtain ⟨b, o, rfl, hc⟩ := h.cells hn
    refine ⟨b, o, rfl, fun i u hu => ?_⟩
    exact (World.cell?_of_block (w := w) (w' := w') (a := ⟨b, o + i, none⟩) (hb b o rfl (World.block_lt_of_cell? _ _ (hc i u hu)))).trans (hc i u hu)⟩
theorem Bin.keep {w w' : World} {p : Option Addr} {c : Nat} {xs : List UInt8} (h : Bin w p c xs) (hb : ∀ b o, p = some ⟨b, o, none⟩ → b < w.heap.size → w'.heap[b]? = w.heap[b]?) : Bin w' p c xs :=
  ⟨h.cap, h.max, h.bare, fun hn => by
    obtain ⟨b, o, rfl, hc⟩ := h.cells hn
    refine ⟨b, o, rfl, fun i hi => ?_⟩
    exact (World.cell?_of_block (w := w) (w' := w') (a := ⟨b, o + i, none⟩) (hb b o rfl (World.block_lt_of_cell? _ _ (hc i hi)))).trans (hc i hi)⟩

/-- The block of the address holds elements of the type e. -/
def Typ (w : World) (p : Option Addr) (e : TypeId) : Prop := ∀ a, p = some a → ∃ cs fr, w.heap[a.block]? = some (.cells cs e fr)
theorem Typ.ne {w : World} {a b : Addr} {e e' : TypeId} (h : Typ w (some a) e) (h' : Typ w (some b) e') (hne : e ≠ e') : a.block ≠ b.block := by
  intro he
  obtain ⟨cs, fr, h1⟩ := h a rfl
  obtain ⟨cs', fr', h2⟩ := h' b rfl
  rw [he, h2] at h1
  simp only [Option.some.injEq, Obj.cells.injEq] at h1
  exact hne h1.2.1.symm
theorem Typ.lt {w : World} {a : Addr} {e : TypeId} (h : Typ w (some a) e) : a.block < w.heap.size := by
  obtain ⟨cs, fr, h1⟩ := h a rfl
  exact (Array.getElem?_eq_some_iff.1 h1).1
theorem Typ.keep {w w' : World} {p : Option Addr} {e : TypeId} (h : Typ w p e) (hb : ∀ a, p = some a → a.block < w.heap.size → w'.heap[a.block]? = w.heap[a.block]?) : Typ w' p e := fun a ha => by
  subst ha
  rw [hb a rfl h.lt]
  exact h a rfl
theorem Typ.none (w : World) (e : TypeId) : Typ w none e := fun a h => by cases h

/-- A slice of one-cell elements that the call itself made. -/
def OwnV (w : World) (base : Nat) (e : TypeId) (v : Value) (vs : List Value) : Prop := w.ownsRow base e 1 v vs.length vs
theorem Own.vals {w : World} {base : Nat} {e : TypeId} {v : Value} {xs : List UInt8} (h : Own w base e v xs) : OwnV w base e v (bvs xs) := by
  unfold OwnV
  rw [bvs_len]
  exact h
theorem OwnV.bytes {w : World} {base : Nat} {e : TypeId} {v : Value} {xs : List UInt8} (h : OwnV w base e v (bvs xs)) : Own w base e v xs := by
  unfold OwnV at h
  rw [bvs_len] at h
  exact h
theorem OwnV.nil (w : World) (base : Nat) (e : TypeId) : OwnV w base e (.slice none 0 0) [] := World.ownsRow_nil w base e 1
theorem OwnV.shape {w : World} {base : Nat} {e : TypeId} {v : Value} {vs : List Value} (h : OwnV w base e v vs) : ∃ p c, v = .slice p vs.length c ∧ BinV w p c vs ∧ Typ w p e ∧ (∀ a, p = some a → base ≤ a.block ∧ a.block < w.heap.size) := by
  have h0 := h
  rcases h.2 with ⟨rfl, hn⟩ | ⟨g, cap, cur, rfl, hb, hg, hc, hm, hs, ht⟩
  · obtain rfl : vs = [] := List.eq_nil_of_length_eq_zero hn
    exact ⟨none, 0, rfl, ⟨Nat.le_refl _, by omega, fun _ => rfl, fun h => absurd h (Nat.lt_irrefl 0)⟩, Typ.none _ _, fun a h => by cases h⟩
  · refine ⟨some ⟨g, 0, none⟩, cap, rfl, ⟨hc, by simpa [maxLen] using hm, fun h => (by cases h), fun _ => ⟨g, 0, rfl, fun i u hu => ?_⟩⟩, fun a ha => ?_, fun a ha => ?_⟩
    · have := World.ownsRow.cells (g := g) h0 rfl i u hu
      rw [Go.WideShapes.add_plain] at this
      exact this
    · obtain rfl := Option.some.inj ha
      exact ⟨_, _, hg⟩
    · obtain rfl := Option.some.inj ha
      exact ⟨hb, (Array.getElem?_eq_some_iff.1 hg).1⟩
theorem OwnV.parts {w : World} {base : Nat} {e : TypeId} {p : Option Addr} {n c : Nat} {vs : List Value} (h : OwnV w base e (.slice p n c) vs) : n = vs.length ∧ BinV w p c vs ∧ Typ w p e ∧ (∀ a, p = some a → base ≤ a.block ∧ a.block < w.heap.size) := by
  obtain ⟨p', c', hv, h1, h2, h3⟩ := h.shape
  simp only [Value.slice.injEq] at hv
  obtain ⟨rfl, rfl, rfl⟩ := hv
  exact ⟨rfl, h1, h2, h3⟩
theorem OwnV.keep {w w' : World} {base : Nat} {e : TypeId} {p : Option Addr} {n c : Nat} {vs : List Value} (h : OwnV w base e (.slice p n c) vs) (hb : ∀ a, p = some a → a.block < w.heap.size → w'.heap[a.block]? = w.heap[a.block]?) : OwnV w' base e (.slice p n c) vs := by
  refine ⟨h.1, ?_⟩
  rcases h.2 with hn | ⟨g, cap, cur, hv, h1, hg, rest⟩
  · exact .inl hn
  · have hp : p = some ⟨g, 0, none⟩ := by simp only [Value.slice.injEq] at hv; exact hv.1
    exact .inr ⟨g, cap, cur, hv, h1, by rw [hb _ hp (Array.getElem?_eq_some_iff.1 hg).1]; exact hg, rest⟩
theorem Own.keep {w w' : World} {base : Nat} {e : TypeId} {p : Option Addr} {n c : Nat} {xs : List UInt8} (h : Own w base e (.slice p n c) xs) (hb : ∀ a, p = some a → a.block < w.heap.size → w'.heap[a.block]? = w.heap[a.block]?) : Own w' base e (.slice p n c) xs := (h.vals.keep hb).bytes
theorem Own.typ {w : World} {base : Nat} {e : TypeId} {p : Option Addr} {n c : Nat} {xs : List UInt8} (h : Own w base e (.slice p n c) xs) : Typ w p e := h.vals.parts.2.2.1
theorem Own.place {w : World} {base : Nat} {e : TypeId} {p : Option Addr} {n c : Nat} {xs : List UInt8} (h : Own w base e (.slice p n c) xs) : ∀ a, p = some a → base ≤ a.block ∧ a.block < w.heap.size := h.vals.parts.2.2.2
theorem OwnV.down {w : World} {base base' : Nat} {e : TypeId} {v : Value} {vs : List Value} (h : OwnV w base e v vs) (hb : base' ≤ base) : OwnV w base' e v vs := by
  refine ⟨h.1, ?_⟩
  rcases h.2 with hn | ⟨g, cap, cur, hv, h1, r⟩
  · exact .inl hn
  · exact .inr ⟨g, cap, cur, hv, Nat.le_trans hb h1, r⟩
theorem Own.down {w : World} {base base' : Nat} {e : TypeId} {v : Value} {xs : List UInt8} (h : Own w base e v xs) (hb : base' ≤ base) : Own w base' e v xs := (h.vals.down hb).bytes
/-- A slice of the call's own with no element in it. -/
def Empty (w : World) (base : Nat) (e : TypeId) (p : Option Addr) (c : Nat) : Prop := OwnV w base e (.slice p 0 c) []
theorem OwnV.empty {w : World} {base : Nat} {e : TypeId} {p : Option Addr} {n c : Nat} {vs : List Value} (h : OwnV w base e (.slice p n c) vs) : Empty w base e p c := by
  refine ⟨rfl, ?_⟩
  rcases h.2 with ⟨hv, _⟩ | ⟨g, cap, cur, hv, hb, hg, hc, hm, hs, ht⟩
  · simp only [Value.slice.injEq] at hv
    obtain ⟨rfl, rfl, rfl⟩ := hv
    exact .inl ⟨rfl, rfl⟩
  · simp only [Value.slice.injEq] at hv
    obtain ⟨rfl, rfl, rfl⟩ := hv
    exact .inr ⟨g, c, cur, rfl, hb, hg, Nat.zero_le _, hm, hs, by simp⟩

section
variable {P : Program} {w : World} {ops : Array Oper} {rest : List Oper} {o : Oper} {a : Act} {Q : Exit → Act → World → Prop}

/-- What append leaves: the longer slice, in the old row or in a new one; the old slice's row still serves. -/
def Appended (w : World) (base : Nat) (e : TypeId) (p : Option Addr) (c : Nat) (vs : List Value) (v' : Value) (w' : World) : Prop :=
  ∃ p' c', v' = .slice p' vs.length c' ∧ OwnV w' base e (.slice p' vs.length c') vs ∧ Kept w w' (fun k => (p.map (·.block)) = some k) ∧ (p'.map (·.block) = p.map (·.block) ∨ p'.map (·.block) = some w.heap.size) ∧ Empty w' base e p c

theorem ownBlock_slice (p : Option Addr) (n c : Nat) : Value.ownBlock (.slice p n c) = p.map (·.block) := by cases p <;> rfl

theorem run_append_vals (t ty : TypeId) (base : Nat) (e : TypeId) (z : Value) (by' : Nat) (ht : P.underlying t = some (.slice e)) (hi : (P.info? e).map (fun i => (i.zero, i.size, i.bytes)) = some (some z, 1, by')) (hzs : z.cells.size = 1)
    (p : Option Addr) (n c : Nat) (us : List Value) (hown : OwnV w base e (.slice p n c) us) (q : Option Addr) (m d : Nat) (vs : List Value) (hl : vs.length = m) (hin : BinV w q d vs) (h1 : ∀ u ∈ vs, u.oneCell' = true)
    (h63 : us.length + vs.length ≤ 9223372036854775807) (hbytes : (us.length + vs.length) * by' ≤ 140737488355328) (hbase : base ≤ w.heap.size) :
    ∃ v' w', (Builtin.append_ #[t, t] ty #[.slice p n c, .slice q m d]).run P w = .ok v' w' ∧ Appended w base e p c (us ++ vs) v' w' := by
  obtain ⟨i, hi, hz0, hz1, hz2⟩ := info_parts hi
  subst hl
  have hempty := hown.empty
  obtain rfl := hown.parts.1
  cases q with
  | none =>
    have hc0 := hin.bare rfl
    obtain rfl : vs = [] := List.eq_nil_of_length_eq_zero (by have := hin.cap; omega)
    rw [hc0, List.append_nil]
    refine ⟨_, w, run_append_owned_none (P := P) (w := w) base t ty e i 1 ht hi _ us.length us hown, p, c, rfl, hown, ⟨rfl, rfl, rfl, Nat.le_refl _, fun _ _ _ => rfl⟩, .inl rfl, hempty⟩
  | some ad =>
    have hnews : ∀ j u, vs[j]? = some u → w.cell? (ad.add j) = some u := fun j u hu => by
      obtain ⟨b, o, hp, hc⟩ := hin.cells (by have := (List.getElem?_eq_some_iff.1 hu).1; omega)
      obtain rfl := Option.some.inj hp
      rw [Go.WideShapes.add_plain]
      exact hc j u hu
    have hm63 : us.length + vs.length ≤ maxLen := by simp only [maxLen]; omega
    obtain ⟨v', w', hrun, h2, h3, h4, h5⟩ := run_append_own_at (P := P) w base t ty e i z 1 by' ht hi hz0 hz1 hz2 hzs (by omega) (.slice p us.length c) us.length us hown ad vs.length d vs (by omega) hnews h1 hm63 hbytes hbase
    have h2' : OwnV w' base e v' (us ++ vs) := by unfold OwnV; rw [List.length_append]; exact h2
    obtain ⟨p', c', rfl, _, _, _⟩ := h2'.shape
    rw [ownBlock_slice, ownBlock_slice] at h5
    rw [ownBlock_slice] at h3
    refine ⟨_, w', hrun, p', c', rfl, h2', Kept.of_grown h3, h5, ?_⟩
    rcases hown.2 with ⟨hv, _⟩ | ⟨g, cap, cur, hv, hb, hg, hc, hm, hs, htk⟩
    · simp only [Value.slice.injEq] at hv
      obtain ⟨rfl, _, rfl⟩ := hv
      exact OwnV.nil _ _ _
    · simp only [Value.slice.injEq, true_and] at hv
      obtain ⟨rfl, rfl⟩ := hv
      by_cases hroom : us.length + vs.length ≤ c
      · have hr := run_append_room (P := P) w t ty e i ht hi g us.length c cur hg ad vs.length d vs (by rw [hz1]; omega) hnews h1 hroom (by rw [hz1]; omega)
        rw [hr] at hrun
        simp only [Result.ok.injEq] at hrun
        rw [← hrun.2]
        refine ⟨rfl, .inr ⟨g, c, _, rfl, hb, setRow_heap w g cur _ e _ hg, Nat.zero_le _, hm, ?_, by simp⟩⟩
        simp only [List.size_toArray, List.length_append, List.length_take, List.length_drop, Array.length_toList, hz1]
        omega
      · have hr := run_append_grow (P := P) w t ty e i z ht hi hz0 ⟨g, 0, none⟩ us.length c us (by rw [hz1]; omega) (World.ownsRow.cells (g := g) hown rfl) ad vs.length d vs (by rw [hz1]; omega) hnews (by omega) (by omega) (growslice_fits (by omega) (by rw [hz2]; exact hbytes))
        rw [hr] at hrun
        simp only [Result.ok.injEq] at hrun
        rw [← hrun.2]
        exact ⟨rfl, .inr ⟨g, c, cur, rfl, hb, (heap_alloc_old w.drew _ (Array.getElem?_eq_some_iff.1 hg).1).trans hg, Nat.zero_le _, hm, hs, by simp⟩⟩
theorem wpList_append_vals (hgd : o.guard = none) (s x : Operand) (t : TypeId)
    (ho : o.op = .call { callee := .builtin .append, args := #[s, x], argTypes := #[t, t] })
    (base : Nat) (e : TypeId) (z : Value) (by' : Nat) (ht : P.underlying t = some (.slice e)) (hi : (P.info? e).map (fun i => (i.zero, i.size, i.bytes)) = some (some z, 1, by')) (hzs : z.cells.size = 1)
    (p : Option Addr) (n c : Nat) (us : List Value) (hs : a.eval s = .slice p n c) (hown : OwnV w base e (.slice p n c) us)
    (q : Option Addr) (m d : Nat) (vs : List Value) (hx : a.eval x = .slice q m d) (hl : vs.length = m) (hin : BinV w q d vs) (h1 : ∀ u ∈ vs, u.oneCell' = true)
    (h63 : us.length + vs.length ≤ 9223372036854775807) (hbytes : (us.length + vs.length) * by' ≤ 140737488355328) (hbase : base ≤ w.heap.size)
    (h : ∀ p' c' n' w', Hid (Appended w base e p c (us ++ vs) (.slice p' n' c') w') → n' = us.length + vs.length → wpList P ops Q rest (a.put o.dst (.slice p' n' c')) w') : wpList P ops Q (o :: rest) a w := by
  obtain ⟨v', w', hrun, happ⟩ := run_append_vals (P := P) t o.type base e z by' ht hi hzs p n c us hown q m d vs hl hin h1 h63 hbytes hbase
  obtain ⟨p', c', rfl, h'⟩ := happ
  refine wpList_plain hgd fun K hK => ?_
  unfold Oper.wp
  simp [execOp, ho, resolve, invoke, builtin, hs, hx, hrun, Result.andThen]
  have := h p' c' _ w' ⟨p', c', rfl, h'⟩ (by simp)
  rw [List.length_append] at this
  exact hK _ _ this
theorem wp_append_vals (K : Act → World → Prop) (s x : Operand) (t : TypeId)
    (ho : o.op = .call { callee := .builtin .append, args := #[s, x], argTypes := #[t, t] })
    (base : Nat) (e : TypeId) (z : Value) (by' : Nat) (ht : P.underlying t = some (.slice e)) (hi : (P.info? e).map (fun i => (i.zero, i.size, i.bytes)) = some (some z, 1, by')) (hzs : z.cells.size = 1)
    (p : Option Addr) (n c : Nat) (us : List Value) (hs : a.eval s = .slice p n c) (hown : OwnV w base e (.slice p n c) us)
    (q : Option Addr) (m d : Nat) (vs : List Value) (hx : a.eval x = .slice q m d) (hl : vs.length = m) (hin : BinV w q d vs) (h1 : ∀ u ∈ vs, u.oneCell' = true)
    (h63 : us.length + vs.length ≤ 9223372036854775807) (hbytes : (us.length + vs.length) * by' ≤ 140737488355328) (hbase : base ≤ w.heap.size)
    (h : ∀ p' c' n' w', Hid (Appended w base e p c (us ++ vs) (.slice p' n' c') w') → n' = us.length + vs.length → K (a.put o.dst (.slice p' n' c')) w') : o.wp P a w K Q := by
  obtain ⟨v', w', hrun, happ⟩ := run_append_vals (P := P) t o.type base e z by' ht hi hzs p n c us hown q m d vs hl hin h1 h63 hbytes hbase
  obtain ⟨p', c', rfl, h'⟩ := happ
  unfold Oper.wp
  simp [execOp, ho, resolve, invoke, builtin, hs, hx, hrun, Result.andThen]
  have := h p' c' _ w' ⟨p', c', rfl, h'⟩ (by simp)
  rw [List.length_append] at this
  exact this
end

/-! ### Slices of slices of bytes -/
/-- A slice of bytes in memory: where it lies, its capacity, what it holds. -/
structure Pk where
  p : Option Addr
  c : Nat
  x : List UInt8
def Pk.val (t : Pk) : Value := .slice t.p t.x.length t.c
def pkv (l : List Pk) : List Value := l.map Pk.val
theorem pkv_len (l : List Pk) : (pkv l).length = l.length := by simp [pkv]
theorem pkv_append (a b : List Pk) : pkv (a ++ b) = pkv a ++ pkv b := by simp [pkv]
theorem pkv_one (l : List Pk) : ∀ u ∈ pkv l, u.oneCell' = true := by
  intro u hu
  obtain ⟨_, _, rfl⟩ := List.mem_map.1 hu
  rfl
theorem pkv_get (l : List Pk) (i : Nat) (h : i < l.length) : (pkv l)[i]? = some (l[i]).val := by simp [pkv, h]
/-- An argument of type [][]byte. -/
theorem BinL.opened {H : Type} {enc : TypeId × Value → H} {P : Program} {t e q : TypeId} (ht : P.underlying t = some (.slice e)) (he : P.underlying e = some (.slice q)) (hq : P.underlying q = some (.int .u8)) (ce : P.cellsOf e = 1) (cq : P.cellsOf q = 1)
    {W : World} {a0 : Option Addr} {len cap : Nat} {d0 : DataW H} {p : List MemPlace} (h0 : DataW.Trod enc P W 0 (fun _ => true) true t (.slice a0 len cap) d0 p) :
    ∃ l : List Pk, l.length = len ∧ BinV W a0 cap (pkv l) ∧ ∀ t ∈ l, Bin W t.p t.c t.x := by
  obtain ⟨fuel, hf⟩ := h0
  rcases Go.Deep.open_slice1 ht ce hf with ⟨hcs, hx⟩ | ⟨a, len', cap', m, n, V, D, Pl, hcs, _, hl, hm, hmm, hx, hel⟩
  · simp [Value.cells] at hcs
    obtain ⟨rfl, rfl, rfl⟩ := hcs
    exact ⟨[], rfl, ⟨Nat.le_refl _, by omega, fun _ => rfl, fun h => absurd h (Nat.lt_irrefl 0)⟩, fun t ht => by cases ht⟩
  · simp [Value.cells] at hcs
    obtain ⟨rfl, rfl, rfl⟩ := hcs
    simp only [if_true] at hmm
    subst hmm
    have each : ∀ i, i < m → ∃ t : Pk, V i = t.val ∧ Bin W t.p t.c t.x := fun i hi => by
      have h2 := (hel i hi).2
      rcases open_ints he hq cq h2 with ⟨hcs, _⟩ | ⟨a', len', cap', zs, hcs, _⟩
      · exact ⟨⟨none, 0, []⟩, by simpa [Pk.val] using hcs, Bin.nil W⟩
      · have hv : V i = .slice (some a') len' cap' := by simpa using hcs
        rw [hv] at h2
        obtain ⟨xs, hxl, hb⟩ := Bin.opened (W := W) (a0 := some a') (len := len') (cap := cap') he hq cq ⟨n, by simpa [Value.cells] using h2⟩
        exact ⟨⟨some a', cap', xs⟩, by rw [hv, ← hxl]; rfl, hb⟩
    have hin : Inhabited Pk := ⟨⟨none, 0, []⟩⟩
    obtain ⟨y, hy⟩ := Go.Deep.choose_lt each
    have hpv : ∀ i u, (pkv ((List.range len).map y))[i]? = some u → i < len ∧ u = (y i).val := fun i u hu => by
      have hi : i < len := by have := (List.getElem?_eq_some_iff.1 hu).1; rw [pkv_len] at this; simpa using this
      refine ⟨hi, ?_⟩
      simp [pkv, hi] at hu
      exact hu.symm
    refine ⟨(List.range len).map y, by simp, ⟨by rw [pkv_len]; simpa using hl, by simpa [maxLen] using hm, fun h => (by cases h), fun h => ?_⟩, fun t ht => ?_⟩
    · rw [pkv_len] at h
      simp at h
      have h1 := (hel 0 (by omega)).1
      obtain ⟨b, o, s⟩ := a
      obtain rfl : s = none := by simpa [Addr.add] using World.cell?_spot h1
      refine ⟨b, o, rfl, fun i u hu => ?_⟩
      obtain ⟨hi, rfl⟩ := hpv i u hu
      have h2 := (hel i (by omega)).1
      rw [Go.WideShapes.add_plain] at h2
      rw [h2, (hy i (by omega)).1]
    · obtain ⟨i, hi, rfl⟩ := List.mem_map.1 ht
      exact (hy i (by have := List.mem_range.1 hi; omega)).2
end Go.Proofs.Ytmfahmbebpojpaa
