/-
  SLICES OF ONE-CELL ELEMENTS, over whatever program and whatever elements (enc: the element as a cell): how they lie, that they stay, what is read, cut, made and appended. Nothing of the program stands here.
-/
import Derived.WalkKit
import Derived.Lib.Hide
import Derived.Laws.BytesArg
import Derived.Laws.IdiomStrings
import Derived.Lib.SlBytesConst
import Derived.Laws.AppendOwnNone
import Derived.ProofKit
namespace Go.Proofs.Ytjepjcdobgdacaa
open Go Go.RowKit Go.ChangeShapes Go.WideShapes Go.ChangeAt

/-- The slice value of the address p and the capacity c holds xs. -/
structure Rd {α : Type} (enc : α → Value) (w : World) (p : Option Addr) (c : Nat) (xs : List α) : Prop where
  cap : xs.length ≤ c
  max : c ≤ 9223372036854775807
  bare : p = none → c = 0
  cells : 0 < xs.length → ∃ b o, p = some ⟨b, o, none⟩ ∧ ∀ i u, xs[i]? = some u → w.cell? ⟨b, o + i, none⟩ = some (enc u)

section
variable {α : Type} {enc : α → Value} {w w' : World} {p : Option Addr} {c : Nat} {xs : List α}
theorem Rd.nil (w : World) : Rd enc w none 0 ([] : List α) := ⟨Nat.le_refl _, by omega, fun _ => rfl, fun h => absurd h (Nat.lt_irrefl 0)⟩
theorem Rd.cell {b o : Nat} (h : Rd enc w (some ⟨b, o, none⟩) c xs) (i : Nat) (u : α) (hi : xs[i]? = some u) : w.cell? ⟨b, o + i, none⟩ = some (enc u) := by
  obtain ⟨b', o', hp, hc⟩ := h.cells (by have := (List.getElem?_eq_some_iff.1 hi).1; omega)
  obtain ⟨rfl, rfl⟩ : b = b' ∧ o = o' := by simpa using hp
  exact hc i u hi
theorem Rd.at {b o : Nat} (h : Rd enc w (some ⟨b, o, none⟩) c xs) (i : Nat) (d : α) (hi : i < xs.length) : w.cell? ⟨b, o + i, none⟩ = some (enc (xs.getD i d)) :=
  h.cell i _ (by simp [List.getD, hi])
theorem Rd.lt {b o : Nat} (h : Rd enc w (some ⟨b, o, none⟩) c xs) (hn : 0 < xs.length) : b < w.heap.size :=
  World.block_lt_of_cell? _ _ (h.cell 0 _ (List.getElem?_eq_getElem hn))
/-- Nothing, or an address with its cells. -/
theorem Rd.parts (h : Rd enc w p c xs) : xs = [] ∨ (0 < xs.length ∧ ∃ b o, p = some ⟨b, o, none⟩) := by
  rcases Nat.eq_zero_or_pos xs.length with hn | hn
  · exact .inl (List.eq_nil_of_length_eq_zero hn)
  · obtain ⟨b, o, rfl, _⟩ := h.cells hn
    exact .inr ⟨hn, b, o, rfl⟩
theorem Rd.keep (h : Rd enc w p c xs) (hb : ∀ b o, p = some ⟨b, o, none⟩ → b < w.heap.size → w'.heap[b]? = w.heap[b]?) : Rd enc w' p c xs :=
  ⟨h.cap, h.max, h.bare, fun hn => by
    obtain ⟨b, o, rfl, hc⟩ := h.cells hn
    refine ⟨b, o, rfl, fun i u hu => ?_⟩
    exact (World.cell?_of_block (w := w) (w' := w') (a := ⟨b, o + i, none⟩) (hb b o rfl (World.block_lt_of_cell? _ _ (hc i u hu)))).trans (hc i u hu)⟩
theorem Rd.kept (h : Rd enc w p c xs) (hb : Below w.heap.size w w') : Rd enc w' p c xs := h.keep fun b _ _ hl => hb.block b hl
theorem Rd.drew (h : Rd enc w p c xs) : Rd enc w.drew p c xs := h.kept (Below.refl _ _).drew
theorem Rd.cut0 (h : Rd enc w p c xs) (L H : Nat) (hL : L ≤ H) (hH : H ≤ xs.length) : Rd enc w (if c = L then p else p.map (·.add (L * 1))) (c - L) ((xs.take H).drop L) := by
  have hcap := h.cap
  have hl : ((xs.take H).drop L).length = H - L := by simp; omega
  refine ⟨by omega, by have := h.max; omega, fun hn => ?_, fun h0 => ?_⟩
  · split at hn
    · omega
    · have := h.bare (by cases p <;> simp_all)
      omega
  · rw [hl] at h0
    obtain ⟨b, o, rfl, hc⟩ := h.cells (by omega)
    refine ⟨b, o + L, ?_, fun i u hi => ?_⟩
    · rw [if_neg (by omega), Option.map_some, Go.WideShapes.add_plain, Nat.mul_one]
    · rw [Nat.add_assoc]
      refine hc (L + i) u ?_
      have hi' : i < H - L := by have := (List.getElem?_eq_some_iff.1 hi).1; omega
      rw [List.getElem?_drop, List.getElem?_take_of_lt (by omega)] at hi
      exact hi
theorem cut0_zero (p : Option Addr) (c : Nat) : (if c = 0 then p else p.map (·.add (0 * 1))) = p := by
  split
  · rfl
  · cases p
    · rfl
    · rename_i ad
      obtain ⟨b, o, s⟩ := ad
      simp [Addr.add]
theorem Rd.upto (h : Rd enc w p c xs) (n : Nat) (hn : n ≤ xs.length) : Rd enc w p c (xs.take n) := by
  have := h.cut0 0 n (Nat.zero_le _) hn
  rwa [cut0_zero, List.drop_zero, Nat.sub_zero] at this
end

/-- An argument of type []int, or a slice of other integers. -/
theorem Rd.opened_ints {H : Type} {enc : TypeId × Value → H} {P : Program} {t e : TypeId} {k : IntKind} (ht : P.underlying t = some (.slice e)) (he : P.underlying e = some (.int k)) (hc : P.cellsOf e = 1) {W : World} {a0 : Option Addr} {len cap : Nat} {d0 : DataW H} {p : List MemPlace}
    (h0 : DataW.Trod enc P W 0 (fun _ => true) true t (.slice a0 len cap) d0 p) :
    ∃ xs : List Int, xs.length = len ∧ Rd (Value.int k) W a0 cap xs ∧ ∀ x ∈ xs, (Lit.int k x).wf = true := by
  obtain ⟨fuel, hf⟩ := h0
  rcases open_ints ht he hc hf with ⟨hcs, hx⟩ | ⟨a, len', cap', zs, hcs, _, hl, hm', hz, hx, hcell, hwz⟩
  · simp [Value.cells] at hcs
    obtain ⟨rfl, rfl, rfl⟩ := hcs
    exact ⟨[], rfl, Rd.nil W, fun x h => by cases h⟩
  · simp [Value.cells] at hcs
    obtain ⟨rfl, rfl, rfl⟩ := hcs
    simp only [if_true] at hz
    have hk : (zs.take len).length = len := by simp; omega
    refine ⟨zs.take len, hk, ⟨by omega, by simpa [maxLen] using hm', fun h => (by cases h), fun h => ?_⟩, fun x hx => hwz x (List.mem_of_mem_take hx)⟩
    rw [hk] at h
    obtain ⟨b, o, s⟩ := a
    obtain rfl : s = none := by simpa [Addr.add] using World.cell?_spot (hcell 0 (by omega))
    refine ⟨b, o, rfl, fun i u hi => ?_⟩
    have hil : i < len := by have := (List.getElem?_eq_some_iff.1 hi).1; omega
    have h1 := hcell i (by omega)
    rw [Go.WideShapes.add_plain] at h1
    rw [h1]
    rw [List.getElem?_take_of_lt hil, List.getElem?_eq_getElem (by omega)] at hi
    rw [← Option.some.inj hi]
    simp [List.getD, show i < zs.length by omega]

/-- A slice that the call itself has made: it holds xs, and no other value reaches its cells. -/
def Ow {α : Type} (enc : α → Value) (w : World) (base : Nat) (e : TypeId) (v : Value) (xs : List α) : Prop := w.ownsRow base e 1 v xs.length (xs.map enc)

section
variable {α : Type} {enc : α → Value} {w w' : World} {base : Nat} {e : TypeId} {xs : List α}
theorem enc_get {i : Nat} {u : α} (h : xs[i]? = some u) : (xs.map enc)[i]? = some (enc u) := by rw [List.getElem?_map, h]; rfl
theorem enc_back {i : Nat} {v : Value} (h : (xs.map enc)[i]? = some v) : ∃ u, xs[i]? = some u ∧ v = enc u := by
  rw [List.getElem?_map] at h
  cases hx : xs[i]? with
  | none => rw [hx] at h; cases h
  | some u => rw [hx] at h; exact ⟨u, rfl, (Option.some.inj h).symm⟩
theorem Ow.nil (w : World) (base : Nat) (e : TypeId) : Ow enc w base e (.slice none 0 0) ([] : List α) := World.ownsRow_nil w base e 1
theorem Ow.shape {v : Value} (h : Ow enc w base e v xs) : ∃ p c, v = .slice p xs.length c ∧ Rd enc w p c xs ∧ (∀ a, p = some a → base ≤ a.block ∧ a.block < w.heap.size) := by
  have h0 := h
  rcases h.2 with ⟨rfl, hn⟩ | ⟨g, cap, cur, rfl, hb, hg, hc, hm, hs, ht⟩
  · obtain rfl : xs = [] := List.eq_nil_of_length_eq_zero hn
    exact ⟨none, 0, rfl, Rd.nil w, fun a h => by cases h⟩
  · refine ⟨some ⟨g, 0, none⟩, cap, rfl, ⟨hc, by simpa [maxLen] using hm, fun h => (by cases h), fun _ => ⟨g, 0, rfl, fun i u hi => ?_⟩⟩, fun a ha => ?_⟩
    · have hil := (List.getElem?_eq_some_iff.1 hi).1
      rw [Nat.zero_add, World.ownsRow.cellAt h0 i (by omega), enc_get hi]
    · obtain rfl := Option.some.inj ha
      exact ⟨hb, (Array.getElem?_eq_some_iff.1 hg).1⟩
theorem Ow.rd {p : Option Addr} {n c : Nat} (h : Ow enc w base e (.slice p n c) xs) : n = xs.length ∧ Rd enc w p c xs := by
  obtain ⟨p', c', hv, hb, _⟩ := h.shape
  simp only [Value.slice.injEq] at hv
  obtain ⟨rfl, rfl, rfl⟩ := hv
  exact ⟨rfl, hb⟩
theorem Ow.place {p : Option Addr} {n c : Nat} (h : Ow enc w base e (.slice p n c) xs) : ∀ a, p = some a → base ≤ a.block ∧ a.block < w.heap.size := by
  obtain ⟨p', c', hv, _, hb⟩ := h.shape
  simp only [Value.slice.injEq] at hv
  obtain ⟨rfl, rfl, rfl⟩ := hv
  exact hb
theorem Ow.keep {p : Option Addr} {n c : Nat} (h : Ow enc w base e (.slice p n c) xs) (hb : ∀ a, p = some a → a.block < w.heap.size → w'.heap[a.block]? = w.heap[a.block]?) : Ow enc w' base e (.slice p n c) xs := by
  refine ⟨h.1, ?_⟩
  rcases h.2 with hn | ⟨g, cap, cur, hv, h1, hg, rest⟩
  · exact .inl hn
  · have hp : p = some ⟨g, 0, none⟩ := by simp only [Value.slice.injEq] at hv; exact hv.1
    exact .inr ⟨g, cap, cur, hv, h1, by rw [hb _ hp (Array.getElem?_eq_some_iff.1 hg).1]; exact hg, rest⟩
theorem Ow.below {v : Value} (h : Ow enc w base e v xs) (hb : Below w.heap.size w w') : Ow enc w' base e v xs := by
  obtain ⟨p, c, rfl, _, _⟩ := h.shape
  exact h.keep fun a _ hl => hb.block _ hl
theorem Ow.down {base' : Nat} {v : Value} (h : Ow enc w base e v xs) (hb : base' ≤ base) : Ow enc w base' e v xs := by
  refine ⟨h.1, ?_⟩
  rcases h.2 with hn | ⟨g, cap, cur, hv, h1, r⟩
  · exact .inl hn
  · exact .inr ⟨g, cap, cur, hv, Nat.le_trans hb h1, r⟩
theorem Ow.free {b o n c : Nat} (h : Ow enc w base e (.slice (some ⟨b, o, none⟩) n c) xs) (j : Nat) : o = 0 ∧ w.frozen? ⟨b, j, none⟩ = false := by
  rcases h.2 with ⟨h', _⟩ | ⟨g, cap, cur, hv, _⟩
  · simp at h'
  · simp only [Value.slice.injEq, Option.some.injEq, Addr.mk.injEq, and_true] at hv
    obtain ⟨⟨rfl, rfl⟩, rfl, rfl⟩ := hv
    have h' := h
    obtain ⟨hn, _⟩ := h'.rd
    have h2 : World.ownsRow w base e 1 (.slice (some ⟨b, 0, none⟩) xs.length c) xs.length (xs.map enc) := hn ▸ h
    exact ⟨rfl, World.ownsRow.frozenAt h2 j⟩
theorem Ow.alloc {v : Value} (h : Ow enc w base e v xs) (o : Obj) : Ow enc (w.alloc o) base e v xs := h.below ((Below.refl _ _).alloc (Nat.le_refl _) o)
theorem Ow.drew {v : Value} (h : Ow enc w base e v xs) : Ow enc w.drew base e v xs := h.below (Below.refl _ _).drew
theorem Ow.at {p : Option Addr} {n c : Nat} (h : Ow enc w base e (.slice p n c) xs) (hn : 0 < n) : ∃ g, p = some ⟨g, 0, none⟩ ∧ base ≤ g ∧ g < w.heap.size := by
  rcases h.2 with ⟨hv, _⟩ | ⟨g, cap, cur, hv, hb, hg, _⟩
  · simp only [Value.slice.injEq] at hv
    omega
  · simp only [Value.slice.injEq] at hv
    exact ⟨g, hv.1, hb, (Array.getElem?_eq_some_iff.1 hg).1⟩
/-- One element of it is stored. -/
theorem Ow.set {b n c : Nat} (h : Ow enc w base e (.slice (some ⟨b, 0, none⟩) n c) xs) (i : Nat) (u : α) :
    Ow enc (w.setCell ⟨b, i, none⟩ (enc u)) base e (.slice (some ⟨b, 0, none⟩) n c) (xs.set i u) := by
  obtain ⟨rfl, _⟩ := h.rd
  have h2 : World.ownsRow w base e 1 (.slice (some ⟨b, 0, none⟩) xs.length c) xs.length (xs.map enc) := h
  have := (World.ownsRow.stored h2 i (enc u)).1
  show World.ownsRow _ _ _ _ _ _ _
  rw [List.length_set, List.map_set]
  exact this
/-- Its first elements. -/
theorem Ow.upto {p : Option Addr} {n c : Nat} (h : Ow enc w base e (.slice p n c) xs) (k : Nat) (hk : k ≤ xs.length) : Ow enc w base e (.slice p k c) (xs.take k) := by
  refine ⟨by simp, ?_⟩
  have hl : (xs.take k).length = k := by simp; omega
  rw [hl]
  rcases h.2 with ⟨hv, h0⟩ | ⟨g, cap, cur, hv, h1, hg, h2, h3, h4, h5⟩
  · simp only [Value.slice.injEq] at hv
    exact .inl ⟨by simp only [Value.slice.injEq]; exact ⟨hv.1, by omega, hv.2.2⟩, by omega⟩
  · simp only [Value.slice.injEq] at hv
    refine .inr ⟨g, cap, cur, by simp only [Value.slice.injEq]; exact ⟨hv.1, trivial, hv.2.2⟩, h1, hg, by omega, h3, h4, ?_⟩
    rw [Nat.mul_one, List.map_take, ← h5, List.take_take]
    congr 1
    omega
theorem Ow.grown_below {N : Nat} {v : Value} (h : Ow enc w base e v xs) (hg : w.grownBy w' v.ownBlock) (hN : N ≤ base) (hs : N ≤ w.heap.size) : Below N w w' :=
  (Below.refl N w).grown hg hs fun k hk => by
    have := (World.ownsRow.lt h k hk).1
    omega
end

section
variable {P : Program} {w : World} {ops : Array Oper} {rest : List Oper} {o : Oper} {a : Act} {Q : Exit → Act → World → Prop}
variable {α : Type} {enc : α → Value}

/-- 'append(out, b...)': out made by the call, b whatever. -/
theorem run_append_encs (h1 : ∀ x, (enc x).oneCell' = true) (t ty : TypeId)
    (base : Nat) (e : TypeId) (z : Value) (by' : Nat) (ht : P.underlying t = some (.slice e)) (hi : (P.info? e).map (fun i => (i.zero, i.size, i.bytes)) = some (some z, 1, by')) (hzs : z.cells.size = 1)
    (v : Value) (xs : List α) (hown : Ow enc w base e v xs)
    (p : Option Addr) (n c : Nat) (ys : List α) (hl : ys.length = n) (hin : Rd enc w p c ys)
    (hbytes : (xs.length + ys.length) * by' ≤ 140737488355328) (h63 : xs.length + ys.length ≤ 9223372036854775807) (hbase : base ≤ w.heap.size) :
    ∃ v' w', (Builtin.append_ #[t, t] ty #[v, .slice p n c]).run P w = .ok v' w' ∧ Ow enc w' base e v' (xs ++ ys) ∧ Below base w w' ∧ w.grownBy w' v.ownBlock := by
  obtain ⟨i, hi, hz0, hz1, hz2⟩ := info_parts hi
  subst hl
  cases p with
  | none =>
    have hc0 := hin.bare rfl
    obtain rfl : ys = [] := List.eq_nil_of_length_eq_zero (by have := hin.cap; omega)
    rw [hc0]
    refine ⟨v, w, run_append_owned_none (P := P) (w := w) base t ty e i 1 ht hi v xs.length (xs.map enc) hown, by rw [List.append_nil]; exact hown, Below.refl _ _, ⟨rfl, rfl, rfl, Nat.le_refl _, fun _ _ _ => rfl⟩⟩
  | some ad =>
    have hmem : ∀ u ∈ ys.map enc, u.oneCell' = true := by
      intro u hu
      obtain ⟨x, _, rfl⟩ := List.mem_map.1 hu
      exact h1 x
    obtain ⟨v', w', hrun, h2, h3, _⟩ := run_append_own (P := P) w base t ty e i z 1 by' ht hi hz0 hz1 hz2 hzs (by omega) v xs.length (xs.map enc) hown ad ys.length c (ys.map enc) (by simp) (fun j u hj => by
      obtain ⟨x, hx, rfl⟩ := enc_back hj
      obtain ⟨b, o, hp, hc⟩ := hin.cells (by have := (List.getElem?_eq_some_iff.1 hx).1; omega)
      obtain rfl := Option.some.inj hp
      rw [Go.WideShapes.add_plain]
      exact hc j x hx) hmem (by simp only [maxLen]; omega) hbytes hbase
    refine ⟨v', w', hrun, ?_, hown.grown_below h3 (Nat.le_refl _) hbase, h3⟩
    show World.ownsRow _ _ _ _ _ _ _
    rw [List.length_append, List.map_append]
    exact h2
theorem wpList_append_encs (hgd : o.guard = none) (s x : Operand) (t : TypeId)
    (ho : o.op = .call { callee := .builtin .append, args := #[s, x], argTypes := #[t, t] }) (h1 : ∀ x, (enc x).oneCell' = true)
    (base : Nat) (e : TypeId) (z : Value) (by' : Nat) (ht : P.underlying t = some (.slice e)) (hi : (P.info? e).map (fun i => (i.zero, i.size, i.bytes)) = some (some z, 1, by')) (hzs : z.cells.size = 1)
    (v : Value) (xs : List α) (hs : a.eval s = v) (hown : Ow enc w base e v xs)
    (p : Option Addr) (n c : Nat) (ys : List α) (hx : a.eval x = .slice p n c) (hl : ys.length = n) (hin : Rd enc w p c ys)
    (hbytes : (xs.length + ys.length) * by' ≤ 140737488355328) (h63 : xs.length + ys.length ≤ 9223372036854775807) (hbase : base ≤ w.heap.size)
    (h : ∀ p' c' zs w', Hid (zs = xs ++ ys) → Ow enc w' base e (.slice p' zs.length c') zs → Below base w w' → wpList P ops Q rest (a.put o.dst (.slice p' zs.length c')) w') : wpList P ops Q (o :: rest) a w := by
  obtain ⟨v', w', hrun, h2, h3, _⟩ := run_append_encs (P := P) h1 t o.type base e z by' ht hi hzs v xs hown p n c ys hl hin hbytes h63 hbase
  obtain ⟨p', c', rfl, _, _⟩ := h2.shape
  refine wpList_plain hgd fun K hK => ?_
  unfold Oper.wp
  simp [execOp, ho, resolve, invoke, builtin, hs, hx, hrun, Result.andThen]
  have := h p' c' _ w' rfl h2 h3
  rw [List.length_append] at this
  exact hK _ _ this

theorem zeroCells_one (zc : Value) (m : Nat) : Builtin.zeroCells #[zc] m = (List.replicate m zc).toArray := by
  apply Array.ext'
  simp only [Builtin.zeroCells, Array.toList_map, Array.toList_range]
  apply List.ext_getElem
  · simp
  · intro i h1 h2
    simp [Nat.mod_one]
/-- 'append(out, make([]T, m)...)': the compiler's own append of zeros. -/
theorem run_append_zeros (h1 : ∀ x, (enc x).oneCell' = true) (t ti ty : TypeId)
    (base : Nat) (e : TypeId) (z0 : α) (by' : Nat) (ht : P.underlying t = some (.slice e)) (hti : P.underlying ti = some (.int .i64)) (hi : (P.info? e).map (fun i => (i.zero, i.size, i.bytes)) = some (some (enc z0), 1, by'))
    (v : Value) (xs : List α) (hown : Ow enc w base e v xs) (m : Nat)
    (hbytes : (xs.length + m) * by' ≤ 140737488355328) (h63 : xs.length + m ≤ 9223372036854775807) (hbase : base ≤ w.heap.size) :
    ∃ v' w', (Builtin.append_ #[t, ti] ty #[v, .int .i64 (m : Int)]).run P w = .ok v' w' ∧ Ow enc w' base e v' (xs ++ List.replicate m z0) ∧ Below base w w' := by
  obtain ⟨i, hj, hz0, hz1, hz2⟩ := info_parts hi
  clear hi
  subst hz2
  have hzc : (enc z0).cells = #[enc z0] := by have := h1 z0; unfold Value.oneCell' at this; cases hv : enc z0 <;> rw [hv] at this <;> first | rfl | (cases this)
  have hw : IntKind.i64.wrap (m : Int) = m := by rw [IntKind.wrap_i64]; omega
  have hneg : ¬ ((m : Int) < 0) := by omega
  have hmb : m * i.bytes ≤ (xs.length + m) * i.bytes := Nat.mul_le_mul_right _ (by omega)
  have hbig : ¬ ((281474976710656 : Int) < (m : Int) * (i.bytes : Int)) := by
    have : ((m * i.bytes : Nat) : Int) ≤ 140737488355328 := by omega
    rw [Int.natCast_mul] at this
    omega
  have hnat : m * i.bytes ≤ 281474976710656 := by omega
  have hlen : ((xs ++ List.replicate m z0).map enc).length = xs.length + m := by simp
  have hm63 : ¬ ((9223372036854775807 : Int) < (xs.length : Int) + (m : Int)) := by omega
  have hrep : (List.replicate m (enc z0)).length = m := by simp
  have hone : ∀ u ∈ List.replicate m (enc z0), u.oneCell' = true := by
    intro u hu
    rw [List.eq_of_mem_replicate hu]
    exact h1 z0
  have zc := zeroCells_one (enc z0)
  have grown : ∀ (old : Nat), (w.drew.alloc (.cells ((xs.map enc).toArray ++ (List.replicate m (enc z0)).toArray ++ Builtin.zeroCells (enc z0).cells (grownCap w (xs.length + m) old e - (xs.length + m))) e)).ownsRow base e 1
        (.slice (some ⟨w.heap.size, 0, none⟩) (xs.length + m) (grownCap w (xs.length + m) old e)) (xs.length + m) ((xs ++ List.replicate m z0).map enc) ∧
      Below base w (w.drew.alloc (.cells ((xs.map enc).toArray ++ (List.replicate m (enc z0)).toArray ++ Builtin.zeroCells (enc z0).cells (grownCap w (xs.length + m) old e - (xs.length + m))) e)) := by
    intro old
    have hge := grownCap_ge w (xs.length + m) old e
    have hcm : grownCap w (xs.length + m) old e ≤ maxLen := grownCap_le_maxLen w (xs.length + m) old e (by simp only [maxLen]; omega)
    refine ⟨⟨by omega, .inr ⟨w.heap.size, _, _, rfl, hbase, heap_alloc_new w.drew _, hge, hcm, ?_, ?_⟩⟩, (Below.refl _ w).drew.alloc (by simpa using hbase) _⟩
    · rw [hzc, zc]
      simp
      omega
    · rw [hzc, zc]
      simp only [Array.toList_append, List.append_assoc]
      rw [← List.append_assoc, Nat.mul_one, ← hlen, List.map_append, List.map_replicate]
      exact List.take_left
  rcases hown.2 with ⟨rfl, hn⟩ | ⟨g, cap, cur, rfl, hbg, hg, hnc, hcm, hcs, htake⟩
  · obtain rfl : xs = [] := List.eq_nil_of_length_eq_zero hn
    by_cases hm : m = 0
    · subst hm
      clear grown zc
      refine ⟨.slice none 0 0, w, ?_, Ow.nil w base e, Below.refl _ _⟩
      have h0 : IntKind.i64.wrap 0 = 0 := by decide
      simp [Builtin.append_, run_underlying ht, run_underlying hti, sizeOf, typeInfo, hj, h0, asInt, asIntOf]
    · obtain ⟨hg1, hg2⟩ := grown 0
      simp only [List.length_nil, Nat.zero_add, List.nil_append, List.map_nil] at hg1 hg2
      refine ⟨_, _, ?_, by show World.ownsRow _ _ _ _ _ _ _; rw [List.nil_append, List.length_replicate]; exact hg1, hg2⟩
      have hm63' : ¬ ((9223372036854775807 : Int) < (m : Int)) := by omega
      have h48 : ¬ (281474976710656 < Builtin.nextslicecap m 0 * i.bytes) := by
        have := growslice_fits (need := m) (old := 0) (bytes := i.bytes) (by omega) (by simpa using hbytes)
        omega
      simp [Builtin.append_, run_underlying ht, run_underlying hti, sizeOf, typeInfo, zeroValue, hj, hz0, hz1, hw, hneg, hbig, hm, hm63', h48, asInt, asIntOf, Question.forced, Builtin.firstCells, newRow, grownCap, hzc, zc]
  · by_cases hroom : xs.length + m ≤ cap
    · have hst := run_storeCells_at P g xs.length e (List.replicate m (enc z0)) 0 cur w hg (by rw [hrep, hcs]; omega) hone
      simp only [Nat.add_zero, hrep] at hst
      have hh := setRow_heap w g cur (cur.toList.take xs.length ++ List.replicate m (enc z0) ++ cur.toList.drop (xs.length + m)).toArray e (0, 0) hg
      refine ⟨.slice (some ⟨g, 0, none⟩) (xs.length + m) cap, w.setRow g (cur.toList.take xs.length ++ List.replicate m (enc z0) ++ cur.toList.drop (xs.length + m)).toArray, ?_, ⟨?_, .inr ⟨g, cap, _, ?_, hbg, hh, ?_, hcm, ?_, ?_⟩⟩, ⟨rfl, rfl, rfl, by simp, fun k hk => setRow_other w g k _ (by omega)⟩⟩
      · by_cases hm : m = 0
        · subst hm
          have h0 : IntKind.i64.wrap 0 = 0 := by decide
          have hst0 : (storeCells ⟨g, xs.length, none⟩ []).run P w = .ok () (w.setRow g cur) := by simpa using hst
          simp [Builtin.append_, run_underlying ht, run_underlying hti, sizeOf, typeInfo, zeroValue, hj, hz1, h0, asInt, asIntOf, hnc, Addr.add_lit, hst0]
        · simp [Builtin.append_, run_underlying ht, run_underlying hti, sizeOf, typeInfo, zeroValue, hj, hz0, hz1, hw, hneg, hbig, hm, asInt, asIntOf, hroom, hzc, zc, Addr.add_lit, hst]
      · simp
      · simp
      · simp; omega
      · simp; omega
      · have e1 : cur.toList.take xs.length = xs.map enc := by rw [← htake, Nat.mul_one]
        have e2 : (xs.map enc ++ List.replicate m (enc z0)).length = xs.length + m := by simp
        have e3 : (xs ++ List.replicate m z0).length = xs.length + m := by simp
        rw [e1, Nat.mul_one, List.map_append, List.map_replicate, e3, ← e2]
        exact List.take_left
    · obtain ⟨hg1, hg2⟩ := grown cap
      have h48 : ¬ (281474976710656 < Builtin.nextslicecap (xs.length + m) cap * i.bytes) := by
        have := growslice_fits (need := xs.length + m) (old := cap) (bytes := i.bytes) (by omega) hbytes
        omega
      have hm0 : m ≠ 0 := by omega
      have holds : ∀ j u, (xs.map enc)[j]? = some u → w.cell? ((⟨g, 0, none⟩ : Addr).add j) = some u := World.ownsRow.cells (g := g) hown rfl
      have hf := run_firstCells_some (P := P) w.drew 1 xs.length ⟨g, 0, none⟩ xs.length cap (xs.map enc) (by simp) (fun j u hu => by rw [Go.World.cell?_drew]; exact holds j u hu)
      refine ⟨_, _, ?_, by show World.ownsRow _ _ _ _ _ _ _; rw [List.length_append, List.length_replicate]; exact hg1, hg2⟩
      simp [Builtin.append_, run_underlying ht, run_underlying hti, sizeOf, typeInfo, zeroValue, hj, hz0, hz1, hw, hneg, hbig, hm0, hroom, hm63, h48, asInt, asIntOf, Question.forced, hf, newRow, grownCap, hzc, zc]
theorem wpList_append_zeros (hgd : o.guard = none) (s x : Operand) (t ti : TypeId)
    (ho : o.op = .call { callee := .builtin .append, args := #[s, x], argTypes := #[t, ti] }) (h1 : ∀ x, (enc x).oneCell' = true)
    (base : Nat) (e : TypeId) (z0 : α) (by' : Nat) (ht : P.underlying t = some (.slice e)) (hti : P.underlying ti = some (.int .i64)) (hi : (P.info? e).map (fun i => (i.zero, i.size, i.bytes)) = some (some (enc z0), 1, by'))
    (v : Value) (xs : List α) (hs : a.eval s = v) (hown : Ow enc w base e v xs) (z : Int) (m : Nat) (hx : a.eval x = .int .i64 z) (hz : z = (m : Int))
    (hbytes : (xs.length + m) * by' ≤ 140737488355328) (h63 : xs.length + m ≤ 9223372036854775807) (hbase : base ≤ w.heap.size)
    (h : ∀ p' c' zs w', Hid (zs = xs ++ List.replicate m z0) → Ow enc w' base e (.slice p' zs.length c') zs → Below base w w' → wpList P ops Q rest (a.put o.dst (.slice p' zs.length c')) w') : wpList P ops Q (o :: rest) a w := by
  subst hz
  obtain ⟨v', w', hrun, h2, h3⟩ := run_append_zeros (P := P) h1 t ti o.type base e z0 by' ht hti hi v xs hown m hbytes h63 hbase
  obtain ⟨p', c', rfl, _, _⟩ := h2.shape
  refine wpList_plain hgd fun K hK => ?_
  unfold Oper.wp
  simp [execOp, ho, resolve, invoke, builtin, hs, hx, hrun, Result.andThen]
  have := h p' c' _ w' rfl h2 h3
  rw [List.length_append, List.length_replicate] at this
  exact hK _ _ this
/-- 'make([]T, n)'. -/
theorem wpList_make_encs (hg : o.guard = none) (l c : Operand) (t : TypeId) (hop : o.op = Op.makeSlice t l c) (h1 : ∀ x, (enc x).oneCell' = true)
    (base : Nat) (e : TypeId) (z0 : α) (by' : Nat) (ht : P.underlying t = some (.slice e)) (hi : (P.info? e).map (fun i => (i.zero, i.size, i.bytes)) = some (some (enc z0), 1, by'))
    (kl kc : IntKind) (L C : Int) (n : Nat) (hl : a.eval l = .int kl L) (hc : a.eval c = .int kc C) (hL : L = (n : Int)) (hC : C = (n : Int)) (hn : n * by' ≤ 140737488355328) (hn63 : n ≤ 9223372036854775807) (hbase : base ≤ w.heap.size)
    (h : ∀ w', Ow enc w' base e (.slice (some ⟨w.heap.size, 0, none⟩) n n) (List.replicate n z0) → Below base w w' → wpList P ops Q rest (a.put o.dst (.slice (some ⟨w.heap.size, 0, none⟩) n n)) w') : wpList P ops Q (o :: rest) a w := by
  obtain ⟨i, hi, hz0, hz1, hz2⟩ := info_parts hi
  refine wpList_make_full w hg l c t hop base e i _ 1 ht hi hz0 hz1 kl kc L C n hl hc hL hC (by rw [hz2, Nat.mul_comm]; omega) (by simp only [maxLen]; omega) hbase fun w' h1' h2 => h w' ?_ ((Below.refl base w).grown h2 hbase (fun k hk => by cases hk))
  have hzc : (enc z0).cells = #[enc z0] := by have := h1 z0; unfold Value.oneCell' at this; cases hv : enc z0 <;> rw [hv] at this <;> first | rfl | (cases this)
  have e1 : (madeCells (enc z0).cells (n * 1)).toList = (List.replicate n z0).map enc := by
    rw [hzc, toList_madeCells_one, Nat.mul_one, List.map_replicate]
  rw [e1] at h1'
  show World.ownsRow _ _ _ _ _ _ _
  rw [List.length_replicate]
  exact h1'
/-- 'b[:h]'. -/
theorem wpList_top (hg : o.guard = none) (x : Operand) (t : TypeId) (y : Operand) (hop : o.op = Op.slice t x none (some y) none)
    (ht : P.underlying t = some (.slice (P.elem t))) (hs : ∀ w : World, (sizeOf (P.elem t)).run P w = .ok 1 w)
    (p : Option Addr) (n c : Nat) (hx : a.eval x = .slice p n c) (hcap : n ≤ c) (kh : IntKind) (H : Nat) (hy : a.eval y = .int kh (H : Int)) (hH : H ≤ n)
    (h : wpList P ops Q rest (a.put o.dst (.slice p H c)) w) : wpList P ops Q (o :: rest) a w := by
  have hrun : (Instr.sliceAt t (.slice p n c) none (some (.int kh H)) none).run P w = .ok (.slice p H c) w := by
    rw [run_sliceAt_slice w t _ _ _ _ ht, run_slice_h w t p n c ht kh H (by omega) (by omega), hs]
    simp only [Result.andThen, Int.toNat_natCast]
    unfold sliced
    rw [cut0_zero, Nat.sub_zero, Nat.sub_zero]
  refine wpList_plain hg fun K hK => ?_
  unfold Oper.wp
  simp [execOp, hop, hx, hy, hrun, Result.andThen]
  exact hK _ _ h
/-- 'b[l:]'. -/
theorem wpList_tail (hg : o.guard = none) (x : Operand) (t : TypeId) (y : Operand) (hop : o.op = Op.slice t x (some y) none none)
    (ht : P.underlying t = some (.slice (P.elem t))) (hs : ∀ w : World, (sizeOf (P.elem t)).run P w = .ok 1 w)
    (p : Option Addr) (n c : Nat) (hx : a.eval x = .slice p n c) (kl : IntKind) (L : Nat) (hy : a.eval y = .int kl (L : Int)) (hL : L ≤ n)
    (h : ∀ (p' : Option Addr) (c' m : Nat), m = n - L → Hid (∀ (β : Type) (en : β → Value) (xs : List β) (w1 : World), xs.length = n → Rd en w1 p c xs → Rd en w1 p' c' (xs.drop L)) → wpList P ops Q rest (a.put o.dst (.slice p' m c')) w) : wpList P ops Q (o :: rest) a w := by
  have hrun : (Instr.sliceAt t (.slice p n c) (some (.int kl L)) none none).run P w = .ok (.slice (if c = L then p else p.map (·.add (L * 1))) (n - L) (c - L)) w := by
    rw [run_sliceAt_slice w t _ _ _ _ ht, run_slice_l w t p n c ht kl L (by omega) (by omega), hs]
    simp only [Result.andThen, Int.toNat_natCast]
    rfl
  refine wpList_plain hg fun K hK => ?_
  unfold Oper.wp
  simp [execOp, hop, hx, hy, hrun, Result.andThen]
  have := h _ _ _ rfl (Lib.hid fun _ en xs w1 hl hr => by
    have := Rd.cut0 hr L xs.length (by omega) (Nat.le_refl _)
    rwa [List.take_length] at this)
  simp only [Nat.mul_one] at this
  exact hK _ _ this
end

/-- A slice that stands in the code. -/
theorem Rd.made {α : Type} (enc : α → Value) (w : World) (xs : List α) (n : Nat) (e : TypeId) (cs : Array Value) (fr : Nat × Nat) (hc : cs = (xs.map enc).toArray) (hn : xs.length = n) (hs : n ≤ 9223372036854775807) : Rd enc (w.alloc (.cells cs e fr)) (some ⟨w.heap.size, 0, none⟩) n xs := by
  subst hc hn
  refine ⟨Nat.le_refl _, hs, fun h => (by cases h), fun _ => ⟨w.heap.size, 0, rfl, fun i u hi => ?_⟩⟩
  rw [World.cell?_alloc_mark, Nat.zero_add]
  simpa using enc_get (enc := enc) hi
theorem Ow.lit {α : Type} (enc : α → Value) (w : World) (xs : List α) (n base : Nat) (e : TypeId) (cs : Array Value) (hc : cs = (xs.map enc).toArray) (hn : xs.length = n) (hs : n ≤ 9223372036854775807) (hb : base ≤ w.heap.size) : Ow enc (w.alloc (.cells cs e)) base e (.slice (some ⟨w.heap.size, 0, none⟩) n n) xs := by
  subst hc hn
  have := World.ownsRow_lit (base := base) (e := e) (size := 1) w (xs.map enc).toArray xs.length hb (by simpa [maxLen] using hs) (by simp)
  exact this
theorem size_alloc_ge {n : Nat} {w : World} (o : Obj) (h : n ≤ w.heap.size) : n ≤ (w.alloc o).heap.size := Nat.le_trans h ((Below.refl w.heap.size w).alloc (Nat.le_refl _) o).size
end Go.Proofs.Ytjepjcdobgdacaa
