/-
  SLICES OF BYTES, over whatever program: how they lie, that they stay, what is read, cut, converted and appended. Nothing of the program stands here.
-/
import Derived.WalkKit
import Derived.Lib.Hide
import Derived.Laws.BytesArg
import Derived.Laws.IdiomStrings
import Derived.Lib.SlBytesConst
import Derived.Laws.AppendOwnNone
import Derived.ProofKit
namespace Go.Proofs.YtcajamgajchheaaDoor
open Go Go.RowKit Go.ChangeShapes Go.WideShapes Go.ChangeAt

/-- A byte as a cell. -/
def bv (c : UInt8) : Value := .int .u8 (c.toNat : Int)
/-- The slice value of the address p and the capacity c holds the bytes xs. -/
structure Bin (w : World) (p : Option Addr) (c : Nat) (xs : List UInt8) : Prop where
  cap : xs.length ≤ c
  max : c ≤ 9223372036854775807
  bare : p = none → c = 0
  cells : 0 < xs.length → ∃ b o, p = some ⟨b, o, none⟩ ∧ ∀ i, i < xs.length → w.cell? ⟨b, o + i, none⟩ = some (bv (xs.getD i 0))

theorem Bin.nil (w : World) : Bin w none 0 [] := ⟨Nat.le_refl _, by omega, fun _ => rfl, fun h => absurd h (Nat.lt_irrefl 0)⟩
theorem Bin.lt {w : World} {b o c : Nat} {xs : List UInt8} (h : Bin w (some ⟨b, o, none⟩) c xs) (hn : 0 < xs.length) : b < w.heap.size := by
  obtain ⟨b', o', hp, hc⟩ := h.cells hn
  obtain ⟨rfl, rfl⟩ : b = b' ∧ o = o' := by simpa using hp
  exact World.block_lt_of_cell? _ _ (hc 0 hn)
theorem Bin.cell {w : World} {b o c : Nat} {xs : List UInt8} (h : Bin w (some ⟨b, o, none⟩) c xs) (i : Nat) (hi : i < xs.length) : w.cell? ⟨b, o + i, none⟩ = some (.int .u8 ((xs.getD i 0).toNat : Int)) := by
  obtain ⟨b', o', hp, hc⟩ := h.cells (by omega)
  obtain ⟨rfl, rfl⟩ : b = b' ∧ o = o' := by simpa using hp
  exact hc i hi
/-- Nothing, or an address with its cells. -/
theorem Bin.parts {w : World} {p : Option Addr} {c : Nat} {xs : List UInt8} (h : Bin w p c xs) : xs = [] ∨ (0 < xs.length ∧ ∃ b o, p = some ⟨b, o, none⟩) := by
  rcases Nat.eq_zero_or_pos xs.length with hn | hn
  · exact .inl (List.eq_nil_of_length_eq_zero hn)
  · obtain ⟨b, o, rfl, _⟩ := h.cells hn
    exact .inr ⟨hn, b, o, rfl⟩
theorem Bin.kept {w w' : World} {p : Option Addr} {c : Nat} {xs : List UInt8} (h : Bin w p c xs) (hb : Below w.heap.size w w') : Bin w' p c xs :=
  ⟨h.cap, h.max, h.bare, fun hn => by
    obtain ⟨b, o, rfl, hc⟩ := h.cells hn
    exact ⟨b, o, rfl, fun i hi => (hb.cell (p := ⟨b, o + i, none⟩) (World.block_lt_of_cell? _ _ (hc i hi))).trans (hc i hi)⟩⟩
theorem Bin.drew {w : World} {p : Option Addr} {c : Nat} {xs : List UInt8} (h : Bin w p c xs) : Bin w.drew p c xs := h.kept (Below.refl _ _).drew
theorem Bin.upto {w : World} {p : Option Addr} {c : Nat} {xs : List UInt8} (h : Bin w p c xs) (n : Nat) (hn : n ≤ xs.length) : Bin w p c (xs.take n) := by
  refine ⟨by have := h.cap; simp; omega, h.max, h.bare, fun h0 => ?_⟩
  have hl : (xs.take n).length = n := by simp; omega
  rw [hl] at h0 ⊢
  obtain ⟨b, o, rfl, hc⟩ := h.cells (by omega)
  refine ⟨b, o, rfl, fun i hi => ?_⟩
  rw [hc i (by omega)]
  simp [List.getD, hi]
/-- 'string(b)'. -/
theorem Bin.convert {P : Program} {w : World} {p : Option Addr} {c : Nat} {xs : List UInt8} (h : Bin w p c xs) (n : Nat) (hl : xs.length = n) (src dst e : TypeId) (hs : P.underlying src = some (.slice e)) (he : P.underlying e = some (.int .u8)) (hd : P.underlying dst = some .string) :
    (convert src dst (.slice p n c)).run P w = .ok (.string ⟨xs.toArray⟩) w := by
  subst hl
  rcases Nat.eq_zero_or_pos xs.length with hn | hn
  · rw [hn]
    obtain rfl : xs = [] := List.eq_nil_of_length_eq_zero hn
    rw [run_convert_bytes_string w src dst e _ 0 c hs he hd]
    cases p <;> simp [Conv.bytesToString, loadCells]
    all_goals rfl
  · obtain ⟨b, o, rfl, hc⟩ := h.cells hn
    refine run_convert_bytes_back w src dst e ⟨b, o, none⟩ c xs hs he hd fun j hj => ?_
    rw [Go.WideShapes.add_plain, hc j hj]
    simp [bv, List.getD, hj]
/-- Over a region that draws its order: 'string(b)' is at hand in each of its worlds. -/
theorem Bin.held_start {P : Program} {w : World} {p : Option Addr} {c : Nat} {xs : List UInt8} (h : Bin w p c xs) (n : Nat) (hl : xs.length = n) (src dst e : TypeId) (hs : P.underlying src = some (.slice e)) (he : P.underlying e = some (.int .u8)) (hd : P.underlying dst = some .string) :
    (Go.convert src dst (.slice p n c)).run P w.drew = .ok (.string ⟨xs.toArray⟩) w.drew ∧ Below w.heap.size w w.drew :=
  ⟨h.drew.convert n hl src dst e hs he hd, (Below.refl _ _).drew⟩
theorem Bin.held_call {P : Program} {w W W1 : World} {p : Option Addr} {c : Nat} {xs : List UInt8} (h : Bin w p c xs) (n : Nat) (hl : xs.length = n) (src dst e : TypeId) (hs : P.underlying src = some (.slice e)) (he : P.underlying e = some (.int .u8)) (hd : P.underlying dst = some .string)
    (hb : Below W.heap.size W W1) (hW : (Go.convert src dst (.slice p n c)).run P W = .ok (.string ⟨xs.toArray⟩) W ∧ Below w.heap.size w W) :
    (Go.convert src dst (.slice p n c)).run P W1 = .ok (.string ⟨xs.toArray⟩) W1 ∧ Below w.heap.size w W1 :=
  have hb2 := hW.2.trans (hb.mono hW.2.size)
  ⟨(h.kept hb2).convert n hl src dst e hs he hd, hb2⟩
/-- An argument of type []byte. -/
theorem Bin.opened {H : Type} {enc : TypeId × Value → H} {P : Program} {t e : TypeId} (ht : P.underlying t = some (.slice e)) (he : P.underlying e = some (.int .u8)) (hc : P.cellsOf e = 1) {W : World} {a0 : Option Addr} {len cap : Nat} {d0 : DataW H} {p : List MemPlace}
    (h0 : DataW.Trod enc P W 0 (fun _ => true) true t (.slice a0 len cap) d0 p) :
    ∃ xs : List UInt8, xs.length = len ∧ Bin W a0 cap xs := by
  obtain ⟨fuel, hf⟩ := h0
  rcases open_ints ht he hc hf with ⟨hcs, hx⟩ | ⟨a, len', cap', zs, hcs, _, hl, hm', hz, hx, hcell, hwz⟩
  · simp [Value.cells] at hcs
    obtain ⟨rfl, rfl, rfl⟩ := hcs
    exact ⟨[], rfl, Bin.nil W⟩
  · simp [Value.cells] at hcs
    obtain ⟨rfl, rfl, rfl⟩ := hcs
    simp only [if_true] at hz
    refine ⟨(zs.take len).map fun z => UInt8.ofNat z.toNat, by simp; omega, ⟨by simp; omega, by simpa [maxLen] using hm', fun h => (by cases h), fun h => ?_⟩⟩
    have hk : ((zs.take len).map fun z => UInt8.ofNat z.toNat).length = len := by simp; omega
    rw [hk] at h ⊢
    obtain ⟨b, o, s⟩ := a
    obtain rfl : s = none := by simpa [Addr.add] using World.cell?_spot (hcell 0 (by omega))
    refine ⟨b, o, rfl, fun i hi => ?_⟩
    have h1 := hcell i (by omega)
    rw [Go.WideShapes.add_plain] at h1
    rw [h1]
    have hw := hwz (zs[i]'(by omega)) (List.getElem_mem _)
    have m1 : IntKind.u8.min = 0 := rfl
    have m2 : IntKind.u8.max = 255 := rfl
    simp only [Lit.wf, Bool.and_eq_true, decide_eq_true_eq] at hw
    simp only [List.getD, List.getElem?_map, List.getElem?_take, hi, if_true, List.getElem?_eq_getElem (show i < zs.length by omega), Option.map_some, Option.getD_some, bv, UInt8.toNat_ofNat']
    congr 2
    omega

/-- The cells of bytes. -/
def bvs (xs : List UInt8) : List Value := xs.map bv
theorem bvs_len (xs : List UInt8) : (bvs xs).length = xs.length := by simp [bvs]
theorem bvs_append (xs ys : List UInt8) : bvs (xs ++ ys) = bvs xs ++ bvs ys := by simp [bvs]
theorem bvs_one (xs : List UInt8) : ∀ u ∈ bvs xs, u.oneCell' = true := by
  intro u hu
  obtain ⟨_, _, rfl⟩ := List.mem_map.1 hu
  rfl
theorem bvs_get {xs : List UInt8} {i : Nat} (h : i < xs.length) : (bvs xs)[i]? = some (bv (xs.getD i 0)) := by simp [bvs, List.getD, h]

/-- A slice of bytes that the call itself has made: it holds xs, and no other value reaches its cells. -/
def Own (w : World) (base : Nat) (e : TypeId) (v : Value) (xs : List UInt8) : Prop := w.ownsRow base e 1 v xs.length (bvs xs)

theorem Own.shape {w : World} {base : Nat} {e : TypeId} {v : Value} {xs : List UInt8} (h : Own w base e v xs) : ∃ p c, v = .slice p xs.length c ∧ Bin w p c xs ∧ (∀ a, p = some a → base ≤ a.block ∧ a.block < w.heap.size) := by
  have h0 := h
  rcases h.2 with ⟨rfl, hn⟩ | ⟨g, cap, cur, rfl, hb, hg, hc, hm, hs, ht⟩
  · obtain rfl : xs = [] := List.eq_nil_of_length_eq_zero hn
    exact ⟨none, 0, rfl, Bin.nil w, fun a h => by cases h⟩
  · refine ⟨some ⟨g, 0, none⟩, cap, rfl, ⟨hc, by simpa [maxLen] using hm, fun h => (by cases h), fun _ => ⟨g, 0, rfl, fun i hi => ?_⟩⟩, fun a ha => ?_⟩
    · rw [Nat.zero_add, World.ownsRow.cellAt h0 i (by omega), bvs_get hi]
    · obtain rfl := Option.some.inj ha
      exact ⟨hb, (Array.getElem?_eq_some_iff.1 hg).1⟩
theorem Own.bin {w : World} {base : Nat} {e : TypeId} {p : Option Addr} {n c : Nat} {xs : List UInt8} (h : Own w base e (.slice p n c) xs) : n = xs.length ∧ Bin w p c xs := by
  obtain ⟨p', c', hv, hb, _⟩ := h.shape
  simp only [Value.slice.injEq] at hv
  obtain ⟨rfl, rfl, rfl⟩ := hv
  exact ⟨rfl, hb⟩
theorem Own.below {w w' : World} {base : Nat} {e : TypeId} {v : Value} {xs : List UInt8} (h : Own w base e v xs) (hb : Below w.heap.size w w') : Own w' base e v xs := by
  refine ⟨h.1, ?_⟩
  rcases h.2 with hn | ⟨g, cap, cur, rfl, h1, hg, rest⟩
  · exact .inl hn
  · exact .inr ⟨g, cap, cur, rfl, h1, by rw [hb.block g (Array.getElem?_eq_some_iff.1 hg).1]; exact hg, rest⟩
theorem Own.free {w : World} {base : Nat} {e : TypeId} {b o n c : Nat} {xs : List UInt8} (h : Own w base e (.slice (some ⟨b, o, none⟩) n c) xs) (j : Nat) : o = 0 ∧ w.frozen? ⟨b, j, none⟩ = false := by
  rcases h.2 with ⟨h', _⟩ | ⟨g, cap, cur, hv, _⟩
  · simp at h'
  · simp only [Value.slice.injEq, Option.some.injEq, Addr.mk.injEq, and_true] at hv
    obtain ⟨⟨rfl, rfl⟩, rfl, rfl⟩ := hv
    have h' := h
    obtain ⟨hn, _⟩ := h'.bin
    exact ⟨rfl, World.ownsRow.frozenAt (hn ▸ h) j⟩
theorem Own.alloc {w : World} {base : Nat} {e : TypeId} {v : Value} {xs : List UInt8} (h : Own w base e v xs) (o : Obj) : Own (w.alloc o) base e v xs := h.below ((Below.refl _ _).alloc (Nat.le_refl _) o)
theorem Own.at {w : World} {base : Nat} {e : TypeId} {p : Option Addr} {n c : Nat} {xs : List UInt8} (h : Own w base e (.slice p n c) xs) (hn : 0 < n) : ∃ g, p = some ⟨g, 0, none⟩ ∧ base ≤ g ∧ g < w.heap.size := by
  rcases h.2 with ⟨hv, _⟩ | ⟨g, cap, cur, hv, hb, hg, _⟩
  · simp only [Value.slice.injEq] at hv
    omega
  · simp only [Value.slice.injEq] at hv
    exact ⟨g, hv.1, hb, (Array.getElem?_eq_some_iff.1 hg).1⟩
theorem bvs_set (xs : List UInt8) (i : Nat) (c : UInt8) : (bvs xs).set i (bv c) = bvs (xs.set i c) := by simp [bvs, List.map_set]
/-- One byte of it is stored. -/
theorem Own.set {w : World} {base : Nat} {e : TypeId} {b n c : Nat} {xs : List UInt8} (h : Own w base e (.slice (some ⟨b, 0, none⟩) n c) xs) (i : Nat) (u : UInt8) :
    Own (w.setCell ⟨b, i, none⟩ (bv u)) base e (.slice (some ⟨b, 0, none⟩) n c) (xs.set i u) := by
  obtain ⟨rfl, _⟩ := h.bin
  have h2 : World.ownsRow w base e 1 (.slice (some ⟨b, 0, none⟩) xs.length c) xs.length (bvs xs) := h
  have := (World.ownsRow.stored h2 i (bv u)).1
  show World.ownsRow _ _ _ _ _ _ _
  rw [List.length_set, ← bvs_set]
  exact this
/-- What was made is below nothing old. -/
theorem Own.grown_below {w w' : World} {N : Nat} {base : Nat} {e : TypeId} {v : Value} {xs : List UInt8} (h : Own w base e v xs) (hg : w.grownBy w' v.ownBlock) (hN : N ≤ base) (hs : N ≤ w.heap.size) : Below N w w' :=
  (Below.refl N w).grown hg hs fun k hk => by
    have := (World.ownsRow.lt h k hk).1
    omega

section
variable {P : Program} {w : World} {ops : Array Oper} {rest : List Oper} {o : Oper} {a : Act} {Q : Exit → Act → World → Prop}

/-- 'append(out, b...)': out made by the call, b whatever. -/
theorem wpList_append_bytes (hgd : o.guard = none) (s x : Operand) (t : TypeId)
    (ho : o.op = .call { callee := .builtin .append, args := #[s, x], argTypes := #[t, t] })
    (base : Nat) (e : TypeId) (z : Value) (ht : P.underlying t = some (.slice e)) (hi : (P.info? e).map (fun i => (i.zero, i.size, i.bytes)) = some (some z, 1, 1)) (hzs : z.cells.size = 1)
    (v : Value) (xs : List UInt8) (hs : a.eval s = v) (hown : Own w base e v xs)
    (p : Option Addr) (n c : Nat) (ys : List UInt8) (hx : a.eval x = .slice p n c) (hl : ys.length = n) (hin : Bin w p c ys)
    (hbytes : xs.length + ys.length ≤ 140737488355328) (hbase : base ≤ w.heap.size)
    (h : ∀ p' c' zs w', Hid (zs = xs ++ ys) → Own w' base e (.slice p' zs.length c') zs → Below base w w' → wpList P ops Q rest (a.put o.dst (.slice p' zs.length c')) w') : wpList P ops Q (o :: rest) a w := by
  obtain ⟨i, hi, hz0, hz1, hz2⟩ := info_parts hi
  subst hl
  have fin : ∀ v' w', Own w' base e v' (xs ++ ys) → Below base w w' → wpList P ops Q rest (a.put o.dst v') w' := fun v' w' h1 h2 => by
    obtain ⟨p', c', rfl, _, _⟩ := h1.shape
    exact h p' c' _ w' rfl h1 h2
  cases p with
  | none =>
    have hc0 := hin.bare rfl
    obtain rfl : ys = [] := List.eq_nil_of_length_eq_zero (by have := hin.cap; omega)
    refine wpList_append_own_none hgd s x t ho base e i 1 ht hi v xs.length (bvs xs) hs hown (by rw [hx, hc0]; rfl) ?_
    exact fin v w (by rw [List.append_nil]; exact hown) (Below.refl _ _)
  | some ad =>
    refine wpList_append_own w hgd s x t ho base e i z 1 1 ht hi hz0 hz1 hz2 hzs (by omega) v xs.length (bvs xs) hs hown ad ys.length c (bvs ys) hx (by rw [bvs_len]; omega) (fun j u hj => ?_) (bvs_one ys) (by simp only [maxLen]; omega) (by omega) hbase fun v' w' h2 h3 _ => fin v' w' ?_ (hown.grown_below h3 (Nat.le_refl _) hbase)
    · have hjl : j < ys.length := by have := (List.getElem?_eq_some_iff.1 hj).1; rwa [bvs_len] at this
      rw [bvs_get hjl] at hj
      obtain rfl := Option.some.inj hj
      obtain ⟨b, o, hp, hc⟩ := hin.cells (by omega)
      obtain rfl := Option.some.inj hp
      rw [Go.WideShapes.add_plain]
      exact hc j hjl
    · show World.ownsRow _ _ _ _ _ _ _
      rw [List.length_append, bvs_append]
      exact h2
/-- 'make([]byte, 0, n)'. -/
theorem wpList_make_bytes (hg : o.guard = none) (l c : Operand) (t : TypeId) (hop : o.op = Op.makeSlice t l c)
    (base : Nat) (e : TypeId) (z : Value) (ht : P.underlying t = some (.slice e)) (hi : (P.info? e).map (fun i => (i.zero, i.size, i.bytes)) = some (some z, 1, 1))
    (kl kc : IntKind) (C : Int) (n : Nat) (hl : a.eval l = .int kl 0) (hc : a.eval c = .int kc C) (hC : C = (n : Int)) (hn : n ≤ 140737488355328) (hbase : base ≤ w.heap.size)
    (h : ∀ w', Own w' base e (.slice (some ⟨w.heap.size, 0, none⟩) 0 n) [] → Below base w w' → wpList P ops Q rest (a.put o.dst (.slice (some ⟨w.heap.size, 0, none⟩) 0 n)) w') : wpList P ops Q (o :: rest) a w := by
  obtain ⟨i, hi, hz0, hz1, hz2⟩ := info_parts hi
  exact wpList_make_own w hg l c t hop base e i z 1 ht hi hz0 hz1 kl kc C n hl hc hC (by rw [hz2]; omega) (by simp only [maxLen]; omega) hbase fun w' h1 h2 => h w' h1 ((Below.refl base w).grown h2 hbase (fun k hk => by cases hk))
/-- 'make([]byte, n)'. -/
theorem wpList_make_zeros (hg : o.guard = none) (l c : Operand) (t : TypeId) (hop : o.op = Op.makeSlice t l c)
    (base : Nat) (e : TypeId) (ht : P.underlying t = some (.slice e)) (hi : (P.info? e).map (fun i => (i.zero, i.size, i.bytes)) = some (some (.int .u8 0), 1, 1))
    (kl kc : IntKind) (L C : Int) (n : Nat) (hl : a.eval l = .int kl L) (hc : a.eval c = .int kc C) (hL : L = (n : Int)) (hC : C = (n : Int)) (hn : n ≤ 140737488355328) (hbase : base ≤ w.heap.size)
    (h : ∀ w', Own w' base e (.slice (some ⟨w.heap.size, 0, none⟩) n n) (List.replicate n 0) → Below base w w' → wpList P ops Q rest (a.put o.dst (.slice (some ⟨w.heap.size, 0, none⟩) n n)) w') : wpList P ops Q (o :: rest) a w := by
  obtain ⟨i, hi, hz0, hz1, hz2⟩ := info_parts hi
  refine wpList_make_full w hg l c t hop base e i _ 1 ht hi hz0 hz1 kl kc L C n hl hc hL hC (by rw [hz2]; omega) (by simp only [maxLen]; omega) hbase fun w' h1 h2 => h w' ?_ ((Below.refl base w).grown h2 hbase (fun k hk => by cases hk))
  have e1 : (madeCells (Value.int .u8 0).cells (n * 1)).toList = bvs (List.replicate n 0) := by
    rw [show (Value.int .u8 0).cells = #[Value.int .u8 0] from rfl, toList_madeCells_one, Nat.mul_one]
    simp [bvs, bv]
  rw [e1] at h1
  show World.ownsRow _ _ _ _ _ _ _
  rw [List.length_replicate]
  exact h1
end

/-- A slice of bytes that stands in the code. -/
theorem Bin.made (w : World) (xs : List UInt8) (n : Nat) (e : TypeId) (cs : Array Value) (fr : Nat × Nat) (hc : cs = (bvs xs).toArray) (hn : xs.length = n) (hs : n ≤ 9223372036854775807) : Bin (w.alloc (.cells cs e fr)) (some ⟨w.heap.size, 0, none⟩) n xs := by
  subst hc hn
  refine ⟨Nat.le_refl _, hs, fun h => (by cases h), fun _ => ⟨w.heap.size, 0, rfl, fun i hi => ?_⟩⟩
  rw [World.cell?_alloc_mark, Nat.zero_add]
  simpa using bvs_get hi
theorem Own.lit (w : World) (xs : List UInt8) (n base : Nat) (e : TypeId) (cs : Array Value) (hc : cs = (bvs xs).toArray) (hn : xs.length = n) (hs : n ≤ 9223372036854775807) (hb : base ≤ w.heap.size) : Own (w.alloc (.cells cs e)) base e (.slice (some ⟨w.heap.size, 0, none⟩) n n) xs := by
  subst hc hn
  have := World.ownsRow_lit (base := base) (e := e) (size := 1) w (bvs xs).toArray xs.length hb (by simpa [maxLen] using hs) (by simp [bvs_len])
  exact this
theorem size_alloc_le {n : Nat} {w : World} (o : Obj) (h : n ≤ w.heap.size) : n ≤ (w.alloc o).heap.size := Nat.le_trans h ((Below.refl w.heap.size w).alloc (Nat.le_refl _) o).size
/-- A byte of a number. -/
theorem bv_ofNat (n : Nat) (h : n < 256) : bv (UInt8.ofNat n) = .int .u8 (n : Int) := by
  unfold bv; congr 2; simp; omega
end Go.Proofs.YtcajamgajchheaaDoor
