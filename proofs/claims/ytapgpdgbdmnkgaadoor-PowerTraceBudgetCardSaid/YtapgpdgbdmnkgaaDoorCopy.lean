/-
  'copy(dst, src)' AND 'make' AT ELEMENTS OF SEVERAL CELLS (any program): dst lies in a row that is known whole. Nothing of the program stands here.
-/
import Derived.Test.YtapgpdgbdmnkgaaDoorRow
import Derived.Laws.CopyOwn
import Derived.Laws.OwnMore
import Derived.Deep.RegionLaw
namespace Go.Proofs.YtapgpdgbdmnkgaaDoor
open Go Go.RowKit
section
variable {α : Type} {k : Nat} {enc : α → List Value}
theorem flatL_splice (E : Enc k enc) (cur ys : List α) (off : Nat) (h : off + ys.length ≤ cur.length) : splice (flatL enc cur) (off * k) (flatL enc ys) = flatL enc (splice cur off ys) := by
  unfold splice
  rw [flatL_append, flatL_append, flatL_take E, flatL_len E]
  congr 2
  have h1 := List.take_append_drop (off + ys.length) cur
  have h2 : flatL enc cur = flatL enc (cur.take (off + ys.length)) ++ flatL enc (cur.drop (off + ys.length)) := by rw [← flatL_append, h1]
  have hl : (flatL enc (cur.take (off + ys.length))).length = off * k + ys.length * k := by
    rw [flatL_len E, List.length_take, Nat.min_eq_left h, Nat.add_mul]
  conv => lhs; rw [h2, ← hl]
  rw [List.drop_left]
/-- copy, run. -/
theorem run_copy_rows {P : Program} (E : Enc k enc) (w : World) (dT sT ty elem : TypeId) (g off dLen dCap sLen sCap : Nat) (dp sp : Option Addr) (cur : List α) (t : TypeId)
    (hu : P.underlying dT = some (.slice elem)) (hsz : (P.info? elem).map (·.size) = some k) (hg : w.heap[g]? = some (.cells (flatL enc cur).toArray t (0, 0))) (ys : List α) (hn : ys.length = Nat.min sLen dLen)
    (hpos : 0 < ys.length → dp = some ⟨g, off * k, none⟩ ∧ ∃ b o, sp = some ⟨b, o, none⟩ ∧ ∀ j v, (flatL enc ys)[j]? = some v → w.cell? ⟨b, o + j, none⟩ = some v) (hfit : off + ys.length ≤ cur.length) :
    ∃ w', (Builtin.copy_ #[dT, sT] ty #[.slice dp dLen dCap, .slice sp sLen sCap]).run P w = .ok (goInt ys.length) w' ∧ w'.heap[g]? = some (.cells (flatL enc (splice cur off ys)).toArray t (0, 0)) ∧ (∀ B w0, Below B w0 w → B ≤ g → Below B w0 w') := by
  obtain ⟨i, hq, hi⟩ : ∃ i, P.info? elem = some i ∧ i.size = k := by
    cases hq : P.info? elem with
    | none => simp [hq] at hsz
    | some i => exact ⟨i, rfl, by simpa [hq] using hsz⟩
  by_cases h0 : ys.length = 0
  · obtain rfl : ys = [] := List.eq_nil_of_length_eq_zero h0
    refine ⟨w, ?_, by simpa [splice] using hg, fun B w0 hb _ => hb⟩
    have hm : Nat.min sLen dLen = 0 := by simpa using hn.symm
    have hl : ∀ (x : Addr), (loadCells x 0).run P w = .ok #[] w := fun x => by simpa using run_loadCells_list (P := P) w x [] (by simp)
    cases dp <;> cases sp <;> simp [Builtin.copy_, run_underlying hu, Builtin.lenOf, Builtin.firstCells, sizeOf, typeInfo, hq, hm, storeCells, hl]
  · obtain ⟨rfl, b, o, rfl, hsrc⟩ := hpos (by omega)
    have hlen := flatL_len E ys
    have hl := run_loadCells_list (P := P) w ⟨b, o, none⟩ (flatL enc ys) (fun j v hj => by rw [Go.WideShapes.add_plain]; exact hsrc j v hj)
    rw [hlen] at hl
    have hf : off * k + 0 + (flatL enc ys).length ≤ (flatL enc cur).toArray.size := by
      have := Nat.mul_le_mul_right k hfit
      rw [Nat.add_mul] at this
      simp only [List.size_toArray, flatL_len E, Nat.add_zero]
      exact this
    have hst := run_storeCells_at P g (off * k) t (flatL enc ys) 0 (flatL enc cur).toArray w hg hf (flatL_mem E)
    have e1 : (flatL enc cur).toArray.toList.take (off * k + 0) ++ flatL enc ys ++ (flatL enc cur).toArray.toList.drop (off * k + 0 + (flatL enc ys).length) = flatL enc (splice cur off ys) := by
      rw [← flatL_splice E cur ys off hfit]
      simp [splice]
    rw [e1] at hst
    refine ⟨w.setRow g (flatL enc (splice cur off ys)).toArray, ?_, setRow_heap w g _ _ t _ hg, fun B w0 hb hB => below_setRow hb hB _⟩
    simp [Builtin.copy_, run_underlying hu, Builtin.lenOf, Builtin.firstCells, sizeOf, typeInfo, hq, hi, ← hn, hl, hst]
end
section
variable {α : Type} {k : Nat} {enc : α → List Value} {P : Program} {w : World} {ops : Array Oper} {rest : List Oper} {o : Oper} {a : Act} {Q : Exit → Act → World → Prop}
theorem wpList_copy_rows (E : Enc k enc) (hgd : o.guard = none) (d s : Operand) (dT sT : TypeId)
    (ho : o.op = .call { callee := .builtin .copy, args := #[d, s], argTypes := #[dT, sT] }) (elem : TypeId) (hu : P.underlying dT = some (.slice elem)) (hsz : (P.info? elem).map (·.size) = some k)
    (dp sp : Option Addr) (dLen dCap sLen sCap : Nat) (hd : a.eval d = .slice dp dLen dCap) (hs : a.eval s = .slice sp sLen sCap)
    (g off : Nat) (cur : List α) (t : TypeId) (hg : w.heap[g]? = some (.cells (flatL enc cur).toArray t (0, 0))) (ys : List α) (hn : ys.length = Nat.min sLen dLen)
    (hpos : 0 < ys.length → dp = some ⟨g, off * k, none⟩ ∧ ∃ b o, sp = some ⟨b, o, none⟩ ∧ ∀ j v, (flatL enc ys)[j]? = some v → w.cell? ⟨b, o + j, none⟩ = some v) (hfit : off + ys.length ≤ cur.length)
    (B : Nat) (w0 : World) (hb : Below B w0 w) (hBg : B ≤ g)
    (h : ∀ w', Hid (w'.heap[g]? = some (.cells (flatL enc (splice cur off ys)).toArray t (0, 0))) → Hid (Below B w0 w') → wpList P ops Q rest (a.put o.dst (goInt ys.length)) w') : wpList P ops Q (o :: rest) a w := by
  obtain ⟨w', hrun, h1, h2⟩ := run_copy_rows (P := P) E w dT sT o.type elem g off dLen dCap sLen sCap dp sp cur t hu hsz hg ys hn hpos hfit
  refine wpList_plain hgd fun K hK => ?_
  unfold Oper.wp
  simp [execOp, ho, resolve, invoke, builtin, hd, hs, hrun, Result.andThen]
  exact hK _ _ (h w' h1 (h2 B w0 hb hBg))
theorem step_copy_rows {K : Act → World → Prop} {X : Prop} (E : Enc k enc) (hgd : o.guard = none) (d s : Operand) (dT sT : TypeId)
    (ho : o.op = .call { callee := .builtin .copy, args := #[d, s], argTypes := #[dT, sT] }) (elem : TypeId) (hu : P.underlying dT = some (.slice elem)) (hsz : (P.info? elem).map (·.size) = some k)
    (dp sp : Option Addr) (dLen dCap sLen sCap : Nat) (hd : a.eval d = .slice dp dLen dCap) (hs : a.eval s = .slice sp sLen sCap)
    (g off : Nat) (cur : List α) (t : TypeId) (hg : w.heap[g]? = some (.cells (flatL enc cur).toArray t (0, 0))) (ys : List α) (hn : ys.length = Nat.min sLen dLen)
    (hpos : 0 < ys.length → dp = some ⟨g, off * k, none⟩ ∧ ∃ b o, sp = some ⟨b, o, none⟩ ∧ ∀ j v, (flatL enc ys)[j]? = some v → w.cell? ⟨b, o + j, none⟩ = some v) (hfit : off + ys.length ≤ cur.length)
    (B : Nat) (w0 : World) (hb : Below B w0 w) (hBg : B ≤ g)
    (h : ∀ w', Hid (w'.heap[g]? = some (.cells (flatL enc (splice cur off ys)).toArray t (0, 0))) → Hid (Below B w0 w') → K (a.put o.dst (goInt ys.length)) w') : if Region.wanted o (yielded ops a.tmps) = true then Oper.wp P o a w K Q else X := by
  have hw : Region.wanted o (yielded ops a.tmps) = true := by simp [Region.wanted, hgd]
  rw [if_pos hw]
  obtain ⟨w', hrun, h1, h2⟩ := run_copy_rows (P := P) E w dT sT o.type elem g off dLen dCap sLen sCap dp sp cur t hu hsz hg ys hn hpos hfit
  unfold Oper.wp
  simp [execOp, ho, resolve, invoke, builtin, hd, hs, hrun, Result.andThen]
  exact h w' h1 (h2 B w0 hb hBg)
/-- 'make([]T, n)'. -/
theorem wpList_make_rows (_E : Enc k enc) (hg : o.guard = none) (l c : Operand) (t : TypeId) (hop : o.op = Op.makeSlice t l c)
    (base : Nat) (e : TypeId) (z : Value) (by' : Nat) (x0 : α) (ht : P.underlying t = some (.slice e)) (hi : (P.info? e).map (fun i => (i.zero, i.size, i.bytes)) = some (some z, k, by'))
    (kl kc : IntKind) (L C : Int) (n : Nat) (hzc : (madeCells z.cells (n * k)).toList = flatL enc (List.replicate n x0)) (hl : a.eval l = .int kl L) (hc : a.eval c = .int kc C) (hL : L = (n : Int)) (hC : C = (n : Int)) (hn : by' * n ≤ 281474976710656 ∧ n ≤ 9223372036854775807) (hbase : base ≤ w.heap.size)
    (h : ∀ w', OwR w' base e k enc (.slice (some ⟨w.heap.size, 0, none⟩) n n) (List.replicate n x0) → Below base w w' → wpList P ops Q rest (a.put o.dst (.slice (some ⟨w.heap.size, 0, none⟩) n n)) w') : wpList P ops Q (o :: rest) a w := by
  obtain ⟨i, hi, hz0, hz1, hz2⟩ := info_parts hi
  refine wpList_make_full w hg l c t hop base e i _ k ht hi hz0 hz1 kl kc L C n hl hc hL hC (by rw [hz2]; exact hn.1) (by simp only [maxLen]; omega) hbase fun w' h1 h2 => h w' ?_ ((Below.refl base w).grown h2 hbase (fun k hk => by cases hk))
  rw [hzc] at h1
  show World.ownsRow _ _ _ _ _ _ _
  rw [List.length_replicate]
  exact h1
end
/-- A row of which every cell is known. -/
theorem OwR.full {α : Type} {k : Nat} {enc : α → List Value} (E : Enc k enc) {w : World} {base : Nat} {e : TypeId} {g n : Nat} {xs : List α} (h : OwR w base e k enc (.slice (some ⟨g, 0, none⟩) n n) xs) : w.heap[g]? = some (.cells (flatL enc xs).toArray e (0, 0)) := by
  obtain ⟨hn, _⟩ := h.rd E
  rcases h.2 with ⟨hv, _⟩ | ⟨g', cap, cur, hv, _, hg, _, _, hs, ht⟩
  · simp at hv
  · simp only [Value.slice.injEq, Option.some.injEq, Addr.mk.injEq, and_true] at hv
    obtain ⟨rfl, hxs, rfl⟩ := hv
    rw [hg]
    congr 2
    apply Array.ext'
    rw [List.take_of_length_le (by rw [Array.length_toList, hs, ← hn]; exact Nat.le_refl _)] at ht
    exact ht
theorem OwR.of_heap {α : Type} {k : Nat} {enc : α → List Value} (E : Enc k enc) {w : World} {base : Nat} {e : TypeId} {g n : Nat} {xs : List α} (h : w.heap[g]? = some (.cells (flatL enc xs).toArray e (0, 0))) (hb : base ≤ g) (hn : xs.length = n) (hm : n ≤ 9223372036854775807) : OwR w base e k enc (.slice (some ⟨g, 0, none⟩) n n) xs := by
  subst hn
  exact ⟨flatL_len E xs, .inr ⟨g, _, _, rfl, hb, h, Nat.le_refl _, by simpa [maxLen] using hm, by simp [flatL_len E], by rw [List.take_of_length_le (by simp [flatL_len E])]⟩⟩
end Go.Proofs.YtapgpdgbdmnkgaaDoor
