/-
  LAYER 7 (nvm): the memory in memory: its record at q, its bytes at g, its meter's box; what its methods change.
-/
import Derived.Test.YtmfahmbebpojpaaNvPlain
namespace Go.Proofs.Ytmfahmbebpojpaa
open Go Go.RowKit Go.IntWalk
set_option linter.unusedSimpArgs false

/-- The record at q and the bytes at g hold the state s. -/
structure NvS (w : World) (g q : Nat) (s : NV) : Prop where
  record : w.heap[q]? = some (.cells #[.slice (some ⟨g, 0, none⟩) s.B.length s.B.length, .bool s.off, .int .i64 s.left, s.mt.val, .int .i64 s.wr] 58)
  row : w.heap[g]? = some (.cells (bvs s.B).toArray 5)
  mt : s.mt.rep w
  most : s.B.length ≤ 65536
/-- The blocks that its methods change. -/
def Nvb (g q : Nat) (m : Mt) (k : Nat) : Prop := k = g ∨ k = q ∨ m.blk k

theorem NvS.ne {w : World} {g q : Nat} {s : NV} (h : NvS w g q s) : g ≠ q := fun e => by
  have h1 := h.record
  rw [← e, h.row] at h1
  simp at h1
theorem NvS.lt {w : World} {g q : Nat} {s : NV} (h : NvS w g q s) : g < w.heap.size ∧ q < w.heap.size := ⟨lt_of_heap h.row, lt_of_heap h.record⟩
theorem Mt.rep_lt {w : World} {m : Mt} (h : m.rep w) {k : Nat} (hk : m.blk k) : k < w.heap.size := by
  cases m with
  | no => cases hk
  | down b n => obtain rfl : k = b := hk; exact lt_of_heap h
  | up b kb c z => obtain rfl : k = b := hk; exact lt_of_heap h.1
theorem NvS.blk_lt {w : World} {g q : Nat} {s : NV} (h : NvS w g q s) {k : Nat} (hk : Nvb g q s.mt k) : k < w.heap.size := by
  rcases hk with rfl | rfl | hk
  · exact h.lt.1
  · exact h.lt.2
  · exact Mt.rep_lt h.mt hk
/-- The meter's box is of another type than the record and the bytes. -/
theorem NvS.mt_ne {w : World} {g q : Nat} {s : NV} (h : NvS w g q s) {k : Nat} (hk : s.mt.blk k) : k ≠ g ∧ k ≠ q := by
  have hm := h.mt
  have h1 := h.record
  have h2 := h.row
  cases hs : s.mt with
  | no => rw [hs] at hk; cases hk
  | down b n =>
    rw [hs] at hk hm
    obtain rfl : k = b := hk
    have hm : w.heap[k]? = some (.cells #[.int .i64 n] 3) := hm
    exact ⟨fun e => by rw [← e, hm] at h2; simp at h2, fun e => by rw [← e, hm] at h1; simp at h1⟩
  | up b kb c z =>
    rw [hs] at hk hm
    obtain rfl : k = b := hk
    have hm : w.heap[k]? = some (.cells #[.int .i64 c] 3) := hm.1
    exact ⟨fun e => by rw [← e, hm] at h2; simp at h2, fun e => by rw [← e, hm] at h1; simp at h1⟩
theorem Mt.rep_grew {w w' : World} {m : Mt} (h : m.rep w) (hg : Grew w w') : m.rep w' := by
  cases m with
  | no => trivial
  | down b n => exact hg.heap h
  | up b kb c k => exact ⟨hg.heap h.1, hg.heap h.2.1, h.2.2⟩
theorem NvS.grew {w w' : World} {g q : Nat} {s : NV} (h : NvS w g q s) (hg : Grew w w') : NvS w' g q s :=
  ⟨hg.heap h.record, hg.heap h.row, Mt.rep_grew h.mt hg, h.most⟩
theorem NvS.alloc {w : World} {g q : Nat} {s : NV} (h : NvS w g q s) (o : Obj) : NvS (w.alloc o) g q s := h.grew (Below.alloc (Below.refl _ _) (Nat.le_refl _) o)
theorem NvS.drew {w : World} {g q : Nat} {s : NV} (h : NvS w g q s) : NvS w.drew g q s := h.grew (Grew.drew w)
/-- The cells of the record. -/
theorem NvS.rc {w : World} {g q : Nat} {s : NV} (h : NvS w g q s) :
    w.cell? ⟨q, 0, none⟩ = some (.slice (some ⟨g, 0, none⟩) s.B.length s.B.length) ∧ w.cell? ⟨q, 1, none⟩ = some (.bool s.off) ∧ w.cell? ⟨q, 2, none⟩ = some (.int .i64 s.left) ∧ w.cell? ⟨q, 3, none⟩ = some s.mt.val ∧ w.cell? ⟨q, 4, none⟩ = some (.int .i64 s.wr) ∧ ∀ i, w.frozen? ⟨q, i, none⟩ = false := by
  refine ⟨?_, ?_, ?_, ?_, ?_, fun i => free_of_heap h.record i⟩ <;> rw [cells_of_heap h.record] <;> rfl
theorem NvS.bc {w : World} {g q : Nat} {s : NV} (h : NvS w g q s) {i : Nat} (hi : i < s.B.length) : w.cell? ⟨g, i, none⟩ = some (bv (s.B.getD i 0)) ∧ w.frozen? ⟨g, i, none⟩ = false := by
  refine ⟨?_, free_of_heap h.row i⟩
  rw [cells_of_heap h.row]
  have := bvs_get hi
  simpa using this
/-- Its bytes, as a slice. -/
theorem NvS.bin {w : World} {g q : Nat} {s : NV} (h : NvS w g q s) : Bin w (some ⟨g, 0, none⟩) s.B.length s.B :=
  ⟨Nat.le_refl _, by have := h.most; omega, fun h => (by cases h), fun _ => ⟨g, 0, rfl, fun i hi => by rw [Nat.zero_add]; exact (h.bc hi).1⟩⟩
/-- A store to a field of the record. -/
theorem NvS.keep {w w' : World} {g q : Nat} {s s' : NV} (h : NvS w g q s) (hB : s'.B = s.B) (hm : s'.mt = s.mt) (hb : ∀ k, k ≠ q → w'.heap[k]? = w.heap[k]?)
    (hr : w'.heap[q]? = some (.cells #[.slice (some ⟨g, 0, none⟩) s'.B.length s'.B.length, .bool s'.off, .int .i64 s'.left, s'.mt.val, .int .i64 s'.wr] 58)) : NvS w' g q s' := by
  refine ⟨hr, by rw [hB, hb g h.ne]; exact h.row, ?_, by rw [hB]; exact h.most⟩
  have hm' := h.mt
  rw [hm]
  cases hs : s.mt with
  | no => trivial
  | down b n =>
    rw [hs] at hm'
    have := h.mt_ne (k := b) (by rw [hs]; rfl)
    exact (hb b this.2).trans hm'
  | up b kb c k =>
    rw [hs] at hm'
    have h1 := h.mt_ne (k := b) (by rw [hs]; rfl)
    have h2 : kb ≠ q := fun e => by
      have h3 := h.record
      have h4 : w.heap[kb]? = some (.cells #[.int .i64 k] 3) := hm'.2.1
      rw [← e, h4] at h3
      simp at h3
    exact ⟨(hb b h1.2).trans hm'.1, (hb kb h2).trans hm'.2.1, hm'.2.2⟩
section
variable {w : World} {g q : Nat} {s : NV}
theorem NvS.set_off (h : NvS w g q s) (b : Bool) : NvS (w.setCell ⟨q, 1, none⟩ (.bool b)) g q { s with off := b } :=
  h.keep rfl rfl (fun k hk => heap_setCell_other w _ k _ hk) (by rw [heap_setCell_same h.record]; rfl)
theorem NvS.set_left (h : NvS w g q s) (n : Int) : NvS (w.setCell ⟨q, 2, none⟩ (.int .i64 n)) g q { s with left := n } :=
  h.keep rfl rfl (fun k hk => heap_setCell_other w _ k _ hk) (by rw [heap_setCell_same h.record]; rfl)
theorem NvS.set_wr (h : NvS w g q s) (n : Int) : NvS (w.setCell ⟨q, 4, none⟩ (.int .i64 n)) g q { s with wr := n } :=
  h.keep rfl rfl (fun k hk => heap_setCell_other w _ k _ hk) (by rw [heap_setCell_same h.record]; rfl)
theorem NvS.set_mt (h : NvS w g q s) (m : Mt) (hm : m.rep w) (hq : ∀ n b, (m = .down b n → b ≠ q)) (hu : ∀ b kb c k, m = .up b kb c k → b ≠ q ∧ kb ≠ q) : NvS (w.setCell ⟨q, 3, none⟩ m.val) g q { s with mt := m } := by
  have hb : ∀ k, k ≠ q → (w.setCell ⟨q, 3, none⟩ m.val).heap[k]? = w.heap[k]? := fun k hk => heap_setCell_other w _ k _ hk
  refine ⟨by rw [heap_setCell_same h.record]; rfl, by rw [hb g h.ne]; exact h.row, ?_, h.most⟩
  show m.rep _
  cases m with
  | no => trivial
  | down b n => exact (hb b (hq n b rfl)).trans hm
  | up b kb c k => exact ⟨(hb b (hu b kb c k rfl).1).trans hm.1, (hb kb (hu b kb c k rfl).2).trans hm.2.1, hm.2.2⟩
/-- A store to a byte. -/
theorem NvS.set_byte (h : NvS w g q s) (i : Nat) (x : UInt8) : NvS (w.setCell ⟨g, i, none⟩ (bv x)) g q { s with B := s.B.set i x } := by
  have hb : ∀ k, k ≠ g → (w.setCell ⟨g, i, none⟩ (bv x)).heap[k]? = w.heap[k]? := fun k hk => heap_setCell_other w _ k _ hk
  refine ⟨?_, ?_, ?_, by simpa using h.most⟩
  · rw [hb q h.ne.symm, h.record]
    simp
  · rw [heap_setCell_same h.row]
    simp [bvs, List.map_set]
  · have hm := h.mt
    show s.mt.rep _
    cases hs : s.mt with
    | no => trivial
    | down b n =>
      rw [hs] at hm
      exact (hb b (h.mt_ne (k := b) (by rw [hs]; rfl)).1).trans hm
    | up b kb c k =>
      rw [hs] at hm
      have h2 : kb ≠ g := fun e => by
        have h3 := h.row
        have h4 : w.heap[kb]? = some (.cells #[.int .i64 k] 3) := hm.2.1
        rw [← e, h4] at h3
        simp at h3
      exact ⟨(hb b (h.mt_ne (k := b) (by rw [hs]; rfl)).1).trans hm.1, (hb kb h2).trans hm.2.1, hm.2.2⟩
/-- Other bytes. -/
theorem NvS.set_row (h : NvS w g q s) {w' : World} (hC : Chg w w' (fun k => k = g)) {xs : List UInt8} (hg : w'.heap[g]? = some (.cells (bvs xs).toArray 5)) (hl : xs.length = s.B.length) : NvS w' g q { s with B := xs } := by
  refine ⟨?_, hg, ?_, by show xs.length ≤ _; rw [hl]; exact h.most⟩
  · rw [hC.block q h.lt.2 (Ne.symm h.ne), h.record]
    simp [hl]
  · have hm := h.mt
    show s.mt.rep _
    cases hs : s.mt with
    | no => trivial
    | down b n =>
      rw [hs] at hm
      exact (hC.block b (lt_of_heap hm) (h.mt_ne (k := b) (by rw [hs]; rfl)).1).trans hm
    | up b kb c k =>
      rw [hs] at hm
      have h2 : kb ≠ g := fun e => by
        have h3 := h.row
        have h4 : w.heap[kb]? = some (.cells #[.int .i64 k] 3) := hm.2.1
        rw [← e, h4] at h3
        simp at h3
      exact ⟨(hC.block b (lt_of_heap hm.1) (h.mt_ne (k := b) (by rw [hs]; rfl)).1).trans hm.1, (hC.block kb (lt_of_heap hm.2.1) h2).trans hm.2.1, hm.2.2⟩
/-- What a call of the meter leaves. -/
theorem NvS.spend (h : NvS w g q s) {w' : World} (hr : s.mt.spent.rep w') (hc : Chg w w' s.mt.blk) : NvS w' g q { s with mt := s.mt.spent } := by
  have hg : w'.heap[g]? = w.heap[g]? := hc.block g h.lt.1 fun hk => (h.mt_ne hk).1 rfl
  have hq : w'.heap[q]? = w.heap[q]? := hc.block q h.lt.2 fun hk => (h.mt_ne hk).2 rfl
  exact ⟨by rw [hq, h.record]; simp [s.mt.spent_val], hg.trans h.row, hr, h.most⟩
end
end Go.Proofs.Ytmfahmbebpojpaa
