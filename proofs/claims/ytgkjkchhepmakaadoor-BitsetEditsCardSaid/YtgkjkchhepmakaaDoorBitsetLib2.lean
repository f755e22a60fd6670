/-
  CONTRACTS OF WHAT LAYER 4 (bitset) CALLS OF Go's LIBRARY, FURTHER: the lowest bit, copies of slices, repeats.
-/
import Derived.Test.YtgkjkchhepmakaaDoorBitsetLib
import Derived.Test.YtgkjkchhepmakaaDoorShelf
import Derived.Laws.CopyOwn
import Derived.Deep.RegionLaw
import Derived.Shelf.Spec.TrailingZeros
namespace Go.Proofs.YtgkjkchhepmakaaDoor
open Go.RowKit Go.IntWalk

/-! ### Words in memory -/
def wv (u : W64) : Value := .int .u64 (u.toNat : Int)
theorem wv_one (u : W64) : (wv u).oneCell' = true := rfl
theorem info_u64 : (Tryd.prog.info? 56).map (fun i => (i.zero, i.size, i.bytes)) = some (some (wv 0#64), 1, 8) := by kernel_rfl
theorem under_words : Tryd.prog.underlying 25 = some (.slice (Tryd.prog.elem 25)) := by kernel_rfl
theorem elem_u64 : Tryd.prog.elem 25 = 56 := by kernel_rfl
theorem size_u64 (w : World) : (sizeOf (Tryd.prog.elem 25)).run Tryd.prog w = .ok 1 w := by rw [elem_u64]; exact Tryd.sizeOf56 w
theorem Rd.word {w : World} {b o c : Nat} {ws : List W64} (h : Rd wv w (some ⟨b, o, none⟩) c ws) (i : Nat) (hi : i < ws.length) : w.cell? ⟨b, o + i, none⟩ = some (.int .u64 ((ws.getD i 0#64).toNat : Int)) := h.at i 0#64 hi

theorem tz_core (x k idx : Nat) (w : World) (hx0 : ((x : Int) == 0) = false)
    (key : IntKind.u64.wrap (bits BinOp.and IntKind.u64 (x : Int) (IntKind.u64.wrap (-(x : Int))) * 285870213051353865) / 288230376151711744 = (idx : Int))
    (hi : idx < 64) (hk : k < 64) (hcell : w.cell? ⟨0, idx, none⟩ = some (.int .u8 k)) :
    Calls Tryd.prog 46 #[.int .u64 x] w fun e w' => e = .returned (.int .i64 k) ∧ w = w' := by
  go_enter Tryd.func46, Tryd.ntmps46
  go_wp2_with (simp only [key])
  go_ret
  exact ⟨rfl, rfl⟩
theorem tz_any (u : W64) (h : u ≠ 0#64) (w : World) (hT : TabAt 0 Lib.deBruijn64tab w) :
    Calls Tryd.prog 46 #[.int .u64 (u.toNat : Int)] w fun e w' => e = .returned (.int .i64 (Lib.ctz 64 u.toNat : Nat)) ∧ w = w' := by
  have hx : u.toNat < 18446744073709551616 := u.isLt
  have hx0 : u.toNat ≠ 0 := fun e => h (BitVec.eq_of_toNat_eq (by simpa using e))
  obtain ⟨hlow, hk⟩ := Lib.lowest_bit 64 u.toNat hx0 hx
  obtain ⟨hi, htab⟩ := Lib.deBruijn64_at _ hk
  have hcell := hT _ hi
  rw [htab] at hcell
  exact tz_core u.toNat _ _ w (by simp; omega) (tz64_key u.toNat _ hx hx0 hlow) hi hk hcell

theorem mul_any (k : Nat) (hk : k < 18446744073709551616) (z : Int) (hz : z = (k : Int)) (w : World) :
    Calls Tryd.prog 51 #[.int .u64 1, .int .u64 z] w fun e w' => e = .returned (.tuple #[.int .u64 0, .int .u64 (k : Int)]) ∧ w = w' := by
  subst hz
  refine (Tryd.bits_Mul 1 k (by decide) hk w).mono ?_
  rintro e w' ⟨rfl, rfl⟩
  refine ⟨?_, rfl⟩
  rw [Nat.one_mul, Nat.div_eq_of_lt hk, Nat.mod_eq_of_lt hk]
  rfl
theorem Ow.full {α : Type} {enc : α → Value} {w : World} {base : Nat} {e : TypeId} {g n : Nat} {xs : List α} (h : Ow enc w base e (.slice (some ⟨g, 0, none⟩) n n) xs) : w.heap[g]? = some (.cells (xs.map enc).toArray e (0, 0)) := by
  have hn := h.rd.1
  rcases h.2 with ⟨hv, _⟩ | ⟨g', cap, cur, hv, _, hg, _, _, hs, ht⟩
  · simp at hv
  · simp only [Value.slice.injEq, Option.some.injEq, Addr.mk.injEq, and_true] at hv
    obtain ⟨rfl, hxs, rfl⟩ := hv
    rw [hg]
    congr 2
    apply Array.ext'
    have hcl : cur.toList.length = n * 1 := by rw [Array.length_toList, hs]
    rw [← hn, List.take_of_length_le (by omega)] at ht
    exact ht
theorem Ow.of_heap {α : Type} {enc : α → Value} {w : World} {base : Nat} {e : TypeId} {g n : Nat} {xs : List α} (h : w.heap[g]? = some (.cells (xs.map enc).toArray e (0, 0))) (hb : base ≤ g) (hn : xs.length = n) (hm : n ≤ 9223372036854775807) : Ow enc w base e (.slice (some ⟨g, 0, none⟩) n n) xs := by
  subst hn
  exact ⟨by simp, .inr ⟨g, _, _, rfl, hb, h, Nat.le_refl _, by simpa [maxLen] using hm, by simp, by rw [Nat.mul_one]; exact List.take_of_length_le (by simp)⟩⟩
/-- The first m cells of the new row are written. -/
def rowUZ (k m : Nat) (u : W64) : List Value := List.replicate m (wv u) ++ List.replicate (k - m) (wv 0#64)
theorem rowUZ_length (k m : Nat) (u : W64) (h : m ≤ k) : (rowUZ k m u).length = k := by simp [rowUZ]; omega
theorem rowUZ_splice (k m j : Nat) (u : W64) (h : m + j ≤ k) : splice (rowUZ k m u) m (List.replicate j (wv u)) = rowUZ k (m + j) u := by
  have e1 : (rowUZ k m u).take m = List.replicate m (wv u) := by
    unfold rowUZ
    rw [List.take_append_of_le_length (by simp)]
    simp
  have e2 : (rowUZ k m u).drop (m + j) = List.replicate (k - (m + j)) (wv 0#64) := by
    unfold rowUZ
    rw [List.drop_append, List.drop_replicate, List.length_replicate, List.drop_replicate, show m - (m + j) = 0 by omega, show k - m - (m + j - m) = k - (m + j) by omega]
    rfl
  unfold splice
  rw [List.length_replicate, e1, e2, ← List.append_assoc, List.replicate_append_replicate]
  rfl
theorem rowUZ_full (k : Nat) (u : W64) : rowUZ k k u = (List.replicate k u).map wv := by simp [rowUZ]
theorem rowUZ_start (k : Nat) (u : W64) : rowUZ k 0 u = (List.replicate k 0#64).map wv := by simp [rowUZ]
theorem rep_get {α : Type} (n : Nat) (x v : α) (j : Nat) (h : (List.replicate n x)[j]? = some v) : j < n ∧ v = x := by
  obtain ⟨h1, h2⟩ := List.getElem?_eq_some_iff.1 h
  simp at h1 h2
  exact ⟨h1, h2.symm⟩
theorem rowUZ_cell {w : World} {g k m : Nat} {u : W64} {e : TypeId} (h : w.heap[g]? = some (.cells (rowUZ k m u).toArray e (0, 0))) (j : Nat) (hj : j < m) : w.cell? ⟨g, j, none⟩ = some (wv u) := by
  simp only [World.cell?, h, rowUZ]
  rw [List.getElem?_toArray, List.getElem?_append_left (by simpa using hj)]
  simp [hj]
set_option maxHeartbeats 400000 in
theorem repeat_any (p : Option Addr) (c : Nat) (u : W64) (k : Nat) (hk : k ≤ 1024) (w : World) (z : Int) (hz : z = (k : Int)) (h : Rd wv w p c [u]) :
    Calls Tryd.prog 49 #[.slice p 1 c, .int .i64 z] w fun e w' => ∃ g, e = .returned (.slice (some ⟨g, 0, none⟩) k k) ∧ Ow wv w' w.heap.size 56 (.slice (some ⟨g, 0, none⟩) k k) (List.replicate k u) ∧ Below w.heap.size w w' := by
  subst hz
  have hw1 : IntKind.u64.wrap (k : Int) = k := by rw [IntKind.wrap_u64]; omega
  have hw2 : wrap64 (k : Int) = k := wrap64_in _ (by omega)
  obtain ⟨b, o, rfl, hc⟩ := h.cells (by simp)
  have hc0 := hc 0 u rfl
  rw [Nat.add_zero] at hc0
  have hbl := World.block_lt_of_cell? _ _ hc0
  clear hc h
  have hsz : (Tryd.prog.info? 56).map (·.size) = some 1 := by kernel_rfl
  go_enter Tryd.func49, Tryd.ntmps49
  go_wp2_with (first
    | (go_at_call 51; (with_reducible refine (mul_any k (by omega) _ rfl _).mono ?_); rintro e w1 ⟨rfl, rfl⟩)
    | (at_make; (refine wpList_make_encs rfl _ _ 25 rfl wv_one w.heap.size 56 0#64 8 Tryd.underlying25 info_u64 _ _ _ _ k rfl rfl rfl rfl (by omega) (by omega) (Nat.le_refl _) ?_; intro w1 ho1 hb1; have hg1 := Lib.hid ho1.full; rw [← rowUZ_start k u] at hg1))
    | (refine wpList_copy_splice rfl (.tmp 31) (.tmp 32) 25 25 rfl 56 Tryd.underlying25 hsz _ _ _ _ _ _ rfl rfl w.heap.size 0 (rowUZ k 0 u) 56 hg1.out (List.replicate (min 1 k) (wv u)) List.length_replicate (fun _ => ⟨rfl, _, rfl, fun j v hv => by
          obtain ⟨hj, rfl⟩ := rep_get _ _ _ _ hv
          obtain rfl : j = 0 := by omega
          rw [Go.WideShapes.add_plain, Nat.add_zero]
          exact (hb1.cell (p := ⟨b, o, none⟩) hbl).trans hc0⟩) (by rw [List.length_replicate, rowUZ_length k 0 u (by omega)]; omega) (fun v hv => by rw [List.eq_of_mem_replicate hv]; rfl) w.heap.size w hb1 (Nat.le_refl _) ?_; intro w2 hg2 hb2; rw [rowUZ_splice k 0 (min 1 k) u (by omega), Nat.zero_add] at hg2))
  go_loopw [8] (fun v wr => ∃ m : Nat, v = .int .i64 (m : Int) ∧ m ≤ k ∧ (0 < k → 0 < m) ∧ Hid (wr.heap[w.heap.size]? = some (.cells (rowUZ k m u).toArray 56 (0, 0))) ∧ Hid (Below w.heap.size w wr)) (fun v _ => k - (intOf v).toNat)
  case atStart => exact ⟨min 1 k, by simp, by omega, by omega, hg2, hb2⟩
  case round =>
    obtain ⟨m, rfl, hm, hpos, hg, hb⟩ := hrel
    go_wp2
    · have hlt : m < k := by assumption
      have hne : ¬ k = m := by omega
      go_region_law (refine step_copy_splice rfl (.tmp 41) (.tmp 44) 25 25 rfl 56 Tryd.underlying25 hsz (some ⟨w.heap.size, m, none⟩) (some ⟨w.heap.size, 0, none⟩) (k - m) (k - m) m k (by simp [Act.eval, Act.put]) (by simp [Act.eval, Act.put]) w.heap.size m (rowUZ k m u) 56 hg.out (List.replicate (min m (k - m)) (wv u)) List.length_replicate (fun _ => ⟨rfl, _, rfl, fun j v hv => by
          obtain ⟨hj, rfl⟩ := rep_get _ _ _ _ hv
          rw [Go.WideShapes.add_plain, Nat.zero_add]
          exact rowUZ_cell hg.out j (by omega)⟩) (by rw [List.length_replicate, rowUZ_length k m u (by omega)]; omega) (fun v hv => by rw [List.eq_of_mem_replicate hv]; rfl) w.heap.size w hb.out.drew (Nat.le_refl _) ?_; intro w3 hg3 hb3; rw [rowUZ_splice k m (min m (k - m)) u (by omega)] at hg3)
      all_goals simp only [List.getElem_toArray, List.getElem_cons_zero, List.getElem_cons_succ, Act.put, List.setIfInBounds_toArray, List.set_cons_succ, List.set_cons_zero]
      all_goals go_wp2
      all_goals go_roundw
      all_goals have hsum : IntKind.i64.wrap ((m : Int) + ((min m (k - m) : Nat) : Int)) = ((m + min m (k - m) : Nat) : Int) := by rw [IntKind.wrap_i64]; omega
      case rel => exact ⟨m + min m (k - m), by rw [hsum], by omega, by omega, hg3, hb3⟩
      case measure => rw [hsum]; simp [intOf]; omega
    · go_ret
      obtain rfl : m = k := by omega
      have hgo := hg.out
      rw [rowUZ_full] at hgo
      exact ⟨_, rfl, Ow.of_heap hgo (Nat.le_refl _) (by simp) (by omega), hb.out⟩

/-! ### Copies, equality -/
theorem clone_any (p : Option Addr) (n c : Nat) (ws : List W64) (w : World) (hl : ws.length = n) (hn : n ≤ 1024) (h : Rd wv w p c ws) :
    Calls Tryd.prog 39 #[.slice p n c] w fun e w' => ∃ q d, e = .returned (.slice q n d) ∧ Ow wv w' w.heap.size 56 (.slice q n d) ws ∧ Below w.heap.size w w' := by
  subst hl
  cases p with
  | none =>
    have hcap := h.cap
    obtain rfl : ws = [] := List.eq_nil_of_length_eq_zero (by have := h.bare rfl; omega)
    refine (Tryd.slices_Clone_nil 0 c w).mono ?_
    rintro e w' ⟨rfl, rfl⟩
    exact ⟨none, 0, rfl, Ow.nil _ _ _, Below.refl _ _⟩
  | some a =>
    have q22 : ∀ (w : World) (a : Option Addr) (n c n' c' : Nat), (binOp .eql 25 (.slice a n c) (.slice none n' c')).run Tryd.prog w = .ok (.bool a.isNone) w := fun w a n c n' c' => Lib.run_eql_slice_nil w _ _ a n c n' c' Tryd.underlying25
    go_enter Tryd.func39, Tryd.ntmps39
    go_wp2_with (at_builtin; refine wpList_append_encs rfl (.tmp 5) _ 25 rfl wv_one w.heap.size 56 _ 8 Tryd.underlying25 info_u64 rfl _ [] rfl (Ow.lit wv w [] 0 w.heap.size 56 _ rfl rfl (by omega) (Nat.le_refl _)) (some a) ws.length c ws rfl rfl (h.kept ((Below.refl _ _).alloc (Nat.le_refl _) _)) (by simp; omega) (by simp; omega) (size_alloc_ge _ (Nat.le_refl _)) ?_; intro p2 c2 zs w2 hz ho2 hb2)
    go_ret
    obtain rfl : zs = ws := hz.out
    exact ⟨p2, c2, rfl, ho2, ((Below.refl _ _).alloc (Nat.le_refl _) _).trans hb2⟩
theorem allEq_ints : ∀ (xs ys : List Int), Lib.allEq (fun x y : Int => x == y) xs ys = decide (xs = ys)
  | [], [] => by simp [Lib.allEq]
  | [], _ :: _ => by simp [Lib.allEq]
  | _ :: _, [] => by simp [Lib.allEq]
  | x :: xs, y :: ys => by
    rw [Lib.allEq, allEq_ints xs ys]
    by_cases h : x = y
    · simp [h]
    · simp [h]
def nums (ws : List W64) : List Int := ws.map fun u => (u.toNat : Int)
theorem nums_inj : ∀ (xs ys : List W64), nums xs = nums ys → xs = ys
  | [], [], _ => rfl
  | [], _ :: _, h => by simp [nums] at h
  | _ :: _, [], h => by simp [nums] at h
  | x :: xs, y :: ys, h => by
    simp only [nums, List.map_cons, List.cons.injEq] at h
    rw [nums_inj xs ys h.2, BitVec.eq_of_toNat_eq (Int.ofNat.inj h.1)]
theorem nums_cell {w : World} {b o : Nat} {ws : List W64} (h : ∀ (i : Nat) (u : W64), ws[i]? = some u → w.cell? ⟨b, o + i, none⟩ = some (wv u)) (j : Nat) (hj : j < (nums ws).length) : w.cell? ⟨b, o + j, none⟩ = some (Value.int .u64 (nums ws)[j]!) := by
  have hj' : j < ws.length := by simpa [nums] using hj
  rw [h j ws[j] (List.getElem?_eq_getElem hj')]
  simp [nums, hj', wv]
theorem equal_any (p : Option Addr) (n c : Nat) (ws : List W64) (q : Option Addr) (m d : Nat) (vs : List W64) (w : World) (hl : ws.length = n) (hl2 : vs.length = m) (h : Rd wv w p c ws) (h2 : Rd wv w q d vs) :
    Calls Tryd.prog 42 #[.slice p n c, .slice q m d] w fun e w' => ∃ b : Bool, e = .returned (.bool b) ∧ Hid (b = true ↔ ws = vs) ∧ Below w.heap.size w w' := by
  have hm1 := h.max
  have hc1 := h.cap
  have hm2 := h2.max
  have hc2 := h2.cap
  by_cases hne : n = m
  · by_cases h0 : 0 < n
    · obtain ⟨b, o, rfl, hb⟩ := h.cells (by omega)
      obtain ⟨b', o', rfl, hb'⟩ := h2.cells (by omega)
      refine (Tryd.slices_Equal (Value.int .u64) (fun x y : Int => x == y) (NeqAt.int _ _ _) b o n c b' o' m d (nums ws) (nums vs) w (by simp [nums]; omega) (by simp [nums]; omega) (by omega) (by omega) (nums_cell hb) (nums_cell hb')).mono ?_
      rintro e w' ⟨rfl, q, rfl⟩
      rw [allEq_ints, List.take_of_length_le (by simp [nums]; omega), List.take_of_length_le (by simp [nums]; omega)]
      refine ⟨_, rfl, Lib.hid ?_, ?_⟩
      · rw [decide_eq_true_iff]
        exact ⟨nums_inj _ _, fun e => by rw [e]⟩
      · exact ⟨rfl, rfl, rfl, Nat.le_refl _, fun _ _ => rfl⟩
    · obtain rfl : ws = [] := List.eq_nil_of_length_eq_zero (by omega)
      obtain rfl : vs = [] := List.eq_nil_of_length_eq_zero (by omega)
      simp only [List.length_nil] at hl hl2
      subst hl hl2
      go_enter Tryd.func42, Tryd.ntmps42
      go_wp2
      go_loopw [13] (fun v wr => v = .int .i64 0 ∧ wr = w) (fun _ _ => 0)
      case atStart => exact ⟨rfl, rfl⟩
      case round =>
        obtain ⟨rfl, rfl⟩ := hrel
        go_wp2
        go_ret
        exact ⟨true, rfl, Lib.hid (by simp), Below.refl _ _⟩
  · go_enter Tryd.func42, Tryd.ntmps42
    go_wp2
    go_ret
    exact ⟨false, rfl, Lib.hid ⟨fun e => (by cases e), fun e => absurd (by rw [← hl, ← hl2, e]) hne⟩, Below.refl _ _⟩
end Go.Proofs.YtgkjkchhepmakaaDoor
