/-
  CONTRACTS OF LAYER 13 (powertrace): slices.Repeat.
-/
import Derived.Test.YtapgpdgbdmnkgaaDoorCopy
import Derived.Deep.RegionLaw
import Derived.Test.YtapgpdgbdmnkgaaDoorPtLists
namespace Go.Proofs.YtapgpdgbdmnkgaaDoor
open Go Go.RowKit Go.IntWalk
open Go.Lib (itoa)
set_option linter.unusedSimpArgs false
set_option linter.unusedVariables false
set_option maxRecDepth 8000

/-- The first m elements of the new row are written. -/
def rowI (k m : Nat) (x : It) : List It := List.replicate m x ++ List.replicate (k - m) (0, 0)
theorem rowI_len (k m : Nat) (x : It) (h : m ≤ k) : (rowI k m x).length = k := by simp [rowI]; omega
theorem rowI_splice (k m j : Nat) (x : It) (h : m + j ≤ k) : splice (rowI k m x) m (List.replicate j x) = rowI k (m + j) x := by
  have e1 : (rowI k m x).take m = List.replicate m x := by
    unfold rowI
    rw [List.take_append_of_le_length (by simp)]
    simp
  have e2 : (rowI k m x).drop (m + j) = List.replicate (k - (m + j)) (0, 0) := by
    unfold rowI
    rw [List.drop_append, List.drop_replicate, List.length_replicate, List.drop_replicate, show m - (m + j) = 0 by omega, show k - m - (m + j - m) = k - (m + j) by omega]
    rfl
  unfold splice
  rw [List.length_replicate, e1, e2, ← List.append_assoc, List.replicate_append_replicate]
  rfl
theorem rowI_full (k : Nat) (x : It) : rowI k k x = List.replicate k x := by simp [rowI]
theorem rowI_start (k : Nat) (x : It) : rowI k 0 x = List.replicate k (0, 0) := by simp [rowI]
theorem rep_pre {k : Nat} {x : It} {j : Nat} {v : Value} (h : (flatL itc (List.replicate (min 1 k) x))[j]? = some v) : (flatL itc [x])[j]? = some v := by
  rcases Nat.eq_zero_or_pos k with rfl | hk
  · simp [flatL] at h
  · rw [show min 1 k = 1 by omega] at h
    exact h
theorem rowI_cell {w : World} {g k m i : Nat} {x : It} {e : TypeId} (h : w.heap[g]? = some (.cells (flatL itc (rowI k m x)).toArray e (0, 0))) (hi : i ≤ m) (j : Nat) (v : Value) (hv : (flatL itc (List.replicate i x))[j]? = some v) : w.cell? ⟨g, 0 + j, none⟩ = some v := by
  rw [cells_of_heap h, Nat.zero_add]
  have e : rowI k m x = List.replicate i x ++ (List.replicate (m - i) x ++ List.replicate (k - m) (0, 0)) := by
    unfold rowI
    rw [← List.append_assoc, List.replicate_append_replicate, show i + (m - i) = m by omega]
  rw [e, flatL_append, List.getElem?_toArray, List.getElem?_append_left (List.getElem?_eq_some_iff.1 hv).1]
  exact hv
theorem made_zero (n : Nat) : (madeCells (itv (0, 0)).cells (n * 2)).toList = flatL itc (List.replicate n (0, 0)) := by
  have h1 : (madeCells (itv (0, 0)).cells (n * 2)).toList = List.replicate (n * 2) (.int .i64 0) := by
    rw [List.eq_replicate_iff]
    refine ⟨by simp [size_madeCells], fun b hb => ?_⟩
    simp only [madeCells, Array.toList_map, List.mem_map] at hb
    obtain ⟨i, -, hi⟩ := hb
    rw [← hi]
    have : (itv (0, 0)).cells = #[.int .i64 0, .int .i64 0] := rfl
    rw [this]
    have h2 : i % 2 = 0 ∨ i % 2 = 1 := by omega
    show (#[Value.int .i64 0, .int .i64 0])[i % 2]! = _
    rcases h2 with h2 | h2 <;> rw [h2] <;> rfl
  have h3 : flatL itc (List.replicate n (0, 0)) = List.replicate (n * 2) (.int .i64 0) := by
    rw [List.eq_replicate_iff]
    refine ⟨by rw [flatL_len encI]; simp, fun b hb => ?_⟩
    obtain ⟨y, hy, hu⟩ := List.mem_flatMap.1 hb
    obtain rfl := List.eq_of_mem_replicate hy
    simp at hu
    exact hu
  rw [h1, h3]
theorem mul_any (k : Nat) (hk : k < 18446744073709551616) (z : Int) (hz : z = (k : Int)) (w : World) :
    Calls Tryd.prog 70 #[.int .u64 1, .int .u64 z] w fun e w' => e = .returned (.tuple #[.int .u64 0, .int .u64 (k : Int)]) ∧ w = w' := by
  subst hz
  refine (Tryd.bits_Mul 1 k (by decide) hk w).mono ?_
  rintro e w' ⟨rfl, rfl⟩
  refine ⟨?_, rfl⟩
  rw [Nat.one_mul, Nat.div_eq_of_lt hk, Nat.mod_eq_of_lt hk]
  rfl
set_option maxHeartbeats 1000000 in
theorem repeat_any (p : Option Addr) (c : Nat) (x : It) (k : Nat) (hk : k ≤ 1024) (w : World) (h : Rw 2 itc w p c [x]) (hp : ∀ a, p = some a → ∃ b o, a = ⟨b, o, none⟩) :
    Calls Tryd.prog 58 #[.slice p 1 c, .int .i64 (k : Int)] w fun e w' => ∃ g, e = .returned (.slice (some ⟨g, 0, none⟩) k k) ∧ OwR w' w.heap.size 52 2 itc (.slice (some ⟨g, 0, none⟩) k k) (List.replicate k x) ∧ Grew w w' ∧ w.heap.size ≤ g := by
  have hw1 : IntKind.u64.wrap (k : Int) = k := by rw [IntKind.wrap_u64]; omega
  have hw2 : wrap64 (k : Int) = k := wrap64_in _ (by omega)
  obtain ⟨b, o, rfl, hc⟩ := h.rd.cells (by simp)
  have hcs : ∀ j v, (flatL itc [x])[j]? = some v → w.cell? ⟨b, o + j, none⟩ = some v := fun j v hv => by
    obtain ⟨y, hy, hu⟩ := flatL_at encI [x] j v hv
    have h0 : j / 2 = 0 := by have := (List.getElem?_eq_some_iff.1 hy).1; simp at this; omega
    rw [h0] at hy
    obtain rfl : x = y := by simpa using hy
    have := hc 0 x rfl _ _ hu
    rwa [show o + 0 * 2 + j % 2 = o + j by omega] at this
  have hbl := World.block_lt_of_cell? _ _ (hcs 0 (.int .i64 x.1) rfl)
  have hmax := h.max
  have hcap := h.cap
  clear hc h
  have hsz : (Tryd.prog.info? 52).map (·.size) = some 2 := by kernel_rfl
  go_enter Tryd.func58, Tryd.ntmps58
  go_wp2_with (first
    | (go_at_call 70; (with_reducible refine (mul_any k (by omega) _ rfl _).mono ?_); rintro e w1 ⟨rfl, rfl⟩)
    | (at_make; (refine wpList_make_rows encI rfl _ _ 22 rfl w.heap.size 52 (itv (0, 0)) 16 (0, 0) Tryd.underlying22 infoC _ _ _ _ k (made_zero k) rfl rfl rfl rfl (by omega) (Nat.le_refl _) ?_; intro w1 ho1 hb1; have hg1 := Lib.hid (ho1.full encI); rw [← rowI_start k x] at hg1))
    | (refine wpList_copy_rows encI rfl (.tmp 31) (.tmp 32) 22 22 rfl 52 Tryd.underlying22 hsz _ _ _ _ _ _ rfl rfl w.heap.size 0 (rowI k 0 x) 52 hg1.out (List.replicate (min 1 k) x) List.length_replicate (fun _ => ⟨by rw [Nat.zero_mul], b, o, rfl, fun j v hv => (World.cell?_of_block (w := w) (w' := w1) (a := ⟨b, o + j, none⟩) (hb1.block b hbl)).trans (hcs j v (rep_pre hv))⟩) (by rw [List.length_replicate, rowI_len k 0 x (by omega)]; omega) w.heap.size w hb1 (Nat.le_refl _) ?_; intro w2 hg2 hb2; rw [rowI_splice k 0 (min 1 k) x (by omega), Nat.zero_add] at hg2))
  go_loopw [8] (fun v wr => ∃ m : Nat, v = .int .i64 (m : Int) ∧ m ≤ k ∧ (0 < k → 0 < m) ∧ Hid (wr.heap[w.heap.size]? = some (.cells (flatL itc (rowI k m x)).toArray 52 (0, 0))) ∧ Hid (Below w.heap.size w wr)) (fun v _ => k - (intOf v).toNat)
  case atStart => exact ⟨min 1 k, by simp, by omega, by omega, hg2, hb2⟩
  case round =>
    obtain ⟨m, rfl, hm, hpos, hg, hb⟩ := hrel
    go_wp2
    · have hlt : m < k := by assumption
      have hne : ¬ k = m := by omega
      go_region_law (refine step_copy_rows encI rfl (.tmp 41) (.tmp 44) 22 22 rfl 52 Tryd.underlying22 hsz (some ⟨w.heap.size, m * 2, none⟩) (some ⟨w.heap.size, 0, none⟩) (k - m) (k - m) m k (by simp [Act.eval, Act.put]) (by simp [Act.eval, Act.put]) w.heap.size m (rowI k m x) 52 hg.out (List.replicate (min m (k - m)) x) List.length_replicate (fun _ => ⟨rfl, w.heap.size, 0, rfl, rowI_cell hg.out (by omega)⟩) (by rw [List.length_replicate, rowI_len k m x (by omega)]; omega) w.heap.size w hb.out.drew (Nat.le_refl _) ?_; intro w3 hg3 hb3; rw [rowI_splice k m (min m (k - m)) x (by omega)] at hg3)
      all_goals simp only [List.getElem_toArray, List.getElem_cons_zero, List.getElem_cons_succ, Act.put, List.setIfInBounds_toArray, List.set_cons_succ, List.set_cons_zero]
      all_goals go_wp2
      all_goals go_roundw
      all_goals have hsum : IntKind.i64.wrap ((m : Int) + ((min m (k - m) : Nat) : Int)) = ((m + min m (k - m) : Nat) : Int) := by rw [IntKind.wrap_i64]; omega
      case rel => exact ⟨m + min m (k - m), by rw [hsum], by omega, by omega, hg3, hb3⟩
      case measure => rw [hsum]; simp [intOf]; omega
    · go_ret
      obtain rfl : m = k := by omega
      have hgo := hg.out
      rw [rowI_full] at hgo
      exact ⟨_, rfl, OwR.of_heap encI hgo (Nat.le_refl _) (by simp) (by omega), hb.out, Nat.le_refl _⟩
end Go.Proofs.YtapgpdgbdmnkgaaDoor
