/-
  CONTRACTS OF THE SPLITTER OF LAYER 3 (cobs): keep, finish, Skipped.
-/
import Derived.Test.YtkkooghmeoodaaaCobsSplit
import Derived.Test.YtkkooghmeoodaaaHeld
import Derived.Deep.LoopGhost
import Derived.Deep.CutBlock
import Derived.Deep.DeepCutAuto
namespace Go.Proofs.Ytkkooghmeoodaaa
open Go Go.RowKit Go.IntWalk
set_option linter.unusedSimpArgs false

/-- Worlds with the same memory: only draws lie between. -/
structure Same (w W : World) : Prop where
  os : W.os = w.os
  tape : W.tape = w.tape
  output : W.output = w.output
  heap : W.heap = w.heap
theorem Same.refl (w : World) : Same w w := ⟨rfl, rfl, rfl, rfl⟩
theorem Same.drew {w W : World} (h : Same w W) : Same w W.drew := ⟨h.os, h.tape, h.output, h.heap⟩
theorem Same.below {w W : World} (h : Same w W) (N : Nat) : Below N w W := ⟨h.os, h.tape, h.output, by rw [h.heap]; exact Nat.le_refl _, fun k _ => by rw [h.heap]⟩
theorem Same.cells {w W : World} (h : Same w W) {k : Nat} {o : Obj} (ho : w.heap[k]? = some o) : W.heap[k]? = some o := by rw [h.heap]; exact ho

theorem bvs_cut (ac xs : List UInt8) (S : Nat) (h : ac.length ≤ S) : bvs ac ++ bvs (xs.take (S - ac.length)) = bvs ((ac ++ xs).take S) := by
  rw [← bvs_append, List.take_append, List.take_of_length_le h]
theorem rec_store {w : World} {sb : Nat} {a v b v' : Value} {e : TypeId} (h : w.heap[sb]? = some (.cells #[a, v, b] e)) : (w.setCell ⟨sb, 1, none⟩ v').heap[sb]? = some (.cells #[a, v', b] e) := by
  have hlt : sb < w.heap.size := (Array.getElem?_eq_some_iff.1 h).1
  have hv : w.heap[sb] = .cells #[a, v, b] e := (Array.getElem?_eq_some_iff.1 h).2
  simp only [World.setCell]
  rw [Array.getElem?_eq_getElem (by simpa using hlt), Array.getElem_modify]
  simp [hv]
theorem rec_store2 {w : World} {sb : Nat} {a v b v' : Value} {e : TypeId} (h : w.heap[sb]? = some (.cells #[a, v, b] e)) : (w.setCell ⟨sb, 2, none⟩ v').heap[sb]? = some (.cells #[a, v, v'] e) := by
  have hlt : sb < w.heap.size := (Array.getElem?_eq_some_iff.1 h).1
  have hv : w.heap[sb] = .cells #[a, v, b] e := (Array.getElem?_eq_some_iff.1 h).2
  simp only [World.setCell]
  rw [Array.getElem?_eq_getElem (by simpa using hlt), Array.getElem_modify]
  simp [hv]

theorem keep_any (sb most sk : Nat) (ac : List UInt8) (p : Option Addr) (n c : Nat) (xs : List UInt8) (w : World) (hS : Spl w sb most ac sk) (hac : ac.length ≤ top most + 1) (hm : most ≤ 65536) (hl : xs.length = n) (hn : n ≤ 4294967296) (h : Bin w p c xs) :
    Calls Try.prog 26 #[.pointer (some ⟨sb, 0, none⟩), .slice p n c] w fun e w' => e = .returned (.tuple #[]) ∧ Spl w' sb most ((ac ++ xs).take (top most + 1)) sk ∧ Off w.heap.size sb w w' := by
  obtain ⟨q, m, d, hrec, hown⟩ := hS
  have hsz := sz_nat most
  have htop := top_le most
  have hmm := hown.parts.1
  rw [bvs_len] at hmm
  subst hmm hl
  obtain ⟨k0, k1, k2, kf⟩ := spl_cells hrec
  have HO := Lib.hid hown
  have HR := Lib.hid hrec
  have HI := Lib.hid h
  clear hrec hown h
  go_enter Try.func26, Try.ntmps26
  go_wp2_with fail
  go_region_held3 (fun W => W.cell? ⟨sb, 0, none⟩ = some (.int .i64 most) ∧ W.cell? ⟨sb, 1, none⟩ = some (.slice q ac.length d) ∧ Same w W)
    (first
      | exact ⟨k0, k1, (Same.refl _).drew⟩
      | exact hHeld)
    (first
      | (go_simp; go_at_call 17; (with_reducible refine (size_int _ (by omega) (by omega) _).mono ?_); rintro e w1 ⟨rfl, rfl⟩))
  have hsame : Same w w.drew.drew := (Same.refl w).drew.drew
  have HR2 := Lib.hid (hsame.cells HR.out)
  have k1' := (spl_cells HR2.out).2.1
  have HO2 := Lib.hid (HO.out.keep (w' := w.drew.drew) fun a _ _ => by rw [hsame.heap])
  have HI2 := Lib.hid (HI.out.kept (hsame.below _))
  clear k0 k1 k2 kf
  obtain ⟨k, hkk⟩ : ∃ k, k = min xs.length (top most + 1 - ac.length) := ⟨_, rfl⟩
  have hcap := HI.out.cap
  have hmax := HI.out.max
  have hk : min (xs.length : Int) (IntKind.i64.wrap ((top most : Int) + 1 - (ac.length : Int))) = (k : Int) := by
    rw [IntKind.wrap_i64]
    omega
  have hkc : k ≤ c := by omega
  have HK := Lib.hid hkk
  clear hkk
  go_wp2_with fail
  refine wp_region_held_drew (S := fun _ => True) (by kernel_rfl) trivial (fun hHeld => ?_)
  refine wpAnyH_take (i := 0) (v := ?_) rfl (by kernel_rfl) (by kernel_rfl) (by kernel_rfl) (fun _ _ _ h => h) (Or.inl ⟨by rfl, ?_⟩) hHeld ?_
  rotate_left
  · (intro W hSw; (try dsimp only at hSw); go_simp; (try with_reducible rfl))
  try simp only [List.getElem_toArray, List.getElem_cons_zero, List.getElem_cons_succ, Act.put, List.setIfInBounds_toArray, List.set_cons_zero, List.set_cons_succ]
  refine wpAnyH_take (i := 1) (v := ?_) rfl (by kernel_rfl) (by kernel_rfl) (by kernel_rfl) (fun _ _ _ h => h) (Or.inl ⟨by rfl, ?_⟩) hHeld ?_
  rotate_left
  · (intro W hSw; (try dsimp only at hSw); go_simp; (try with_reducible rfl))
  try simp only [List.getElem_toArray, List.getElem_cons_zero, List.getElem_cons_succ, Act.put, List.setIfInBounds_toArray, List.set_cons_zero, List.set_cons_succ]
  refine wpAnyH_take (i := 2) (v := ?_) rfl (by kernel_rfl) (by kernel_rfl) (by kernel_rfl) (fun _ _ _ h => h) (Or.inl ⟨by rfl, ?_⟩) hHeld ?_
  rotate_left
  · (intro W hSw; (try dsimp only at hSw); go_simp; (try with_reducible rfl))
  try simp only [List.getElem_toArray, List.getElem_cons_zero, List.getElem_cons_succ, Act.put, List.setIfInBounds_toArray, List.set_cons_zero, List.set_cons_succ]
  refine wpAnyH_take (i := 3) (v := ?_) rfl (by kernel_rfl) (by kernel_rfl) (by kernel_rfl) (fun _ _ _ h => h) (Or.inl ⟨by rfl, ?_⟩) hHeld ?_
  rotate_left
  · (intro W hSw; (try dsimp only at hSw); go_simp; (try with_reducible rfl))
  try simp only [List.getElem_toArray, List.getElem_cons_zero, List.getElem_cons_succ, Act.put, List.setIfInBounds_toArray, List.set_cons_zero, List.set_cons_succ]
  refine wpAnyH_take (i := 5) (v := ?_) rfl (by kernel_rfl) (by kernel_rfl) (by kernel_rfl) (fun _ _ _ h => h) (Or.inl ⟨by rfl, ?_⟩) hHeld ?_
  rotate_left
  · (intro W hSw; (try dsimp only at hSw); go_simp; (try with_reducible rfl))
  try simp only [List.getElem_toArray, List.getElem_cons_zero, List.getElem_cons_succ, Act.put, List.setIfInBounds_toArray, List.set_cons_zero, List.set_cons_succ]
  refine wpAnyH_take (i := 6) (v := ?_) rfl (by kernel_rfl) (by kernel_rfl) (by kernel_rfl) (fun _ _ _ h => h) (Or.inl ⟨by rfl, ?_⟩) hHeld ?_
  rotate_left
  · (intro W hSw; (try dsimp only at hSw); go_simp; (try with_reducible rfl))
  try simp only [List.getElem_toArray, List.getElem_cons_zero, List.getElem_cons_succ, Act.put, List.setIfInBounds_toArray, List.set_cons_zero, List.set_cons_succ]
  refine wpAnyH_take (i := 7) (v := ?_) rfl (by kernel_rfl) (by kernel_rfl) (by kernel_rfl) (fun _ _ _ h => h) (Or.inl ⟨by rfl, ?_⟩) hHeld ?_
  rotate_left
  · (intro W hSw; (try dsimp only at hSw); go_simp; (try with_reducible rfl))
  try simp only [List.getElem_toArray, List.getElem_cons_zero, List.getElem_cons_succ, Act.put, List.setIfInBounds_toArray, List.set_cons_zero, List.set_cons_succ]
  refine wpAnyH_take (i := 8) (v := ?_) rfl (by kernel_rfl) (by kernel_rfl) (by kernel_rfl) (fun _ _ _ h => h) (Or.inl ⟨by rfl, ?_⟩) hHeld ?_
  rotate_left
  · (intro W hSw; (try dsimp only at hSw); go_simp; (try with_reducible rfl))
  try simp only [List.getElem_toArray, List.getElem_cons_zero, List.getElem_cons_succ, Act.put, List.setIfInBounds_toArray, List.set_cons_zero, List.set_cons_succ]
  refine wpAnyH_take (i := 9) (v := ?_) rfl (by kernel_rfl) (by kernel_rfl) (by kernel_rfl) (fun _ _ _ h => h) (Or.inl ⟨by rfl, ?_⟩) hHeld ?_
  rotate_left
  · (intro W hSw; (try dsimp only at hSw); go_simp; (try with_reducible rfl))
  try simp only [List.getElem_toArray, List.getElem_cons_zero, List.getElem_cons_succ, Act.put, List.setIfInBounds_toArray, List.set_cons_zero, List.set_cons_succ]
  refine wpAnyH_take (i := 10) (v := ?_) rfl (by kernel_rfl) (by kernel_rfl) (by kernel_rfl) (fun _ _ _ h => h) (Or.inl ⟨by rfl, ?_⟩) hHeld ?_
  rotate_left
  · (intro W hSw; (try dsimp only at hSw); go_simp; (try with_reducible rfl))
  try simp only [List.getElem_toArray, List.getElem_cons_zero, List.getElem_cons_succ, Act.put, List.setIfInBounds_toArray, List.set_cons_zero, List.set_cons_succ]
  refine wpAnyH_ready (rs := [4]) (by kernel_rfl) (by simp) (AllReadyH.cons rfl (fun K hK => ?_) AllReadyH.nil)
  go_simp
  refine hK.out _ _ trivial (fun hHeld => ?_)
  clear hK K
  try simp only [List.getElem_toArray, List.getElem_cons_zero, List.getElem_cons_succ, Act.put, List.setIfInBounds_toArray, List.set_cons_zero, List.set_cons_succ]
  refine wpAnyH_ready (rs := [11]) (by kernel_rfl) (by simp) (AllReadyH.cons rfl (fun K hK => ?_) AllReadyH.nil)
  refine wp_append_vals _ (.tmp 20) (.tmp 26) 22 rfl sb 5 _ 1 Try.underlying22 info_u8 rfl q _ d (bvs ac) rfl HO2.out p k c (bvs (xs.take k)) rfl (by rw [bvs_len, List.length_take, HK.out]; omega) (HI2.out.upto k (by rw [HK.out]; omega)).vals (bvs_one _) (by rw [bvs_len, bvs_len, List.length_take]; omega) (by rw [bvs_len, bvs_len, List.length_take]; omega) (by have := HR2.out; exact Nat.le_of_lt (Array.getElem?_eq_some_iff.1 this).1) ?_
  intro p3 c3 n3 w3 ha hn3
  have hrow := rec_row HR2.out HO2.out (by decide) ha.out
  have HR3 := Lib.hid (hrow.trans HR2.out)
  have kf3 := (spl_cells HR3.out).2.2.2 1
  have k13 := (spl_cells HR3.out).2.1
  refine hK.out _ _ trivial (fun hHeld => ?_)
  clear hK K
  try simp only [List.getElem_toArray, List.getElem_cons_zero, List.getElem_cons_succ, Act.put, List.setIfInBounds_toArray, List.set_cons_zero, List.set_cons_succ]
  refine wpAnyH_take (i := 12) (v := ?_) rfl (by kernel_rfl) (by kernel_rfl) (by kernel_rfl) (fun _ _ _ h => h) (Or.inl ⟨by rfl, ?_⟩) hHeld ?_
  rotate_left
  · (intro W hSw; (try dsimp only at hSw); go_simp; (try with_reducible rfl))
  try simp only [List.getElem_toArray, List.getElem_cons_zero, List.getElem_cons_succ, Act.put, List.setIfInBounds_toArray, List.set_cons_zero, List.set_cons_succ]
  refine wpAnyH_take (i := 13) (v := ?_) rfl (by kernel_rfl) (by kernel_rfl) (by kernel_rfl) (fun _ _ _ h => h) (Or.inl ⟨by rfl, ?_⟩) hHeld ?_
  rotate_left
  · (intro W hSw; (try dsimp only at hSw); go_simp; (try with_reducible rfl))
  try simp only [List.getElem_toArray, List.getElem_cons_zero, List.getElem_cons_succ, Act.put, List.setIfInBounds_toArray, List.set_cons_zero, List.set_cons_succ]
  refine wpAnyH_ready (rs := [14]) (by kernel_rfl) (by simp) (AllReadyH.cons rfl (fun K hK => ?_) AllReadyH.nil)
  go_simp
  refine hK.out _ _ trivial (fun hHeld => ?_)
  clear hK K
  try simp only [List.getElem_toArray, List.getElem_cons_zero, List.getElem_cons_succ, Act.put, List.setIfInBounds_toArray, List.set_cons_zero, List.set_cons_succ]
  refine wpAnyH_done (by kernel_rfl) ?_ _
  go_wp2_with fail
  go_end0
  obtain ⟨p', c', hv, ho3, hkp, hpl, _⟩ := id ha.out
  simp only [Value.slice.injEq] at hv
  obtain ⟨rfl, hn3', rfl⟩ := hv
  have hcut : bvs ac ++ bvs (xs.take k) = bvs ((ac ++ xs).take (top most + 1)) := by
    have e : xs.take k = xs.take (top most + 1 - ac.length) := by
      rw [HK.out]
      rcases Nat.le_total xs.length (top most + 1 - ac.length) with hle | hle
      · rw [Nat.min_eq_left hle, List.take_length, List.take_of_length_le hle]
      · rw [Nat.min_eq_right hle]
    rw [e]
    exact bvs_cut ac xs _ hac
  have hne : ∀ a : Addr, p3 = some a → a.block ≠ sb := fun a ha2 he => by
    obtain ⟨cs', fr, h2⟩ := ho3.parts.2.2.1 a ha2
    rw [he, HR3.out] at h2
    simp only [Option.some.injEq, Obj.cells.injEq] at h2
    exact absurd h2.2.1 (by decide)
  have hrec4 := rec_store (v' := .slice p3 ((bvs ac).length + (bvs (xs.take k)).length) c3) HR3.out
  have hlen : (bvs ac).length + (bvs (xs.take k)).length = (bvs ((ac ++ xs).take (top most + 1))).length := by rw [← hcut, List.length_append]
  refine ⟨rfl, ⟨p3, _, c3, hrec4, ?_⟩, (Off.of_below (hsame.below _) (by rw [hsame.heap])).trans (off_append HR2.out ha.out (fun j hj => Below.heap_setCell _ _ _ _ hj) hrec4 hpl ⟨rfl, rfl, rfl, by simp [World.setCell]⟩)⟩
  rw [hlen, ← hcut]
  exact ho3.keep fun a ha2 _ => Below.heap_setCell _ _ _ _ (hne a ha2)
end Go.Proofs.Ytkkooghmeoodaaa
