/-
  The examples of layer 3 (cobs), walked.
-/
import Derived.Test.YtkkooghmeoodaaaCobsWalks4
namespace Go.Proofs.Ytkkooghmeoodaaa
open Go.RowKit Go.IntWalk

theorem enc_ex1 : Enc [17, 34, 0, 51] [3, 17, 34, 2, 51] := Enc.part [17, 34] [51] [2, 51] (by simp [Nz]) (by decide) (Enc.last [51] (by simp [Nz]) (by decide))
theorem enc_ex2 : Enc [0] [1, 1] := Enc.part [] [] [1] (by simp [Nz]) (by decide) (Enc.last [] (by simp [Nz]) (by decide))
theorem encz_ex1 : encz [17, 34, 0, 51] = [3, 17, 34, 2, 51, 0] := by rw [encz, ← enc_ex1.eq]; rfl
theorem encz_ex2 : encz [0] = [1, 1, 0] := by rw [encz, ← enc_ex2.eq]; rfl
theorem dec_ex1 : dec [3, 17, 34, 2, 51, 0] = ([17, 34, 0, 51], 0) := dec_enc enc_ex1

theorem decode_ex (p : Option Addr) (w : World) (h : Bin w p 6 [3, 17, 34, 2, 51, 0]) :
    Calls Try.prog 15 #[.slice p 6 6] w fun e w' => ∃ p' c', e = .returned (.tuple #[.slice p' 4 c', .int .i64 0]) ∧ Bin w' p' c' [17, 34, 0, 51] ∧ Below w.heap.size w w' :=
  (decode_any p 6 6 _ w rfl (by omega) h).mono fun e w' h => by
    unfold Decoded at h
    rw [dec_ex1] at h
    obtain ⟨p', c', rfl, ho, hb⟩ := h
    exact ⟨p', c', rfl, ho.bin.2, hb⟩
theorem encode_ex1 (p : Option Addr) (w : World) (h : Bin w p 4 [17, 34, 0, 51]) :
    Calls Try.prog 13 #[.slice p 4 4] w fun e w' => ∃ p' c', e = .returned (.slice p' 6 c') ∧ Bin w' p' c' [3, 17, 34, 2, 51, 0] ∧ Below w.heap.size w w' :=
  (encode_any p 4 4 _ w rfl (by omega) h).mono fun e w' h => by
    rw [encz_ex1] at h
    obtain ⟨p', c', rfl, ho, hb⟩ := h
    exact ⟨p', c', rfl, ho.bin.2, hb⟩
theorem encode_ex2 (p : Option Addr) (w : World) (h : Bin w p 1 [0]) :
    Calls Try.prog 13 #[.slice p 1 1] w fun e w' => ∃ p' c', e = .returned (.slice p' 3 c') ∧ Bin w' p' c' [1, 1, 0] ∧ Below w.heap.size w w' :=
  (encode_any p 1 1 _ w rfl (by omega) h).mono fun e w' h => by
    rw [encz_ex2] at h
    obtain ⟨p', c', rfl, ho, hb⟩ := h
    exact ⟨p', c', rfl, ho.bin.2, hb⟩
theorem same_ex (p : Option Addr) (n c : Nat) (xs : List UInt8) (q : Option Addr) (m d : Nat) (w : World) (hl : xs.length = n) (h : Bin w p c xs) (hm : xs.length = m) (h' : Bin w q d xs) :
    Calls Try.prog 12 #[.slice p n c, .slice q m d] w fun e w' => e = .returned (.bool true) ∧ w = w' :=
  (same_any p n c xs q m d xs w hl h hm h').mono fun e w' h => by simpa using h

theorem cells6 : #[Value.int .u8 3, Value.int .u8 17, Value.int .u8 34, Value.int .u8 2, Value.int .u8 51, Value.int .u8 0] = (bvs [3, 17, 34, 2, 51, 0]).toArray := rfl
theorem cells4 : #[Value.int .u8 17, Value.int .u8 34, Value.int .u8 0, Value.int .u8 51] = (bvs [17, 34, 0, 51]).toArray := rfl
theorem cells3 : #[Value.int .u8 1, Value.int .u8 1, Value.int .u8 0] = (bvs [1, 1, 0]).toArray := rfl
theorem same6 (p : Option Addr) (c : Nat) (w : World) (h : Bin w p c [3, 17, 34, 2, 51, 0]) :
    Calls Try.prog 12 #[.slice p 6 c, .slice (some ⟨w.heap.size, 0, none⟩) 6 6] (w.alloc (.cells #[.int .u8 3, .int .u8 17, .int .u8 34, .int .u8 2, .int .u8 51, .int .u8 0] 5)) fun e w' => e = .returned (.bool true) ∧ Below w.heap.size w w' :=
  (same_ex p 6 c [3, 17, 34, 2, 51, 0] _ 6 6 _ rfl (h.kept ((Below.refl _ _).alloc (Nat.le_refl _) _)) rfl (Bin.made w _ 6 _ _ _ cells6 rfl (by omega))).mono fun e w' h => ⟨h.1, h.2 ▸ (Below.refl _ _).alloc (Nat.le_refl _) _⟩
theorem same4 (p : Option Addr) (c : Nat) (w : World) (h : Bin w p c [17, 34, 0, 51]) :
    Calls Try.prog 12 #[.slice p 4 c, .slice (some ⟨w.heap.size, 0, none⟩) 4 4] (w.alloc (.cells #[.int .u8 17, .int .u8 34, .int .u8 0, .int .u8 51] 5)) fun e w' => e = .returned (.bool true) ∧ Below w.heap.size w w' :=
  (same_ex p 4 c [17, 34, 0, 51] _ 4 4 _ rfl (h.kept ((Below.refl _ _).alloc (Nat.le_refl _) _)) rfl (Bin.made w _ 4 _ _ _ cells4 rfl (by omega))).mono fun e w' h => ⟨h.1, h.2 ▸ (Below.refl _ _).alloc (Nat.le_refl _) _⟩
theorem same3 (p : Option Addr) (c : Nat) (w : World) (h : Bin w p c [1, 1, 0]) :
    Calls Try.prog 12 #[.slice p 3 c, .slice (some ⟨w.heap.size, 0, none⟩) 3 3] (w.alloc (.cells #[.int .u8 1, .int .u8 1, .int .u8 0] 5)) fun e w' => e = .returned (.bool true) ∧ Below w.heap.size w w' :=
  (same_ex p 3 c [1, 1, 0] _ 3 3 _ rfl (h.kept ((Below.refl _ _).alloc (Nat.le_refl _) _)) rfl (Bin.made w _ 3 _ _ _ cells3 rfl (by omega))).mono fun e w' h => ⟨h.1, h.2 ▸ (Below.refl _ _).alloc (Nat.le_refl _) _⟩
/-- What NewSplitter makes. -/
def spl0 (z : Int) : Obj := .cells #[.int .i64 z, .slice none 0 0, .int .i64 0] 46
theorem new_any (z : Int) (w : World) (h1 : 1 ≤ z) (h2 : z ≤ 65536) :
    Calls Try.prog 19 #[.int .i64 z] w fun e w' => e = .returned (.tuple #[.pointer (some ⟨w.heap.size, 0, none⟩), .int .i64 0]) ∧ w' = w.alloc (spl0 z) := by
  go_enter Try.func19, Try.ntmps19
  go_wp2_with fail
  go_ret2
  exact ⟨rfl, rfl⟩
theorem new_bad (z : Int) (w : World) (h : z < 1 ∨ 65536 < z) :
    Calls Try.prog 19 #[.int .i64 z] w fun e w' => e = .returned (.tuple #[.pointer none, .int .i64 1]) ∧ w = w' := by
  rcases h with h | h
  · go_enter Try.func19, Try.ntmps19
    go_wp2_with fail
    go_ret2
    exact ⟨rfl, rfl⟩
  · have h1 : ¬ z < 1 := by omega
    go_enter Try.func19, Try.ntmps19
    go_wp2_with fail
    go_ret2
    exact ⟨rfl, rfl⟩
theorem new_ex (w : World) : Calls Try.prog 19 #[.int .i64 9] w fun e w' => ∃ a, e = .returned (.tuple #[.pointer (some a), .int .i64 0]) ∧ Below w.heap.size w w' :=
  (new_any 9 w (by omega) (by omega)).mono fun e w' h => by
    obtain ⟨rfl, rfl⟩ := h
    exact ⟨_, rfl, (Below.refl _ _).alloc (Nat.le_refl _) _⟩
/-- A block is made and a call returns: nothing old has changed. -/
theorem below_made {w W W2 : World} {o : Obj} (h : Below w.heap.size w W) (h2 : Below (W.alloc o).heap.size (W.alloc o) W2) : Below w.heap.size w W2 :=
  (h.alloc h.size o).trans (h2.mono (size_alloc_le o h.size))
theorem bin_made_kept {p : Option Addr} {c : Nat} {xs : List UInt8} {W W2 : World} {o : Obj} (h : Bin W p c xs) (h2 : Below (W.alloc o).heap.size (W.alloc o) W2) : Bin W2 p c xs :=
  (h.kept ((Below.refl _ _).alloc (Nat.le_refl _) o)).kept h2

set_option maxRecDepth 20000 in
set_option maxHeartbeats 1000000 in
theorem wakes_any (w : World) : Calls Try.prog 11 #[] w fun e w' => e = .returned (.bool true) ∧ Below w.heap.size w w' := by
  have HB := Lib.hid (Below.refl w.heap.size w)
  go_enter Try.func11, Try.ntmps11
  go_wp2_with (first
    | (go_at_call 15; (with_reducible refine (decode_ex _ _ (Bin.made _ _ 6 _ _ _ cells6 rfl (by omega))).mono ?_); rintro e w1 ⟨p1, c1, rfl, hi1, hb1⟩; replace HB := Lib.hid (below_made HB.out hb1); clear hb1)
    | (go_at_call 19; (with_reducible refine (new_ex _).mono ?_); rintro e w2 ⟨a2, rfl, hb2⟩; replace HB := Lib.hid (HB.out.trans (hb2.mono HB.out.size)); replace hi1 := hi1.kept hb2; clear hb2)
    | (go_at_call 13; (with_reducible refine (encode_ex1 _ _ (Bin.made _ _ 4 _ _ _ cells4 rfl (by omega))).mono ?_); rintro e w3 ⟨p3, c3, rfl, hi3, hb3⟩; replace HB := Lib.hid (below_made HB.out hb3); replace hi1 := bin_made_kept hi1 hb3; clear hb3)
    | (go_at_call 13; (with_reducible refine (encode_ex2 _ _ (Bin.made _ _ 1 _ _ _ zero_cell rfl (by omega))).mono ?_); rintro e w4 ⟨p4, c4, rfl, hi4, hb4⟩; replace HB := Lib.hid (below_made HB.out hb4); replace hi1 := bin_made_kept hi1 hb4; clear hb4)
    | (go_at_call 12; (with_reducible refine (same6 _ _ _ hi3).mono ?_); rintro e w5 ⟨rfl, hb5⟩; replace HB := Lib.hid (HB.out.trans (hb5.mono HB.out.size)); replace hi1 := hi1.kept hb5; clear hb5)
    | (go_at_call 12; (with_reducible refine (same3 _ _ _ hi4).mono ?_); rintro e w5 ⟨rfl, hb5⟩; replace HB := Lib.hid (HB.out.trans (hb5.mono HB.out.size)); replace hi1 := hi1.kept hb5; clear hb5)
    | (go_at_call 12; (with_reducible refine (same4 _ _ _ hi1).mono ?_); rintro e w5 ⟨rfl, hb5⟩; replace HB := Lib.hid (HB.out.trans (hb5.mono HB.out.size)); replace hi1 := hi1.kept hb5; clear hb5))
  go_ret
  exact ⟨rfl, HB.out⟩
end Go.Proofs.Ytkkooghmeoodaaa
