/-
  CONTRACTS OF LAYER 2 (crc16), MORE: Combine, its reference, and the reference's Flip.
-/
import Derived.Test.YthfnadmbakcgcaaCrcWalks
namespace Go.Proofs.Ythfnadmbakcgcaa
open Go.RowKit

/-- What Combine returns: the checksum, and its error's number. -/
def cmb (a b : BitVec 16) (n : Int) : BitVec 16 × Nat := if n < 0 ∨ 65536 < n then (0#16, 1) else (b ^^^ mit (8 * n.toNat) (a ^^^ 0xFFFF#16), 0)
theorem xor_all (a : BitVec 16) : bits .xor .u16 (a.toNat : Int) 65535 = ((a ^^^ 0xFFFF#16).toNat : Int) := by
  rw [BitVec.toNat_xor]; exact u16_xor_nat _ 65535 a.isLt (by omega)
theorem xor_u16 (a b : BitVec 16) : bits .xor .u16 (a.toNat : Int) (b.toNat : Int) = ((a ^^^ b).toNat : Int) := by
  rw [BitVec.toNat_xor]; exact u16_xor_nat _ _ a.isLt b.isLt
theorem update_x (a : BitVec 16) (p : Option Addr) (n c : Nat) (xs : List UInt8) (w : World) (hl : xs.length = n) (h : Bin w p c xs) :
    Calls Try.prog 13 #[.int .u16 (bits .xor .u16 (a.toNat : Int) 65535), .slice p n c] w fun e w' => e = .returned (.int .u16 (crc (a ^^^ 0xFFFF#16) xs).toNat) ∧ w = w' := by
  rw [xor_all]; exact update_any _ p n c xs w hl h
theorem rupdate_x (a : BitVec 16) (p : Option Addr) (n c : Nat) (xs : List UInt8) (w : World) (hl : xs.length = n) (h : Bin w p c xs) :
    Calls Try.prog 14 #[.int .u16 (bits .xor .u16 (a.toNat : Int) 65535), .slice p n c] w fun e w' => e = .returned (.int .u16 (crc (a ^^^ 0xFFFF#16) xs).toNat) ∧ w = w' := by
  rw [xor_all]; exact rupdate_any _ p n c xs w hl h
theorem ret_cmb {a b : BitVec 16} {n : Int} {x : Int} {y : Nat} (h : x = ((cmb a b n).1.toNat : Int)) (h2 : y = (cmb a b n).2) :
    Ending.returned (.tuple #[.int .u16 x, .int .i64 (y : Int)]) = .returned (.tuple #[.int .u16 (cmb a b n).1.toNat, .int .i64 (cmb a b n).2]) := by rw [h, h2]

theorem combine_any (a b : BitVec 16) (n : Int) (w : World) :
    Calls Try.prog 20 #[.int .u16 a.toNat, .int .u16 b.toNat, .int .i64 n] w fun e w' => e = .returned (.tuple #[.int .u16 (cmb a b n).1.toNat, .int .i64 (cmb a b n).2]) ∧ Below w.heap.size w w' := by
  by_cases hn : n < 0 ∨ 65536 < n
  · have HN := Lib.hid hn
    rcases hn with h | h
    · go_enter Try.func20, Try.ntmps20
      go_wp2
      go_ret2
      exact ⟨ret_cmb (y := 1) (by rw [cmb, if_pos HN.out]; rfl) (by rw [cmb, if_pos HN.out]), Below.refl _ _⟩
    · have h0 : ¬ n < 0 := by omega
      go_enter Try.func20, Try.ntmps20
      go_wp2
      go_ret2
      exact ⟨ret_cmb (y := 1) (by rw [cmb, if_pos HN.out]; rfl) (by rw [cmb, if_pos HN.out]), Below.refl _ _⟩
  · have HN := Lib.hid hn
    obtain ⟨m, rfl⟩ : ∃ m : Nat, n = m := ⟨n.toNat, by omega⟩
    have h0 : (m : Int) ≤ 65536 := by omega
    clear hn
    go_enter Try.func20, Try.ntmps20
    go_wp2_with (first
      | (at_make; (refine wpList_make_zeros rfl _ _ 22 rfl w.heap.size 5 Try.underlying22 info_u8 _ _ _ _ m rfl rfl rfl rfl (by omega) (Nat.le_refl _) ?_; intro w1 ho1 hb1))
      | (go_at_call 13; (with_reducible refine (update_x a _ m m (List.replicate m 0) _ (by simp) ho1.bin.2).mono ?_); rintro e w1 ⟨rfl, rfl⟩))
    go_ret2
    exact ⟨ret_cmb (y := 0) (by rw [cmb, if_neg HN.out, xor_u16, crc_zeros]; rfl) (by rw [cmb, if_neg HN.out]), hb1⟩
theorem rcombine_any (a b : BitVec 16) (n : Int) (w : World) :
    Calls Try.prog 21 #[.int .u16 a.toNat, .int .u16 b.toNat, .int .i64 n] w fun e w' => e = .returned (.tuple #[.int .u16 (cmb a b n).1.toNat, .int .i64 (cmb a b n).2]) ∧ Below w.heap.size w w' := by
  by_cases hn : n < 0 ∨ 65536 < n
  · have HN := Lib.hid hn
    rcases hn with h | h
    · go_enter Try.func21, Try.ntmps21
      go_wp2
      go_ret2
      exact ⟨ret_cmb (y := 1) (by rw [cmb, if_pos HN.out]; rfl) (by rw [cmb, if_pos HN.out]), Below.refl _ _⟩
    · have h0 : ¬ n < 0 := by omega
      go_enter Try.func21, Try.ntmps21
      go_wp2
      go_ret2
      exact ⟨ret_cmb (y := 1) (by rw [cmb, if_pos HN.out]; rfl) (by rw [cmb, if_pos HN.out]), Below.refl _ _⟩
  · have HN := Lib.hid hn
    obtain ⟨m, rfl⟩ : ∃ m : Nat, n = m := ⟨n.toNat, by omega⟩
    have h0 : (m : Int) ≤ 65536 := by omega
    clear hn
    go_enter Try.func21, Try.ntmps21
    go_wp2_with (first
      | (at_make; (refine wpList_make_zeros rfl _ _ 22 rfl w.heap.size 5 Try.underlying22 info_u8 _ _ _ _ m rfl rfl rfl rfl (by omega) (Nat.le_refl _) ?_; intro w1 ho1 hb1))
      | (go_at_call 14; (with_reducible refine (rupdate_x a _ m m (List.replicate m 0) _ (by simp) ho1.bin.2).mono ?_); rintro e w1 ⟨rfl, rfl⟩))
    go_ret2
    exact ⟨ret_cmb (y := 0) (by rw [cmb, if_neg HN.out, xor_u16, crc_zeros]; rfl) (by rw [cmb, if_neg HN.out]), hb1⟩

/-! ### The examples -/
theorem ex_sum : crc 0xFFFF#16 [49, 50, 51, 52, 53, 54, 55, 56, 57] = 0x29B1#16 := by decide +kernel
theorem ex_chk : chk [49, 50, 51, 52, 53, 54, 55, 56, 57, 41, 177] = ([49, 50, 51, 52, 53, 54, 55, 56, 57], 0) := by decide +kernel
theorem lit9 (w : World) (e : TypeId) (fr : Nat × Nat) : Bin (w.alloc (.cells #[.int .u8 49, .int .u8 50, .int .u8 51, .int .u8 52, .int .u8 53, .int .u8 54, .int .u8 55, .int .u8 56, .int .u8 57] e fr)) (some ⟨w.heap.size, 0, none⟩) 9 [49, 50, 51, 52, 53, 54, 55, 56, 57] := Bin.made w _ 9 e _ fr rfl rfl (by omega)
theorem lit11 (w : World) (e : TypeId) (fr : Nat × Nat) : Bin (w.alloc (.cells #[.int .u8 49, .int .u8 50, .int .u8 51, .int .u8 52, .int .u8 53, .int .u8 54, .int .u8 55, .int .u8 56, .int .u8 57, .int .u8 41, .int .u8 177] e fr)) (some ⟨w.heap.size, 0, none⟩) 11 [49, 50, 51, 52, 53, 54, 55, 56, 57, 41, 177] := Bin.made w _ 11 e _ fr rfl rfl (by omega)
theorem sum_ex (w : World) (e : TypeId) (fr : Nat × Nat) :
    Calls Try.prog 11 #[.slice (some ⟨w.heap.size, 0, none⟩) 9 9] (w.alloc (.cells #[.int .u8 49, .int .u8 50, .int .u8 51, .int .u8 52, .int .u8 53, .int .u8 54, .int .u8 55, .int .u8 56, .int .u8 57] e fr)) fun x w' => x = .returned (.int .u16 10673) ∧ Below w.heap.size w w' :=
  (sum_any _ 9 9 _ _ rfl (lit9 w e fr)).mono fun _ _ ⟨h1, h2⟩ => ⟨by rw [h1, ex_sum]; rfl, h2 ▸ (Below.refl _ _).alloc (Nat.le_refl _) _⟩
theorem sum_none (w : World) : Calls Try.prog 11 #[.slice none 0 0] w fun e w' => e = .returned (.int .u16 65535) ∧ w = w' :=
  (sum_any none 0 0 [] w rfl (Bin.nil w)).mono fun _ _ ⟨h1, h2⟩ => ⟨h1, h2⟩
theorem check_ex (w : World) (e : TypeId) (fr : Nat × Nat) :
    Calls Try.prog 16 #[.slice (some ⟨w.heap.size, 0, none⟩) 11 11] (w.alloc (.cells #[.int .u8 49, .int .u8 50, .int .u8 51, .int .u8 52, .int .u8 53, .int .u8 54, .int .u8 55, .int .u8 56, .int .u8 57, .int .u8 41, .int .u8 177] e fr)) fun x w' => ∃ p' c', x = .returned (.tuple #[.slice p' 9 c', .int .i64 0]) ∧ Bin w' p' c' [49, 50, 51, 52, 53, 54, 55, 56, 57] ∧ Below w.heap.size w w' :=
  (check_any _ 11 11 _ _ rfl (by omega) (lit11 w e fr)).mono fun _ _ h => by
    unfold Checked at h
    rw [ex_chk] at h
    obtain ⟨p', c', h1, h2, h3⟩ := h
    exact ⟨p', c', h1, h2, ((Below.refl _ _).alloc (Nat.le_refl _) _).trans (h3.mono (size_alloc_le _ (Nat.le_refl _)))⟩

theorem examples_any (w : World) : Calls Try.prog 10 #[] w fun e w' => e = .returned (.bool true) ∧ Below w.heap.size w w' := by
  have HB := Lib.hid (Below.refl w.heap.size w)
  have kc := fun (w : World) (C : Array Value) (n c : Nat) => Lib.run_convert_bytes_const (P := Try.prog) w 22 5 C n c Try.underlying22 Try.underlying5
  go_enter Try.func10, Try.ntmps10
  go_wp2_with (first
    | (go_at_call 16; go_loud (with_reducible refine (check_ex _ _ _).mono ?_); rintro e w1 ⟨p1, c1, rfl, hi1, hb1⟩; replace HB := Lib.hid hb1; clear hb1)
    | (go_at_call 11; (with_reducible refine (sum_none _).mono ?_); rintro e w2 ⟨rfl, rfl⟩)
    | (go_at_call 11; go_loud (with_reducible refine (sum_ex _ _ _).mono ?_); rintro e w2 ⟨rfl, hb2⟩; replace HB := Lib.hid (HB.out.trans (hb2.mono HB.out.size)); have hcv := (hi1.kept hb2).convert 9 rfl _ _ _ Try.underlying22 Try.underlying5 Try.underlying9))
  go_ret
  exact ⟨rfl, HB.out⟩

/-- Check behind Append. -/
theorem check_app (p : Option Addr) (c : Nat) (xs : List UInt8) (w : World) (hs : xs.length ≤ 300) (h : Bin w p c (app xs)) :
    Calls Try.prog 16 #[.slice p (app xs).length c] w fun e w' => ∃ p' c', e = .returned (.tuple #[.slice p' xs.length c', .int .i64 0]) ∧ Bin w' p' c' xs ∧ Below w.heap.size w w' :=
  (check_any p _ c _ w rfl (by rw [app_len]; omega) h).mono fun _ _ h => by
    unfold Checked at h
    rw [chk_app] at h
    exact h
/-- Sum behind Append. -/
theorem sum_app (p : Option Addr) (c : Nat) (xs : List UInt8) (w : World) (h : Bin w p c (app xs)) :
    Calls Try.prog 11 #[.slice p (app xs).length c] w fun e w' => e = .returned (.int .u16 0) ∧ w = w' :=
  (sum_any p _ c _ w rfl h).mono fun _ _ ⟨h1, h2⟩ => ⟨by rw [h1, crc_app]; rfl, h2⟩
end Go.Proofs.Ythfnadmbakcgcaa
