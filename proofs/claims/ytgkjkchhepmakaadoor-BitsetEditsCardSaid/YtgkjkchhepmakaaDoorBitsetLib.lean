/-
  CONTRACTS OF WHAT LAYER 4 (bitset) CALLS OF Go's LIBRARY.
-/
import Derived.Test.YtgkjkchhepmakaaDoorRows
import Derived.Test.YtgkjkchhepmakaaDoorVals
import Derived.Test.YtgkjkchhepmakaaDoorBitsetCount
import Derived.WalkKit
import Derived.WalkSpells
import Derived.WalkLawsBesides
import Derived.Lib.Hide
namespace Go.Proofs.YtgkjkchhepmakaaDoor
open Go.RowKit Go.IntWalk

theorem swar1 (x : Nat) (h : x < 18446744073709551616) (h1 : s1 x < 18446744073709551616) :
    IntKind.u64.wrap (bits .and .u64 ((x : Int) / 2) 6148914691236517205 + bits .and .u64 (x : Int) 6148914691236517205) = ((s1 x : Nat) : Int) := by
  have e1 : bits .and .u64 ((x : Int) / 2) 6148914691236517205 = ((x / 2 &&& 6148914691236517205 : Nat) : Int) := bits_and_u64_nat (x / 2) 6148914691236517205 (by omega) (by decide)
  have e2 : bits .and .u64 (x : Int) 6148914691236517205 = ((x &&& 6148914691236517205 : Nat) : Int) := bits_and_u64_nat x 6148914691236517205 h (by decide)
  rw [e1, e2, IntKind.wrap_u64]
  unfold s1 at h1 ⊢
  omega
theorem swar2 (x : Nat) (h : x < 18446744073709551616) (h1 : s2 x < 18446744073709551616) :
    IntKind.u64.wrap (bits .and .u64 ((x : Int) / 4) 3689348814741910323 + bits .and .u64 (x : Int) 3689348814741910323) = ((s2 x : Nat) : Int) := by
  have e1 : bits .and .u64 ((x : Int) / 4) 3689348814741910323 = ((x / 4 &&& 3689348814741910323 : Nat) : Int) := bits_and_u64_nat (x / 4) 3689348814741910323 (by omega) (by decide)
  have e2 : bits .and .u64 (x : Int) 3689348814741910323 = ((x &&& 3689348814741910323 : Nat) : Int) := bits_and_u64_nat x 3689348814741910323 h (by decide)
  rw [e1, e2, IntKind.wrap_u64]
  unfold s2 at h1 ⊢
  omega
theorem swar3 (x : Nat) (h1 : x / 16 + x < 18446744073709551616) :
    bits .and .u64 (IntKind.u64.wrap ((x : Int) / 16 + (x : Int))) 1085102592571150095 = ((s3 x : Nat) : Int) := by
  have e0 : IntKind.u64.wrap ((x : Int) / 16 + (x : Int)) = ((x / 16 + x : Nat) : Int) := by rw [IntKind.wrap_u64]; omega
  rw [e0]
  exact bits_and_u64_nat (x / 16 + x) 1085102592571150095 h1 (by decide)
theorem and127 (x : Nat) (h : x < 9223372036854775808) : bits .and .i64 (x : Int) 127 = ((x % 128 : Nat) : Int) := by
  have h1 : (BitVec.ofInt 64 (x : Int)).toNat = x := by
    rw [BitVec.ofInt_natCast, BitVec.toNat_ofNat]; exact Nat.mod_eq_of_lt (by omega)
  show IntKind.i64.wrap ((BitVec.ofInt 64 (x : Int) &&& BitVec.ofInt 64 127).toNat : Int) = _
  rw [BitVec.toNat_and, h1, show (BitVec.ofInt 64 127).toNat = 2 ^ 7 - 1 by decide, Nat.and_two_pow_sub_one_eq_mod, IntKind.wrap_i64]
  omega
theorem ret_int {a b : Int} (h : a = b) : Ending.returned (.int .i64 a) = .returned (.int .i64 b) := by rw [h]
theorem dig1 (y c r : Nat) (h : y = c + 256 * r) (hc : c ≤ 8) : y / 256 = r := by omega
theorem dig2 (y r1 r2 r3 c0 c1 c2 : Nat) (h : y = c0 + 256 * r1) (h1 : r1 = c1 + 256 * r2) (h2 : r2 = c2 + 256 * r3) (k0 : c0 ≤ 8) (k1 : c1 ≤ 8) (k2 : c2 ≤ 8) : (y + r1) / 65536 = r2 + r3 := by omega
theorem dig4 (y r c0 c1 c2 c3 : Nat) (h : y = c0 + 256 * (c1 + 256 * (c2 + 256 * (c3 + 256 * r)))) (k0 : c0 ≤ 8) (k1 : c1 ≤ 8) (k2 : c2 ≤ 8) (k3 : c3 ≤ 8) : ∃ l, l < 1073741824 ∧ y = l + 4294967296 * r :=
  ⟨c0 + 256 * c1 + 65536 * c2 + 16777216 * c3, by omega, by omega⟩
theorem dig5 (y r1 r2 r3 l0 l1 l2 l3 r4 r5 r6 r7 : Nat) (h0 : y = l0 + 4294967296 * r4) (h1 : r1 = l1 + 4294967296 * r5) (h2 : r2 = l2 + 4294967296 * r6) (h3 : r3 = l3 + 4294967296 * r7)
    (k0 : l0 < 1073741824) (k1 : l1 < 1073741824) (k2 : l2 < 1073741824) (k3 : l3 < 1073741824) : (y + r1 + (r2 + r3)) / 4294967296 = r4 + r5 + r6 + r7 := by omega
theorem dig6 (y r1 r2 r3 r4 r5 r6 r7 c0 c1 c2 c3 c4 c5 c6 : Nat) (h0 : y = c0 + 256 * r1) (h1 : r1 = c1 + 256 * r2) (h2 : r2 = c2 + 256 * r3) (h3 : r3 = c3 + 256 * r4) (h4 : r4 = c4 + 256 * r5) (h5 : r5 = c5 + 256 * r6) (h6 : r6 = c6 + 256 * r7) :
    (y + r1 + (r2 + r3) + (r4 + r5 + r6 + r7)) % 128 = (c0 + c1 + c2 + c3 + c4 + c5 + c6 + r7) % 128 := by
  have e : y + r1 + (r2 + r3) + (r4 + r5 + r6 + r7) = (c0 + c1 + c2 + c3 + c4 + c5 + c6 + r7) + 128 * (2 * (r1 + r2 + r3 + r4 + r5 + r6 + r7)) := by
    conv => lhs; rw [h0, h1, h2, h3, h4, h5, h6]
    conv => rhs; rw [h1, h2, h3, h4, h5, h6]
    omega
  rw [e, Nat.add_mul_mod_self_left]
theorem digb (r c s B : Nat) (h : r = c + 256 * s) (hc : c ≤ 8) (hs : s ≤ B) : r ≤ 8 + 256 * B := by omega
theorem dig7 (r7 r6 r5 r4 r3 r2 r1 y c0 c1 c2 c3 c4 c5 c6 : Nat) (h0 : y = c0 + 256 * r1) (h1 : r1 = c1 + 256 * r2) (h2 : r2 = c2 + 256 * r3) (h3 : r3 = c3 + 256 * r4) (h4 : r4 = c4 + 256 * r5) (h5 : r5 = c5 + 256 * r6) (h6 : r6 = c6 + 256 * r7)
    (k0 : c0 ≤ 8) (k1 : c1 ≤ 8) (k2 : c2 ≤ 8) (k3 : c3 ≤ 8) (k4 : c4 ≤ 8) (k5 : c5 ≤ 8) (k6 : c6 ≤ 8) (k7 : r7 ≤ 8) : y < 1152921504606846976 ∧ r1 < 1152921504606846976 ∧ r2 < 1152921504606846976 ∧ r3 < 1152921504606846976 ∧ r4 + r5 + r6 + r7 < 1152921504606846976 := by
  have b6 := digb r6 c6 r7 8 h6 k6 k7
  have b5 := digb r5 c5 r6 _ h5 k5 b6
  have b4 := digb r4 c4 r5 _ h4 k4 b5
  have b3 := digb r3 c3 r4 _ h3 k3 b4
  have b2 := digb r2 c2 r3 _ h2 k2 b3
  have b1 := digb r1 c1 r2 _ h1 k1 b2
  have b0 := digb y c0 r1 _ h0 k0 b1
  clear h0 h1 h2 h3 h4 h5 h6
  omega
theorem wsum1 (x q : Nat) (d : x / 256 = q) (b : x + q < 18446744073709551616) : IntKind.u64.wrap ((x : Int) + (x : Int) / 256) = ((x + q : Nat) : Int) := by
  subst d; rw [IntKind.wrap_u64]; omega
theorem wsum2 (x q : Nat) (d : x / 65536 = q) (b : x + q < 18446744073709551616) : IntKind.u64.wrap ((x : Int) + (x : Int) / 65536) = ((x + q : Nat) : Int) := by
  subst d; rw [IntKind.wrap_u64]; omega
theorem wsum3 (x q : Nat) (d : x / 4294967296 = q) (b : x + q < 18446744073709551616) : IntKind.u64.wrap ((x : Int) + (x : Int) / 4294967296) = ((x + q : Nat) : Int) := by
  subst d; rw [IntKind.wrap_u64]; omega
theorem wsum4 (x : Nat) (b : x < 9223372036854775808) : wrap64 (x : Int) = (x : Int) := wrap64_in _ (by omega)
theorem swar4 (y n c0 c1 c2 c3 c4 c5 c6 c7 : Nat) (h : y = c0 + 256 * (c1 + 256 * (c2 + 256 * (c3 + 256 * (c4 + 256 * (c5 + 256 * (c6 + 256 * c7))))))) (k0 : c0 ≤ 8) (k1 : c1 ≤ 8) (k2 : c2 ≤ 8) (k3 : c3 ≤ 8) (k4 : c4 ≤ 8) (k5 : c5 ≤ 8) (k6 : c6 ≤ 8) (k7 : c7 ≤ 8) (hs : c0 + c1 + c2 + c3 + c4 + c5 + c6 + c7 = n) :
    bits .and .i64 (wrap64 (IntKind.u64.wrap (IntKind.u64.wrap (IntKind.u64.wrap ((y : Int) + (y : Int) / 256) + IntKind.u64.wrap ((y : Int) + (y : Int) / 256) / 65536) + IntKind.u64.wrap (IntKind.u64.wrap ((y : Int) + (y : Int) / 256) + IntKind.u64.wrap ((y : Int) + (y : Int) / 256) / 65536) / 4294967296))) 127 = (n : Int) := by
  obtain ⟨r6, h6⟩ : ∃ r, r = c6 + 256 * c7 := ⟨_, rfl⟩
  rw [← h6] at h
  obtain ⟨r5, h5⟩ : ∃ r, r = c5 + 256 * r6 := ⟨_, rfl⟩
  rw [← h5] at h
  obtain ⟨r4, h4⟩ : ∃ r, r = c4 + 256 * r5 := ⟨_, rfl⟩
  rw [← h4] at h
  obtain ⟨l0, m0, g0⟩ := dig4 y r4 c0 c1 c2 c3 h k0 k1 k2 k3
  obtain ⟨r3, h3⟩ : ∃ r, r = c3 + 256 * r4 := ⟨_, rfl⟩
  rw [← h3] at h
  obtain ⟨r2, h2⟩ : ∃ r, r = c2 + 256 * r3 := ⟨_, rfl⟩
  rw [← h2] at h
  obtain ⟨r1, h1⟩ : ∃ r, r = c1 + 256 * r2 := ⟨_, rfl⟩
  rw [← h1] at h
  obtain ⟨l1, m1, g1⟩ := dig4 r1 r5 c1 c2 c3 c4 (by rw [h1, h2, h3, h4]) k1 k2 k3 k4
  obtain ⟨l2, m2, g2⟩ := dig4 r2 r6 c2 c3 c4 c5 (by rw [h2, h3, h4, h5]) k2 k3 k4 k5
  obtain ⟨l3, m3, g3⟩ := dig4 r3 c7 c3 c4 c5 c6 (by rw [h3, h4, h5, h6]) k3 k4 k5 k6
  have d1 := dig1 y c0 r1 h k0
  have d2 := dig2 y r1 r2 r3 c0 c1 c2 h h1 h2 k0 k1 k2
  have d3 := dig5 y r1 r2 r3 l0 l1 l2 l3 r4 r5 r6 c7 g0 g1 g2 g3 m0 m1 m2 m3
  have d4 := dig6 y r1 r2 r3 r4 r5 r6 c7 c0 c1 c2 c3 c4 c5 c6 h h1 h2 h3 h4 h5 h6
  obtain ⟨b0, b1, b2, b3, b4⟩ := dig7 c7 r6 r5 r4 r3 r2 r1 y c0 c1 c2 c3 c4 c5 c6 h h1 h2 h3 h4 h5 h6 k0 k1 k2 k3 k4 k5 k6 k7
  clear h h1 h2 h3 h4 h5 h6 g0 g1 g2 g3 m0 m1 m2 m3
  have s1 : y + r1 < 18446744073709551616 := by omega
  have s2 : y + r1 + (r2 + r3) < 18446744073709551616 := by omega
  have s3 : y + r1 + (r2 + r3) + (r4 + r5 + r6 + c7) < 9223372036854775808 := by omega
  rw [wsum1 y r1 d1 s1, wsum2 _ _ d2 s2, wsum3 _ _ d3 (Nat.lt_trans s3 (by decide)), wsum4 _ s3, and127 _ s3, d4]
  clear d1 d2 d3 d4 s1 s2 s3 b0 b1 b2 b3 b4
  omega
theorem ones_any (u : W64) (w : World) :
    Calls Tryd.prog 47 #[.int .u64 (u.toNat : Int)] w fun e w' => e = .returned (.int .i64 (pc u)) ∧ w = w' := by
  have hu := u.isLt
  obtain ⟨x, hx⟩ : ∃ x, u.toNat = x := ⟨_, rfl⟩
  rw [pc_eq]
  rw [hx] at hu ⊢
  obtain ⟨c0, c1, c2, c3, c4, c5, c6, c7, b1, b2, b3, h3, k0, k1, k2, k3, k4, k5, k6, k7, hs⟩ := swar x hu
  go_enter Tryd.func47, Tryd.ntmps47
  go_wp2
  go_ret
  refine ⟨ret_int ?_, rfl⟩
  rw [swar1 x hu b1, swar2 _ b1 b2, swar3 _ b3]
  exact swar4 _ _ _ _ _ _ _ _ _ _ h3 k0 k1 k2 k3 k4 k5 k6 k7 hs
end Go.Proofs.YtgkjkchhepmakaaDoor
