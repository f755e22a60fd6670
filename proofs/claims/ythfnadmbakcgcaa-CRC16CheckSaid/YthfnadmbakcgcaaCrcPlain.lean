/-
  PLAIN MATHEMATICS FOR LAYER 2 (crc16): the register of 16 bits as a linear map; bytes, bits and bursts. Nothing of the program stands here.
-/
import Derived.IntWalk
import Derived.Laws.BitsAllLaws
namespace Go.Proofs.Ythfnadmbakcgcaa
open Go

/-- One bit leaves the register. -/
def mst (s : BitVec 16) : BitVec 16 := (s <<< 1) ^^^ (if s.msb then 0x1021#16 else 0#16)
def mit : Nat → BitVec 16 → BitVec 16
  | 0, s => s
  | k + 1, s => mit k (mst s)

theorem mst_xor (s t : BitVec 16) : mst (s ^^^ t) = mst s ^^^ mst t := by
  unfold mst
  rw [BitVec.shiftLeft_xor_distrib, BitVec.msb_xor]
  have h (a b c : BitVec 16) : a ^^^ b = (a ^^^ c) ^^^ (b ^^^ c) := by
    ext i; simp only [BitVec.getElem_xor]; cases a[i] <;> cases b[i] <;> cases c[i] <;> rfl
  cases s.msb <;> cases t.msb
  · simp
  · simp; ac_rfl
  · simp; ac_rfl
  · simp only [if_true, Bool.xor_self, Bool.false_eq_true, if_false, BitVec.xor_zero]
    exact h _ _ _
theorem mst_zero : mst 0#16 = 0#16 := by decide
theorem mit_zero (k : Nat) : mit k 0#16 = 0#16 := by
  induction k with
  | zero => rfl
  | succ k ih => rw [mit, mst_zero, ih]
theorem mit_xor (k : Nat) (s t : BitVec 16) : mit k (s ^^^ t) = mit k s ^^^ mit k t := by
  induction k generalizing s t with
  | zero => rfl
  | succ k ih => rw [mit, mst_xor, ih]; rfl
theorem mit_add (j k : Nat) (s : BitVec 16) : mit (j + k) s = mit k (mit j s) := by
  induction j generalizing s with
  | zero => simp [mit]
  | succ j ih => rw [Nat.succ_add, mit, ih]; rfl
theorem mst_shift (s : BitVec 16) (h : s.msb = false) : mst s = s <<< 1 := by
  unfold mst; rw [h]; simp
theorem mst_ne (s : BitVec 16) (h : s ≠ 0#16) : mst s ≠ 0#16 := by
  intro e
  unfold mst at e
  cases hm : s.msb with
  | true =>
    rw [hm] at e
    have := congrArg (fun v : BitVec 16 => v.getLsbD 0) e
    simp at this
  | false =>
    rw [hm] at e
    simp at e
    apply h
    ext i hi
    have h2 := congrArg (fun v : BitVec 16 => v.getLsbD (i + 1)) e
    by_cases h15 : i = 15
    · subst h15
      rw [BitVec.msb_eq_getLsbD_last] at hm
      simpa using hm
    · simp at h2
      rw [← BitVec.getLsbD_eq_getElem]
      simpa [show i + 1 < 16 by omega] using h2
theorem mit_ne (k : Nat) (s : BitVec 16) (h : s ≠ 0#16) : mit k s ≠ 0#16 := by
  induction k generalizing s with
  | zero => exact h
  | succ k ih => exact ih _ (mst_ne s h)

/-- What a byte does. -/
def crcB (s : BitVec 16) (c : UInt8) : BitVec 16 := mit 8 (s ^^^ (BitVec.ofNat 16 c.toNat <<< 8))
def crc (s : BitVec 16) (xs : List UInt8) : BitVec 16 := xs.foldl crcB s

theorem crc_append (s : BitVec 16) (xs ys : List UInt8) : crc s (xs ++ ys) = crc (crc s xs) ys := by simp [crc]
theorem crc_cons (s : BitVec 16) (c : UInt8) (xs : List UInt8) : crc s (c :: xs) = crc (crcB s c) xs := rfl
theorem crc_nil (s : BitVec 16) : crc s [] = s := rfl
theorem crc_take_succ (s : BitVec 16) (xs : List UInt8) (k : Nat) (h : k < xs.length) : crc s (xs.take (k + 1)) = crcB (crc s (xs.take k)) xs[k] := by
  rw [List.take_succ_eq_append_getElem h, crc_append]; rfl
theorem crc_next (s : BitVec 16) (xs : List UInt8) (k : Nat) (h : k < xs.length) : crcB (crc s (xs.take k)) (xs.getD k 0) = crc s (xs.take (k + 1)) := by
  rw [crc_take_succ s xs k h]; simp [List.getD, h]
theorem ofNat_xor8 (a b : UInt8) : BitVec.ofNat 16 (a ^^^ b).toNat = BitVec.ofNat 16 a.toNat ^^^ BitVec.ofNat 16 b.toNat := by
  rw [UInt8.toNat_xor]
  apply BitVec.eq_of_toNat_eq
  have h1 := a.toNat_lt
  have h2 := b.toNat_lt
  have h3 : a.toNat ^^^ b.toNat < 2 ^ 8 := Nat.xor_lt_two_pow h1 h2
  simp only [BitVec.toNat_ofNat, BitVec.toNat_xor]
  rw [Nat.mod_eq_of_lt (by omega), Nat.mod_eq_of_lt (by omega), Nat.mod_eq_of_lt (by omega)]
theorem crcB_xor (s t : BitVec 16) (a b : UInt8) : crcB (s ^^^ t) (a ^^^ b) = crcB s a ^^^ crcB t b := by
  unfold crcB
  rw [← mit_xor, ofNat_xor8, BitVec.shiftLeft_xor_distrib]
  congr 1
  ac_rfl
theorem crc_xor (s t : BitVec 16) (xs ys : List UInt8) (h : xs.length = ys.length) : crc (s ^^^ t) (List.zipWith (· ^^^ ·) xs ys) = crc s xs ^^^ crc t ys := by
  induction xs generalizing s t ys with
  | nil => cases ys with
    | nil => rfl
    | cons => simp at h
  | cons x xs ih => cases ys with
    | nil => simp at h
    | cons y ys =>
      rw [List.zipWith_cons_cons, crc_cons, crc_cons, crc_cons, crcB_xor]
      exact ih _ _ _ (by simpa using h)
theorem crcB_zero (s : BitVec 16) : crcB s 0 = mit 8 s := by unfold crcB; congr 1; simp
theorem crc_zeros (s : BitVec 16) (n : Nat) : crc s (List.replicate n 0) = mit (8 * n) s := by
  induction n generalizing s with
  | zero => rfl
  | succ n ih => rw [List.replicate_succ, crc_cons, ih, crcB_zero, ← mit_add]; congr 1; omega
/-- The register's start counts like an error in front. -/
theorem crc_start (s t : BitVec 16) (xs : List UInt8) : crc (s ^^^ t) xs = crc s xs ^^^ mit (8 * xs.length) t := by
  induction xs generalizing s t with
  | nil => rfl
  | cons x xs ih =>
    rw [crc_cons, crc_cons, show crcB (s ^^^ t) x = crcB s x ^^^ mit 8 t by
      unfold crcB; rw [← mit_xor]; congr 1; ac_rfl, ih, ← mit_add]
    congr 2
    simp; omega
/-- Bits of one byte turned. -/
theorem crc_set (s : BitVec 16) (xs : List UInt8) (i : Nat) (h : i < xs.length) (d : UInt8) :
    crc s (xs.set i (xs[i] ^^^ d)) = crc s xs ^^^ mit (8 * (xs.length - i)) (BitVec.ofNat 16 d.toNat <<< 8) := by
  induction xs generalizing s i with
  | nil => simp at h
  | cons x xs ih =>
    cases i with
    | zero =>
      rw [List.set_cons_zero, crc_cons, crc_cons, List.getElem_cons_zero]
      have e : crcB s (x ^^^ d) = crcB s x ^^^ mit 8 (BitVec.ofNat 16 d.toNat <<< 8) := by
        unfold crcB; rw [← mit_xor, ofNat_xor8, BitVec.shiftLeft_xor_distrib]; congr 1; ac_rfl
      rw [e, crc_start, ← mit_add]
      congr 2
      simp; omega
    | succ i =>
      rw [List.set_cons_succ, crc_cons, crc_cons, List.getElem_cons_succ, ih _ _ (by simpa using h)]
      congr 2
      simp
/-- The checksum of bytes and their checksum is 0. -/
theorem crc_closed (s : BitVec 16) : crc s [UInt8.ofNat (s.toNat / 256), UInt8.ofNat (s.toNat % 256)] = 0#16 := by
  have hs := s.isLt
  show crcB (crcB s _) _ = _
  unfold crcB
  have e1 : s ^^^ (BitVec.ofNat 16 (UInt8.ofNat (s.toNat / 256)).toNat <<< 8) = BitVec.ofNat 16 (s.toNat % 256) := by
    have h1 : (UInt8.ofNat (s.toNat / 256)).toNat = s.toNat / 256 := by simp; omega
    rw [h1]
    have h2 : s = (BitVec.ofNat 16 (s.toNat / 256) <<< 8) ^^^ BitVec.ofNat 16 (s.toNat % 256) := by
      apply BitVec.eq_of_toNat_eq
      simp only [BitVec.toNat_xor, BitVec.toNat_shiftLeft, BitVec.toNat_ofNat]
      rw [Nat.mod_eq_of_lt (a := s.toNat / 256) (by omega), Nat.shiftLeft_eq, Nat.mod_eq_of_lt (a := s.toNat / 256 * 2 ^ 8) (by omega), Nat.mod_eq_of_lt (a := s.toNat % 256) (by omega)]
      have := Nat.two_pow_add_eq_or_of_lt (i := 8) (b := s.toNat % 256) (by omega) (s.toNat / 256)
      have h3 : (s.toNat / 256 * 2 ^ 8) ^^^ (s.toNat % 256) = (s.toNat / 256 * 2 ^ 8) ||| (s.toNat % 256) := by
        apply Nat.eq_of_testBit_eq
        intro i
        rw [Nat.testBit_xor, Nat.testBit_or, Nat.testBit_mul_two_pow]
        by_cases hi : 8 ≤ i
        · have : (s.toNat % 256).testBit i = false := Nat.testBit_lt_two_pow (Nat.lt_of_lt_of_le (by omega : s.toNat % 256 < 2 ^ 8) (Nat.pow_le_pow_right (by omega) hi))
          simp [this]
        · simp [hi]
      rw [h3, Nat.mul_comm, ← this]; omega
    generalize BitVec.ofNat 16 (s.toNat / 256) <<< 8 = a at h2
    generalize BitVec.ofNat 16 (s.toNat % 256) = b at h2
    subst h2
    rw [BitVec.xor_comm a b, BitVec.xor_assoc]; simp
  rw [e1]
  have h4 : (UInt8.ofNat (s.toNat % 256)).toNat = s.toNat % 256 := by simp
  rw [h4, show mit 8 (BitVec.ofNat 16 (s.toNat % 256)) = BitVec.ofNat 16 (s.toNat % 256) <<< 8 from ?_]
  · rw [show ∀ a : BitVec 16, a ^^^ a = 0#16 from fun a => by simp, mit_zero]
  · generalize hv : s.toNat % 256 = v
    have hv' : v < 256 := by omega
    revert v
    have : ∀ v : Fin 256, mit 8 (BitVec.ofNat 16 v.val) = BitVec.ofNat 16 v.val <<< 8 := by decide +kernel
    intro v _ hv'
    exact this ⟨v, hv'⟩

/-! ### Four bits at once; one bit at a time -/
theorem mst_small (l : Nat) (h : l < 32768) : mst (BitVec.ofNat 16 l) = BitVec.ofNat 16 (l * 2) := by
  rw [mst_shift]
  · apply BitVec.eq_of_toNat_eq
    simp only [BitVec.toNat_shiftLeft, BitVec.toNat_ofNat, Nat.shiftLeft_eq]
    omega
  · rw [BitVec.msb_eq_decide, BitVec.toNat_ofNat]
    simp; omega
theorem mit4_low (l : Nat) (h : l < 4096) : mit 4 (BitVec.ofNat 16 l) = BitVec.ofNat 16 (l * 16) := by
  rw [mit, mit, mit, mit, mit, mst_small l (by omega), mst_small _ (by omega), mst_small _ (by omega), mst_small _ (by omega), show l * 2 * 2 * 2 * 2 = l * 16 by omega]
theorem mit4_high (y : Nat) (h : y < 16) : mit 4 (BitVec.ofNat 16 (y * 4096)) = BitVec.ofNat 16 (y * 4129) :=
  (by decide +kernel : ∀ y : Fin 16, mit 4 (BitVec.ofNat 16 (y.val * 4096)) = BitVec.ofNat 16 (y.val * 4129)) ⟨y, h⟩
theorem ofNat_xor (a b : Nat) (ha : a < 65536) (hb : b < 65536) : BitVec.ofNat 16 (a ^^^ b) = BitVec.ofNat 16 a ^^^ BitVec.ofNat 16 b := by
  apply BitVec.eq_of_toNat_eq
  have h3 : a ^^^ b < 2 ^ 16 := Nat.xor_lt_two_pow (by omega) (by omega)
  simp only [BitVec.toNat_ofNat, BitVec.toNat_xor]
  rw [Nat.mod_eq_of_lt h3, Nat.mod_eq_of_lt (by omega), Nat.mod_eq_of_lt (by omega)]
theorem nat_split (k a b : Nat) (h : b < 2 ^ k) : (a * 2 ^ k + b) = (a * 2 ^ k) ^^^ b := by
  have h1 := Nat.two_pow_add_eq_or_of_lt (i := k) (b := b) h a
  rw [Nat.mul_comm a, h1]
  apply Nat.eq_of_testBit_eq
  intro i
  rw [Nat.testBit_xor, Nat.testBit_or, Nat.mul_comm, Nat.testBit_mul_two_pow]
  by_cases hi : k ≤ i
  · have : b.testBit i = false := Nat.testBit_lt_two_pow (Nat.lt_of_lt_of_le h (Nat.pow_le_pow_right (by omega) hi))
    simp [this]
  · simp [hi]
theorem xor_mul_pow (a b k : Nat) : (a ^^^ b) * 2 ^ k = (a * 2 ^ k) ^^^ (b * 2 ^ k) := by
  apply Nat.eq_of_testBit_eq
  intro i
  simp only [Nat.testBit_xor, Nat.testBit_mul_two_pow]
  by_cases h : k ≤ i <;> simp [h]
/-- What four bits do. -/
def nib (s : BitVec 16) (x : Nat) : BitVec 16 := mit 4 (s ^^^ BitVec.ofNat 16 (x * 4096))
theorem nib_eq (s : BitVec 16) (x : Nat) (hx : x < 16) : (nib s x).toNat = (s.toNat * 16 % 65536) ^^^ ((s.toNat / 4096 ^^^ x) * 4129) := by
  have hs := s.isLt
  have hy : s.toNat / 4096 ^^^ x < 2 ^ 4 := Nat.xor_lt_two_pow (by omega) (by omega)
  have e : s ^^^ BitVec.ofNat 16 (x * 4096) = BitVec.ofNat 16 (s.toNat % 4096) ^^^ BitVec.ofNat 16 ((s.toNat / 4096 ^^^ x) * 4096) := by
    have e1 : s = BitVec.ofNat 16 (s.toNat / 4096 * 4096) ^^^ BitVec.ofNat 16 (s.toNat % 4096) := by
      rw [← ofNat_xor _ _ (by omega) (by omega), ← nat_split 12 _ _ (by omega)]
      apply BitVec.eq_of_toNat_eq
      rw [BitVec.toNat_ofNat]; omega
    have e2 : BitVec.ofNat 16 ((s.toNat / 4096 ^^^ x) * 4096) = BitVec.ofNat 16 (s.toNat / 4096 * 4096) ^^^ BitVec.ofNat 16 (x * 4096) := by
      rw [← ofNat_xor _ _ (by omega) (by omega)]
      congr 1
      exact xor_mul_pow _ _ 12
    rw [e2]
    conv => lhs; rw [e1]
    ac_rfl
  unfold nib
  rw [e, mit_xor, mit4_low _ (by omega), mit4_high _ (by omega), BitVec.toNat_xor, BitVec.toNat_ofNat, BitVec.toNat_ofNat]
  congr 1
  · omega
  · exact Nat.mod_eq_of_lt (by omega)
theorem nib_nib (s : BitVec 16) (c : UInt8) : nib (nib s (c.toNat / 16)) (c.toNat % 16) = crcB s c := by
  have hc := c.toNat_lt
  unfold nib crcB
  rw [mit_add 4 4]
  congr 1
  have e : BitVec.ofNat 16 c.toNat <<< 8 = BitVec.ofNat 16 (c.toNat / 16 * 4096) ^^^ BitVec.ofNat 16 (c.toNat % 16 * 256) := by
    rw [← ofNat_xor _ _ (by omega) (by omega), show c.toNat / 16 * 4096 = c.toNat / 16 * 2 ^ 12 from rfl, ← nat_split 12 _ _ (by omega)]
    apply BitVec.eq_of_toNat_eq
    simp only [BitVec.toNat_shiftLeft, BitVec.toNat_ofNat, Nat.shiftLeft_eq]
    omega
  rw [e, ← BitVec.xor_assoc, mit_xor 4 (s ^^^ _), mit4_low _ (by omega), show c.toNat % 16 * 256 * 16 = c.toNat % 16 * 4096 by omega]
/-- What one bit does. -/
def bit1 (s : BitVec 16) (b : Nat) : BitVec 16 := mst (s ^^^ BitVec.ofNat 16 (b * 32768))
theorem msb_nat (s : BitVec 16) : s.msb = decide (32768 ≤ s.toNat) := by rw [BitVec.msb_eq_decide]
theorem bit1_same (s : BitVec 16) (b : Nat) (h : s.toNat / 32768 = b) : (bit1 s b).toNat = s.toNat * 2 % 65536 := by
  have hs := s.isLt
  have hb : b = 0 ∨ b = 1 := by omega
  have hm : (s ^^^ BitVec.ofNat 16 (b * 32768)).msb = false := by
    rw [BitVec.msb_xor, msb_nat, msb_nat, BitVec.toNat_ofNat]
    rcases hb with rfl | rfl
    · simp; omega
    · simp; omega
  unfold bit1
  rw [mst_shift _ hm, BitVec.shiftLeft_xor_distrib, BitVec.toNat_xor, BitVec.toNat_shiftLeft, BitVec.toNat_shiftLeft, BitVec.toNat_ofNat, Nat.shiftLeft_eq, Nat.shiftLeft_eq]
  rcases hb with rfl | rfl <;> simp
theorem bit1_other (s : BitVec 16) (b : Nat) (hb : b < 2) (h : s.toNat / 32768 ≠ b) : (bit1 s b).toNat = (s.toNat * 2 % 65536) ^^^ 4129 := by
  have hs := s.isLt
  have hb : b = 0 ∨ b = 1 := by omega
  have hm : (s ^^^ BitVec.ofNat 16 (b * 32768)).msb = true := by
    rw [BitVec.msb_xor, msb_nat, msb_nat, BitVec.toNat_ofNat]
    rcases hb with rfl | rfl
    · simp; omega
    · simp; omega
  unfold bit1 mst
  rw [hm, BitVec.shiftLeft_xor_distrib, BitVec.toNat_xor, BitVec.toNat_xor, BitVec.toNat_shiftLeft, BitVec.toNat_shiftLeft, BitVec.toNat_ofNat, Nat.shiftLeft_eq, Nat.shiftLeft_eq]
  rcases hb with rfl | rfl <;> simp
/-- j bits of the byte c are still to come. -/
def rest8 (c : UInt8) (j : Nat) (s : BitVec 16) : BitVec 16 := mit j (s ^^^ BitVec.ofNat 16 (c.toNat * 2 ^ (16 - j)))
theorem rest8_start (c : UInt8) (s : BitVec 16) : rest8 c 8 s = crcB s c := by
  unfold rest8 crcB
  congr 2
  apply BitVec.eq_of_toNat_eq
  simp [BitVec.toNat_shiftLeft, BitVec.toNat_ofNat, Nat.shiftLeft_eq]
theorem rest8_end (c : UInt8) (s : BitVec 16) : rest8 c 0 s = s := by
  unfold rest8
  have : BitVec.ofNat 16 (c.toNat * 2 ^ (16 - 0)) = 0#16 := by
    apply BitVec.eq_of_toNat_eq
    simp [BitVec.toNat_ofNat]
  rw [this]; simp [mit]
theorem rest8_bits : ∀ c : Fin 256, ∀ j : Fin 8, mst (BitVec.ofNat 16 (c.val * 2 ^ (15 - j.val))) = mst (BitVec.ofNat 16 (c.val / 2 ^ j.val % 2 * 32768)) ^^^ BitVec.ofNat 16 (c.val * 2 ^ (16 - j.val)) := by decide +kernel
theorem rest8_step (c : UInt8) (j : Nat) (hj : j < 8) (s : BitVec 16) : rest8 c j (bit1 s (c.toNat / 2 ^ j % 2)) = rest8 c (j + 1) s := by
  have h := rest8_bits ⟨c.toNat, c.toNat_lt⟩ ⟨j, hj⟩
  simp only at h
  unfold rest8 bit1
  rw [mit, mst_xor, mst_xor, show 16 - (j + 1) = 15 - j by omega, h]
  congr 1
  ac_rfl

/-! ### Append and Check -/
/-- Bytes and their checksum. -/
def app (xs : List UInt8) : List UInt8 := xs ++ [UInt8.ofNat ((crc 0xFFFF#16 xs).toNat / 256), UInt8.ofNat ((crc 0xFFFF#16 xs).toNat % 256)]
theorem app_len (xs : List UInt8) : (app xs).length = xs.length + 2 := by simp [app]
theorem crc_app (xs : List UInt8) : crc 0xFFFF#16 (app xs) = 0#16 := by unfold app; rw [crc_append, crc_closed]
/-- What Check returns: the bytes, and its error's number. -/
def chk (xs : List UInt8) : List UInt8 × Nat := if xs.length < 2 then ([], 3) else if crc 0xFFFF#16 xs = 0#16 then (xs.take (xs.length - 2), 0) else ([], 4)
theorem mit8_low : ∀ v : Fin 256, mit 8 (BitVec.ofNat 16 v.val) = BitVec.ofNat 16 v.val <<< 8 := by decide +kernel
theorem crc_two (t : BitVec 16) (h l : UInt8) : crc t [h, l] = mit 16 (t ^^^ BitVec.ofNat 16 (h.toNat * 256 + l.toNat)) := by
  have h1 := h.toNat_lt
  have h2 := l.toNat_lt
  show crcB (crcB t h) l = _
  unfold crcB
  rw [← mit8_low ⟨l.toNat, h2⟩, ← mit_xor, show ∀ v, mit 16 v = mit 8 (mit 8 v) from fun v => mit_add 8 8 v]
  congr 2
  rw [BitVec.xor_assoc]
  congr 1
  have : BitVec.ofNat 16 h.toNat <<< 8 = BitVec.ofNat 16 (h.toNat * 256) := by
    apply BitVec.eq_of_toNat_eq
    simp only [BitVec.toNat_shiftLeft, BitVec.toNat_ofNat, Nat.shiftLeft_eq]
    omega
  rw [this, show h.toNat * 256 + l.toNat = h.toNat * 2 ^ 8 + l.toNat from rfl, nat_split 8 _ _ h2, ofNat_xor _ _ (by omega) (by omega)]
theorem app_iff (ys : List UInt8) (h l : UInt8) : crc 0xFFFF#16 (ys ++ [h, l]) = 0#16 ↔ app ys = ys ++ [h, l] := by
  constructor
  · intro e
    rw [crc_append, crc_two] at e
    have e2 : crc 0xFFFF#16 ys ^^^ BitVec.ofNat 16 (h.toNat * 256 + l.toNat) = 0#16 := by
      false_or_by_contra
      rename_i hne
      exact mit_ne 16 _ hne e
    have e3 : crc 0xFFFF#16 ys = BitVec.ofNat 16 (h.toNat * 256 + l.toNat) := BitVec.xor_eq_zero_iff.1 e2
    have h1 := h.toNat_lt
    have h2 := l.toNat_lt
    have e4 := congrArg BitVec.toNat e3
    rw [BitVec.toNat_ofNat, Nat.mod_eq_of_lt (by omega)] at e4
    unfold app
    rw [e4, show (h.toNat * 256 + l.toNat) / 256 = h.toNat by omega, show (h.toNat * 256 + l.toNat) % 256 = l.toNat by omega]
    simp
  · intro e
    rw [← e]
    exact crc_app ys
theorem last_two (xs : List UInt8) (h : 2 ≤ xs.length) : ∃ ys a b, xs = ys ++ [a, b] := by
  refine ⟨xs.take (xs.length - 2), xs[xs.length - 2], xs[xs.length - 1], ?_⟩
  conv => lhs; rw [← List.take_append_drop (xs.length - 2) xs]
  congr 1
  apply List.ext_getElem
  · simp; omega
  · intro i h1 h2
    have : i = 0 ∨ i = 1 := by simp at h2; omega
    rcases this with rfl | rfl
    · simp
    · simp; congr 1; omega
theorem chk_app (xs : List UInt8) : chk (app xs) = (xs, 0) := by
  unfold chk
  rw [if_neg (by rw [app_len]; omega), if_pos (crc_app xs), app_len]
  simp [app]
theorem crc_zero_iff (s : BitVec 16) : s = 0#16 ↔ s.toNat = 0 := by
  constructor
  · rintro rfl; rfl
  · intro h; exact BitVec.eq_of_toNat_eq (by simpa using h)
theorem app_iff' (xs : List UInt8) (h : 2 ≤ xs.length) : 0 < (crc 0xFFFF#16 xs).toNat ↔ app (xs.take (xs.length - 2)) ≠ xs := by
  obtain ⟨ys, a, b, rfl⟩ := last_two xs h
  have e := app_iff ys a b
  rw [crc_zero_iff] at e
  rw [show (ys ++ [a, b]).take ((ys ++ [a, b]).length - 2) = ys by simp]
  constructor
  · intro h1 h2
    have := e.2 h2
    omega
  · intro h1
    have := mt e.1 h1
    omega
end Go.Proofs.Ythfnadmbakcgcaa
