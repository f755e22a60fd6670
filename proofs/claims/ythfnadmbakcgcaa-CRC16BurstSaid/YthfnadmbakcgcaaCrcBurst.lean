/-
  The burst statement of layer 2 (crc16), walked: the reference's Flip, and the law.
-/
import Derived.Test.YthfnadmbakcgcaaCrcLaws2
namespace Go.Proofs.Ythfnadmbakcgcaa
open Go.RowKit
set_option linter.unusedSimpArgs false

theorem mit_top : ∀ k : Fin 16, mit k.val (BitVec.ofNat 16 (2 ^ (15 - k.val))) = BitVec.ofNat 16 32768 := by decide +kernel
theorem mit_top' (a k : Nat) (hk : k < 16) (ha : k ≤ a) : mit a (BitVec.ofNat 16 (2 ^ (15 - k))) = mit (a - k) (BitVec.ofNat 16 32768) := by
  have e : a = k + (a - k) := by omega
  rw [e, mit_add, mit_top ⟨k, hk⟩]
  congr 1; omega
theorem flip_bits : ∀ m : Fin 8, BitVec.ofNat 16 (UInt8.ofNat (128 / 2 ^ m.val)).toNat <<< 8 = BitVec.ofNat 16 (2 ^ (15 - m.val)) := by decide +kernel
theorem flip_crc (ys : List UInt8) (n j m st k : Nat) (hn : ys.length = n) (hj : j = (st + k) / 8) (_hm : m = (st + k) % 8) (hjn : j < n) (hk : k < 16) :
    crc 0xFFFF#16 (ys.set j (ys.getD j 0 ^^^ UInt8.ofNat (128 / 2 ^ m))) = crc 0xFFFF#16 ys ^^^ mit (8 * n - st) (BitVec.ofNat 16 (2 ^ (15 - k))) := by
  have h1 := crc_set 0xFFFF#16 ys j (by omega) (UInt8.ofNat (128 / 2 ^ m))
  rw [flip_bits ⟨m, by omega⟩] at h1
  have e : ys.getD j 0 = ys[j]'(by omega) := by simp [List.getD, show j < ys.length by omega]
  rw [e, h1, mit_top' _ _ (by show m < 16; omega) (by show m ≤ _; omega), mit_top' _ _ hk (by omega)]
  congr 2
  show 8 * (ys.length - j) - m = _
  omega
theorem flip_val (d : UInt8) (m : Nat) (_hm : m < 8) : Value.int .u8 (bits .xor .u8 (d.toNat : Int) (128 / 2 ^ m)) = bv (d ^^^ UInt8.ofNat (128 / 2 ^ m)) := by
  have h1 : (128 : Int) / 2 ^ m = ((128 / 2 ^ m : Nat) : Int) := by simp
  have h2 : 128 / 2 ^ m < 256 := Nat.lt_of_le_of_lt (Nat.div_le_self _ _) (by omega)
  unfold bv
  rw [h1, u8_xor_nat _ _ d.toNat_lt h2, UInt8.toNat_xor]
  congr 3
  rw [UInt8.toNat_ofNat', Nat.mod_eq_of_lt h2]
theorem flip_more (q k : Nat) (hq : q < 2 ^ k) (hk : k < 16) : BitVec.ofNat 16 ((2 * q + 1) * 2 ^ (16 - (k + 1))) = BitVec.ofNat 16 (q * 2 ^ (16 - k)) ^^^ BitVec.ofNat 16 (2 ^ (15 - k)) := by
  have e : 16 - k = (15 - k) + 1 := by omega
  have h1 : q * 2 ^ (16 - k) + 2 ^ (15 - k) ≤ 65536 := by
    have h2 : (q + 1) * 2 ^ (16 - k) ≤ 2 ^ k * 2 ^ (16 - k) := Nat.mul_le_mul_right _ hq
    rw [← Nat.pow_add, show k + (16 - k) = 16 by omega] at h2
    have h3 : 2 ^ (15 - k) ≤ 2 ^ (16 - k) := Nat.pow_le_pow_right (by omega) (by omega)
    rw [Nat.add_mul] at h2
    omega
  have h4 : 0 < 2 ^ (15 - k) := Nat.pow_pos (by omega)
  rw [← ofNat_xor _ _ (by omega) (by have : 0 < 2 ^ (16 - k) := Nat.pow_pos (by omega)
                                     rw [e, Nat.pow_succ] at h1
                                     by_cases h0 : q = 0
                                     · subst h0
                                       have : 2 ^ (15 - k) ≤ 2 ^ 15 := Nat.pow_le_pow_right (by omega) (by omega)
                                       omega
                                     · have : 1 * (2 ^ (15 - k) * 2) ≤ q * (2 ^ (15 - k) * 2) := Nat.mul_le_mul_right _ (by omega)
                                       omega), ← nat_split (16 - k) _ _ (by rw [e, Nat.pow_succ]; omega)]
  congr 1
  rw [e, Nat.pow_succ, show 16 - (k + 1) = 15 - k by omega, Nat.add_mul, Nat.mul_comm 2 q, Nat.mul_assoc, Nat.mul_comm 2]; omega
theorem flip_less (q k : Nat) (hk : k < 16) : (2 * q) * 2 ^ (16 - (k + 1)) = q * 2 ^ (16 - k) := by
  rw [show 16 - k = (16 - (k + 1)) + 1 by omega, Nat.pow_succ, Nat.mul_comm 2 q, Nat.mul_assoc, Nat.mul_comm 2]

/-- What a call of Flip returns: as many bytes; and the checksum that turns by the bits that were turned. -/
def Flipped (xs : List UInt8) (st : Nat) (w : World) (e : Ending) (w' : World) : Prop :=
  ∃ (p' : Option Addr) (c' : Nat) (ys : List UInt8) (q : Nat) (ch : Bool), e = .returned (.tuple #[.slice p' ys.length c', .bool ch]) ∧ Bin w' p' c' ys ∧ Below w.heap.size w w' ∧ ys.length = xs.length ∧ q < 65536 ∧ ch = decide (q ≠ 0) ∧
    crc 0xFFFF#16 ys = crc 0xFFFF#16 xs ^^^ mit (8 * xs.length - st) (BitVec.ofNat 16 q)

theorem Flipped.mk {xs ys : List UInt8} {st n q c : Nat} {w w' : World} {g : Nat} {e : TypeId} {ch : Bool} (ho : Own w' w.heap.size e (.slice (some ⟨g, 0, none⟩) n c) ys) (hb : Below w.heap.size w w') (hy : ys.length = n) (hx : xs.length = n) (hq : q < 2 ^ 16) (hch : ch = decide (q ≠ 0))
    (hc : crc 0xFFFF#16 ys = crc 0xFFFF#16 xs ^^^ mit (8 * xs.length - st) (BitVec.ofNat 16 (q * 2 ^ (16 - 16)))) :
    Flipped xs st w (.returned (.tuple #[.slice (some ⟨g, 0, none⟩) n c, .bool ch])) w' := by
  refine ⟨_, c, ys, q, ch, by rw [hy], ho.bin.2, hb, by omega, hq, hch, ?_⟩
  rw [hc]; simp
theorem flip_any (p : Option Addr) (n c : Nat) (xs : List UInt8) (st pat : Nat) (w : World) (hl : xs.length = n) (h0 : 0 < n) (hs : n ≤ 400) (hst : st < 8 * n) (_hp : pat < 65536) (h : Bin w p c xs) :
    Calls Try.prog 19 #[.slice p n c, .int .i64 st, .int .u16 pat] w (Flipped xs st w) := by
  have HI := Lib.hid h
  have HL := Lib.hid hl
  have hx : xs.length ≤ 400 := by omega
  have HB := Lib.hid ((Below.refl w.heap.size w).alloc (Nat.le_refl _) (.cells #[] 5))
  clear hl
  go_enter Try.func19, Try.ntmps19
  go_wp2_with (at_builtin; refine wpList_append_bytes rfl (.tmp 12) _ 22 rfl w.heap.size 5 _ Try.underlying22 info_u8 rfl _ [] rfl (Own.lit w [] 0 _ _ _ rfl rfl (by omega) (Nat.le_refl _)) p _ c xs rfl HL.out (HI.out.kept HB.out) (by simp; omega) HB.out.size ?_; intro p2 c2 us w2 hu ho2 hb2)
  obtain ⟨g, rfl, hg, _⟩ := ho2.at (by rw [hu.out]; simp [HL.out, h0])
  have hun : us.length = n := by rw [hu.out]; simp [HL.out]
  rw [hun] at ho2 ⊢
  go_loopw [9, 10] (fun v i wr => ∃ (k q : Nat) (ch : Bool) (ys : List UInt8), k ≤ 16 ∧ i = .int .i64 k ∧ v = .bool ch ∧ Hid (ch = decide (q ≠ 0)) ∧ Hid (q < 2 ^ k) ∧ Hid (Own wr w.heap.size 5 (.slice (some ⟨g, 0, none⟩) n c2) ys) ∧ Hid (Below w.heap.size w wr) ∧ Hid (crc 0xFFFF#16 ys = crc 0xFFFF#16 xs ^^^ mit (8 * xs.length - st) (BitVec.ofNat 16 (q * 2 ^ (16 - k))))) (fun _ i _ => 16 - (intOf i).toNat)
  case atStart =>
    refine ⟨0, 0, false, us, by omega, rfl, rfl, by simp [Hid], by simp [Hid], ho2, HB.out.trans hb2, ?_⟩
    rw [hu.out, List.nil_append, Nat.zero_mul, mit_zero]
    simp [Hid]
  case round =>
    obtain ⟨k, q, ch, ys, hk, rfl, rfl, hch, hq, ho, hbw, hc⟩ := hrel
    obtain ⟨j, hj⟩ : ∃ j, j = (st + k) / 8 := ⟨_, rfl⟩
    obtain ⟨m, hm⟩ : ∃ m, m = (st + k) % 8 := ⟨_, rfl⟩
    have ej : ((st : Int) + k) / 8 = j := by omega
    have em : ((st : Int) + k) % 8 = m := by omega
    have HJ := Lib.hid hj
    have HM := Lib.hid hm
    have lm : m < 8 := by omega
    clear hj hm
    have hys : ys.length = n := (ho.out.bin.1).symm
    by_cases hjn : j < n
    · have q4 := ho.out.bin.2.cell j (by omega)
      have q5 := (ho.out.free j).2
      rw [Nat.zero_add] at q4
      obtain ⟨du, hdu⟩ : ∃ d, d = ys.getD j 0 := ⟨_, rfl⟩
      rw [← hdu] at q4
      have HU := Lib.hid hdu
      have HY := Lib.hid hys
      clear hdu hys
      have b1' : (0 : Int) ≤ j := by omega
      have b2' : (j : Int) < n := by omega
      go_wp2_with fail
      · go_region
        all_goals go_wp2
        go_roundw
        case rel =>
          refine ⟨k + 1, 2 * q + 1, true, ys.set j (du ^^^ UInt8.ofNat (128 / 2 ^ m)), by omega, by go_num, rfl, by simp [Hid], by have := hq.out; rw [Nat.pow_succ]; show _ < _; omega, ?_, Lib.hid ((hbw.out.setCell (p := ⟨g, j, none⟩) hg _).drew), ?_⟩
          · rw [flip_val _ _ lm]; exact (ho.out.set j _).below (Below.refl _ _).drew
          · rw [HU.out]
            show crc _ _ = _
            rw [flip_crc ys n j m st k HY.out HJ.out HM.out hjn (by omega), hc.out, HL.out, flip_more q k hq.out (by omega), mit_xor, BitVec.xor_assoc]
        case measure => simp [intOf]; omega
      · go_roundw
        case rel => exact ⟨k + 1, 2 * q, ch, ys, by omega, by go_num, rfl, by rw [hch.out]; exact decide_eq_decide.2 (by omega), by have := hq.out; rw [Nat.pow_succ]; show _ < _; omega, ho, hbw, by rw [flip_less q k (by omega)]; exact hc⟩
        case measure => simp [intOf]; omega
      · go_ret2
        obtain rfl : k = 16 := by omega
        exact Flipped.mk ho.out hbw.out HY.out HL.out hq.out hch.out hc.out
    · go_wp2_with fail
      · go_roundw
        case rel => exact ⟨k + 1, 2 * q, ch, ys, by omega, by go_num, rfl, by rw [hch.out]; exact decide_eq_decide.2 (by omega), by have := hq.out; rw [Nat.pow_succ]; show _ < _; omega, ho, hbw, by rw [flip_less q k (by omega)]; exact hc⟩
        case measure => simp [intOf]; omega
      · go_ret2
        obtain rfl : k = 16 := by omega
        exact Flipped.mk ho.out hbw.out hys HL.out hq.out hch.out hc.out

/-- What the law has of Flip behind Append: bytes whose checksum is not 0, unless nothing was turned. -/
def Spoilt (w : World) (e : Ending) (w' : World) : Prop :=
  ∃ (p' : Option Addr) (c' : Nat) (ys : List UInt8) (ch : Bool), e = .returned (.tuple #[.slice p' ys.length c', .bool ch]) ∧ Bin w' p' c' ys ∧ Below w.heap.size w w' ∧ ys.length ≤ 302 ∧ (ch = true → chk ys = ([], 4))
theorem flip_law (p : Option Addr) (c : Nat) (xs : List UInt8) (s pat : Nat) (w : World) (hx : xs.length ≤ 300) (hp : pat < 65536) (h : Bin w p c (app xs)) :
    Calls Try.prog 19 #[.slice p (app xs).length c, .int .i64 ((s : Int) % (8 * ((app xs).length : Int))), .int .u16 pat] w (Spoilt w) := by
  have hl := app_len xs
  have e : (s : Int) % (8 * ((app xs).length : Int)) = ((s % (8 * (app xs).length) : Nat) : Int) := by simp
  rw [e]
  have hlt : s % (8 * (app xs).length) < 8 * (app xs).length := Nat.mod_lt _ (by omega)
  refine (flip_any p _ c (app xs) _ pat w rfl (by omega) (by omega) hlt hp h).mono fun e w' hf => ?_
  obtain ⟨p', c', ys, q, ch, rfl, hi, hb, hy, hq, hch, hc⟩ := hf
  refine ⟨p', c', ys, ch, rfl, hi, hb, by omega, fun ht => ?_⟩
  have hq0 : q ≠ 0 := by rw [hch] at ht; simpa using ht
  have hn : crc 0xFFFF#16 ys ≠ 0#16 := by
    rw [hc, crc_app, BitVec.zero_xor]
    refine mit_ne _ _ fun h0 => hq0 ?_
    have := congrArg BitVec.toNat h0
    rw [BitVec.toNat_ofNat] at this
    simpa [Nat.mod_eq_of_lt hq] using this
  unfold chk
  rw [if_neg (by omega), if_neg hn]
theorem check_spoilt (p : Option Addr) (c : Nat) (ys : List UInt8) (w : World) (hy : ys.length ≤ 302) (hc : chk ys = ([], 4)) (h : Bin w p c ys) :
    Calls Try.prog 16 #[.slice p ys.length c] w fun e w' => ∃ p' c', e = .returned (.tuple #[.slice p' 0 c', .int .i64 4]) ∧ Below w.heap.size w w' :=
  (check_any p _ c _ w rfl (by omega) h).mono fun _ _ h => by
    unfold Checked at h
    rw [hc] at h
    obtain ⟨p', c', h1, _, h3⟩ := h
    exact ⟨p', c', h1, h3⟩

theorem burst_walk (p : Option Addr) (n c : Nat) (xs : List UInt8) (s pat : Nat) (w : World) (hl : xs.length = n) (hs : s < 65536) (hp : pat < 65536) (h : Bin w p c xs) :
    Calls Try.prog 7 #[.slice p n c, .int .u16 s, .int .u16 pat] w fun e w' => e = .returned (.bool true) ∧ Below w.heap.size w w' := by
  by_cases hb : 300 < n
  · go_enter Try.func7, Try.ntmps7
    go_wp2_with (go_at_call 10; (with_reducible refine (examples_any _).mono ?_); rintro e w1 ⟨rfl, hb1⟩)
    go_ret
    exact ⟨rfl, hb1⟩
  · have HB := Lib.hid (Below.refl w.heap.size w)
    have hx : (app xs).length ≤ 302 := by rw [app_len]; omega
    have hx0 : 2 ≤ (app xs).length := by rw [app_len]; omega
    go_enter Try.func7, Try.ntmps7
    go_wp2_with (first
      | (go_at_call 10; (with_reducible refine (examples_any _).mono ?_); rintro e w1 ⟨rfl, hb1⟩; replace HB := Lib.hid (HB.out.trans (hb1.mono HB.out.size)); clear hb1)
      | (go_at_call 17; (with_reducible refine (rappend_any _ _ _ xs _ hl (by omega) h).mono ?_); rintro e w1 ⟨p1, c1, rfl, hi1, hb1⟩; replace HB := Lib.hid (HB.out.trans (hb1.mono HB.out.size)); clear hb1))
    refine (flip_law _ _ xs s pat _ (by omega) hp hi1).mono ?_
    rintro e w2 ⟨p2, c2, ys, ch, rfl, hi2, hb2, hy, hch⟩
    replace HB := Lib.hid (HB.out.trans (hb2.mono HB.out.size))
    cases ch
    · clear hch
      go_wp2_with (go_at_call 10; (with_reducible refine (examples_any _).mono ?_); rintro e w3 ⟨rfl, hb3⟩; replace HB := Lib.hid (HB.out.trans (hb3.mono HB.out.size)); clear hb3)
      go_ret
      exact ⟨rfl, HB.out⟩
    · have HC := Lib.hid (hch rfl)
      clear hch
      go_wp2_with (first
        | (go_at_call 10; (with_reducible refine (examples_any _).mono ?_); rintro e w3 ⟨rfl, hb3⟩; replace HB := Lib.hid (HB.out.trans (hb3.mono HB.out.size)); clear hb3)
        | (go_at_call 16; (with_reducible refine (check_spoilt _ _ ys _ hy HC.out hi2).mono ?_); rintro e w3 ⟨p3, c3, rfl, hb3⟩; replace HB := Lib.hid (HB.out.trans (hb3.mono HB.out.size)); clear hb3))
      go_ret
      exact ⟨rfl, HB.out⟩
end Go.Proofs.Ythfnadmbakcgcaa
