/-
  CONTRACTS OF LAYER 2 (crc16) AND OF ITS REFERENCE: what each call returns, and that nothing that was there before has changed.
-/
import Derived.Test.YthfnadmbakcgcaaRows
import Derived.Test.YthfnadmbakcgcaaBytes
import Derived.Test.YthfnadmbakcgcaaCrcPlain
import Derived.WalkKit
import Derived.WalkSpells
import Derived.WalkLawsBesides
import Derived.Lib.Hide
import Derived.Deep.RegionHeld3
namespace Go.Proofs.Ythfnadmbakcgcaa
open Go.RowKit

theorem nib_int (s x : Nat) (hs : s < 65536) (hx : x < 16) :
    bits .xor .u16 (IntKind.u16.wrap ((s : Int) * 16)) (IntKind.u16.wrap (bits .xor .u16 ((s : Int) / 4096) (x : Int) * 4129)) = ((s * 16 % 65536 ^^^ (s / 4096 ^^^ x) * 4129 : Nat) : Int) := by
  have hy : s / 4096 ^^^ x < 2 ^ 4 := Nat.xor_lt_two_pow (by omega) (by omega)
  rw [show (s : Int) / 4096 = ((s / 4096 : Nat) : Int) by omega, u16_xor_nat _ _ (by omega) (by omega), IntKind.wrap_u16, IntKind.wrap_u16,
    show (s : Int) * 16 % 65536 = ((s * 16 % 65536 : Nat) : Int) by omega, show ((s / 4096 ^^^ x : Nat) : Int) * 4129 % 65536 = (((s / 4096 ^^^ x) * 4129 : Nat) : Int) by omega,
    u16_xor_nat _ _ (by omega) (by omega)]
theorem bit_int (s : Nat) : bits .xor .u16 (IntKind.u16.wrap ((s : Int) * 2)) 4129 = ((s * 2 % 65536 ^^^ 4129 : Nat) : Int) := by
  rw [IntKind.wrap_u16, show (s : Int) * 2 % 65536 = ((s * 2 % 65536 : Nat) : Int) by omega]
  exact u16_xor_nat _ 4129 (by omega) (by omega)
theorem ret_u16 {a b : Int} (h : a = b) : Ending.returned (.int .u16 a) = .returned (.int .u16 b) := by rw [h]

theorem shift_any (s : BitVec 16) (x : Nat) (hx : x < 16) (w : World) :
    Calls Try.prog 22 #[.int .u16 s.toNat, .int .u16 x] w fun e w' => e = .returned (.int .u16 (nib s x).toNat) ∧ w = w' := by
  have hs := s.isLt
  have H := Lib.hid (nib_eq s x hx)
  go_enter Try.func22, Try.ntmps22
  go_wp2
  go_ret
  exact ⟨ret_u16 (by rw [H.out]; exact nib_int _ _ hs hx), rfl⟩

theorem bit_any (s : BitVec 16) (b : Nat) (hb : b < 2) (w : World) :
    Calls Try.prog 23 #[.int .u16 s.toNat, .int .u8 b] w fun e w' => e = .returned (.int .u16 (bit1 s b).toNat) ∧ w = w' := by
  have hs := s.isLt
  by_cases h : s.toNat / 32768 = b
  · have H := Lib.hid (bit1_same s b h)
    go_enter Try.func23, Try.ntmps23
    go_wp2
    go_ret
    exact ⟨ret_u16 (by rw [H.out, IntKind.wrap_u16]; omega), rfl⟩
  · have H := Lib.hid (bit1_other s b hb h)
    go_enter Try.func23, Try.ntmps23
    go_wp2
    go_ret
    exact ⟨ret_u16 (by rw [H.out]; exact bit_int _), rfl⟩

theorem high_byte (c : UInt8) : ((c.toNat : Int)) / 16 = ((c.toNat / 16 : Nat) : Int) := by omega
theorem low_byte (c : UInt8) : (c.toNat : Int) % 16 = ((c.toNat % 16 : Nat) : Int) := by omega

theorem shift_hi (s : BitVec 16) (c : UInt8) (w : World) :
    Calls Try.prog 22 #[.int .u16 s.toNat, .int .u16 ((c.toNat : Int) / 16)] w fun e w' => e = .returned (.int .u16 (nib s (c.toNat / 16)).toNat) ∧ w = w' := by
  have := c.toNat_lt
  rw [high_byte]; exact shift_any s _ (by omega) w
theorem shift_lo (s : BitVec 16) (c : UInt8) (w : World) :
    Calls Try.prog 22 #[.int .u16 s.toNat, .int .u16 ((c.toNat : Int) % 16)] w fun e w' => e = .returned (.int .u16 (nib s (c.toNat % 16)).toNat) ∧ w = w' := by
  rw [low_byte]; exact shift_any s _ (by omega) w

theorem update_any (s : BitVec 16) (p : Option Addr) (n c : Nat) (xs : List UInt8) (w : World) (hl : xs.length = n) (h : Bin w p c xs) :
    Calls Try.prog 13 #[.int .u16 s.toNat, .slice p n c] w fun e w' => e = .returned (.int .u16 (crc s xs).toNat) ∧ w = w' := by
  subst hl
  rcases h.parts with rfl | ⟨hn, b, o, rfl⟩
  · go_enter Try.func13, Try.ntmps13
    go_wp2_with fail
    refine wp_loop_rounds 1 ?_
    rw [rounds_succ]
    go_wp2
    go_ret
    exact ⟨rfl, rfl⟩
  · have hcap := h.cap
    have hmax := h.max
    have hc := h.cell
    go_enter Try.func13, Try.ntmps13
    go_wp2_with fail
    go_loop [0, 9] (fun v i => ∃ (k : Nat) (t : BitVec 16), k ≤ xs.length ∧ i = .int .i64 k ∧ v = .int .u16 t.toNat ∧ t = crc s (xs.take k)) (fun _ i => xs.length - (intOf i).toNat)
    case atStart => exact ⟨0, s, Nat.zero_le _, rfl, rfl, rfl⟩
    case round =>
      obtain ⟨k, t, hk, rfl, rfl, ht⟩ := hrel
      have HT := Lib.hid ht
      clear ht
      have hcx : k < xs.length → w.cell? ⟨b, o + k, none⟩ = some (.int .u8 ((xs.getD k 0).toNat : Int)) := fun h => hc k h
      obtain ⟨d, hd⟩ : ∃ d, d = xs.getD k 0 := ⟨_, rfl⟩
      rw [← hd] at hcx
      have HD := Lib.hid hd
      clear hd hc
      have l1 := d.toNat_lt
      go_wp2_with (first
        | (go_at_call 22; (with_reducible refine (shift_hi t d _).mono ?_); rintro e w1 ⟨rfl, rfl⟩)
        | (go_at_call 22; (with_reducible refine (shift_lo _ d _).mono ?_); rintro e w1 ⟨rfl, rfl⟩))
      · go_round
        case rel => exact ⟨k + 1, crc s (xs.take (k + 1)), by omega, by go_num, by rw [nib_nib, HD.out, HT.out, crc_next _ _ _ (by assumption)], rfl⟩
        case measure => simp [intOf]; omega
      · obtain rfl : k = xs.length := by omega
        go_wp2
        go_ret
        exact ⟨by rw [HT.out, List.take_length]; rfl, rfl⟩

theorem bit_at (s : BitVec 16) (c : UInt8) (m : Nat) (w : World) :
    Calls Try.prog 23 #[.int .u16 s.toNat, .int .u8 (((c.toNat : Int) / 2 ^ m).tmod 2)] w fun e w' => e = .returned (.int .u16 (bit1 s (c.toNat / 2 ^ m % 2)).toNat) ∧ w = w' := by
  rw [show (c.toNat : Int) / 2 ^ m = ((c.toNat / 2 ^ m : Nat) : Int) by simp]
  exact bit_any s (c.toNat / 2 ^ m % 2) (Nat.mod_lt _ (by decide)) w

theorem rupdate_any (s : BitVec 16) (p : Option Addr) (n c : Nat) (xs : List UInt8) (w : World) (hl : xs.length = n) (h : Bin w p c xs) :
    Calls Try.prog 14 #[.int .u16 s.toNat, .slice p n c] w fun e w' => e = .returned (.int .u16 (crc s xs).toNat) ∧ w = w' := by
  subst hl
  rcases h.parts with rfl | ⟨hn, b, o, rfl⟩
  · go_enter Try.func14, Try.ntmps14
    go_wp2_with fail
    refine wp_loop_rounds 1 ?_
    rw [rounds_succ]
    go_wp2
    go_ret
    exact ⟨rfl, rfl⟩
  · have hcap := h.cap
    have hmax := h.max
    have hc := h.cell
    go_enter Try.func14, Try.ntmps14
    go_wp2_with fail
    go_loop [0, 5] (fun v i => ∃ (k : Nat) (t : BitVec 16), k ≤ xs.length ∧ i = .int .i64 k ∧ v = .int .u16 t.toNat ∧ t = crc s (xs.take k)) (fun _ i => xs.length - (intOf i).toNat)
    case atStart => exact ⟨0, s, Nat.zero_le _, rfl, rfl, rfl⟩
    case round =>
      obtain ⟨k, t, hk, rfl, rfl, ht⟩ := hrel
      have HT := Lib.hid ht
      clear ht
      have hcx : k < xs.length → w.cell? ⟨b, o + k, none⟩ = some (.int .u8 ((xs.getD k 0).toNat : Int)) := fun h => hc k h
      obtain ⟨d, hd⟩ : ∃ d, d = xs.getD k 0 := ⟨_, rfl⟩
      rw [← hd] at hcx
      have HD := Lib.hid hd
      clear hd hc
      have l1 := d.toNat_lt
      go_wp2_with fail
      · go_loop [0, 6] (fun v i => ∃ (j : Nat) (r : BitVec 16), j ≤ 8 ∧ i = .int .i64 ((j : Int) - 1) ∧ v = .int .u16 r.toNat ∧ rest8 d j r = crcB t d) (fun _ i => (intOf i + 1).toNat)
        case atStart => exact ⟨8, t, by omega, rfl, rfl, rest8_start _ _⟩
        case round =>
          obtain ⟨j, r, hj, rfl, rfl, hr⟩ := hrel
          have HR := Lib.hid hr
          clear hr
          have hcy := hcx (by assumption)
          go_wp2_with (go_at_call 23; (with_reducible refine (bit_at r d (j - 1) _).mono ?_); rintro e w1 ⟨rfl, rfl⟩)
          · have hj : 0 < j := by omega
            go_round
            case rel => exact ⟨j - 1, bit1 r (d.toNat / 2 ^ (j - 1) % 2), by omega, by go_num, rfl, by rw [rest8_step d (j - 1) (by omega), show j - 1 + 1 = j by omega]; exact HR.out⟩
            case measure => simp [intOf]; omega
          · obtain rfl : j = 0 := by omega
            go_round
            case rel => exact ⟨k + 1, r, by omega, by go_num, rfl, by rw [← crc_next _ _ _ (by assumption), ← HD.out, ← HT.out, ← HR.out, rest8_end]⟩
            case measure => simp [intOf]; omega
      · obtain rfl : k = xs.length := by omega
        go_wp2
        go_ret
        exact ⟨by rw [HT.out, List.take_length]; rfl, rfl⟩

theorem update_first (p : Option Addr) (n c : Nat) (xs : List UInt8) (w : World) (hl : xs.length = n) (h : Bin w p c xs) :
    Calls Try.prog 13 #[.int .u16 65535, .slice p n c] w fun e w' => e = .returned (.int .u16 (crc 0xFFFF#16 xs).toNat) ∧ w = w' := update_any 0xFFFF#16 p n c xs w hl h
theorem sum_any (p : Option Addr) (n c : Nat) (xs : List UInt8) (w : World) (hl : xs.length = n) (h : Bin w p c xs) :
    Calls Try.prog 11 #[.slice p n c] w fun e w' => e = .returned (.int .u16 (crc 0xFFFF#16 xs).toNat) ∧ w = w' := by
  go_enter Try.func11, Try.ntmps11
  go_wp2_with (go_at_call 13; (with_reducible refine (update_first p n c xs _ hl h).mono ?_); rintro e w1 ⟨rfl, rfl⟩)
  go_ret
  exact ⟨rfl, rfl⟩
theorem rupdate_first (p : Option Addr) (n c : Nat) (xs : List UInt8) (w : World) (hl : xs.length = n) (h : Bin w p c xs) :
    Calls Try.prog 14 #[.int .u16 65535, .slice p n c] w fun e w' => e = .returned (.int .u16 (crc 0xFFFF#16 xs).toNat) ∧ w = w' := rupdate_any 0xFFFF#16 p n c xs w hl h
theorem rsum_any (p : Option Addr) (n c : Nat) (xs : List UInt8) (w : World) (hl : xs.length = n) (h : Bin w p c xs) :
    Calls Try.prog 12 #[.slice p n c] w fun e w' => e = .returned (.int .u16 (crc 0xFFFF#16 xs).toNat) ∧ w = w' := by
  go_enter Try.func12, Try.ntmps12
  go_wp2_with (go_at_call 14; (with_reducible refine (rupdate_first p n c xs _ hl h).mono ?_); rintro e w1 ⟨rfl, rfl⟩)
  go_ret
  exact ⟨rfl, rfl⟩

theorem info_u8 : (Try.prog.info? 5).map (fun i => (i.zero, i.size, i.bytes)) = some (some (.int .u8 0), 1, 1) := by kernel_rfl

theorem two_cells (S : Nat) (h : S < 65536) : #[Value.int .u8 ((S : Int) / 256), Value.int .u8 ((S : Int) % 256)] = (bvs [UInt8.ofNat (S / 256), UInt8.ofNat (S % 256)]).toArray := by
  show _ = #[bv _, bv _]
  rw [bv_ofNat _ (by omega), bv_ofNat _ (by omega)]
  rfl

theorem append_any (p : Option Addr) (n c : Nat) (xs : List UInt8) (w : World) (hl : xs.length = n) (hs : n ≤ 70368744177664) (h : Bin w p c xs) :
    Calls Try.prog 15 #[.slice p n c] w fun e w' => ∃ p' c', e = .returned (.slice p' (app xs).length c') ∧ Bin w' p' c' (app xs) ∧ Below w.heap.size w w' := by
  subst hl
  have HB := Lib.hid (Below.refl w.heap.size w)
  have HI := Lib.hid h
  have ht := (crc 0xFFFF#16 xs).isLt
  go_enter Try.func15, Try.ntmps15
  go_wp2_with (first
    | (go_at_call 11; (with_reducible refine (sum_any _ _ _ xs _ rfl h).mono ?_); rintro e w1 ⟨rfl, rfl⟩)
    | (at_make; (refine wpList_make_bytes rfl _ _ 22 rfl w.heap.size 5 _ Try.underlying22 info_u8 _ _ _ (xs.length + 2) rfl rfl (by omega) (by omega) (Nat.le_refl _) ?_; intro w1 ho1 hb1))
    | (at_builtin; refine wpList_append_bytes rfl (.tmp 11) _ 22 rfl w.heap.size 5 _ Try.underlying22 info_u8 rfl _ [] rfl ho1 p _ c xs rfl rfl (HI.out.kept hb1) (by simp; omega) hb1.size ?_; intro p2 c2 zs w2 hz ho2 hb2)
    | (at_builtin; refine wpList_append_bytes rfl (.tmp 14) _ 22 rfl w.heap.size 5 _ Try.underlying22 info_u8 rfl _ zs rfl (ho2.alloc _) _ 2 2 _ rfl rfl (Bin.made w2 _ 2 _ _ _ (two_cells _ ht) rfl (by omega)) (by rw [hz.out]; simp; omega) (size_alloc_le _ (Nat.le_trans hb1.size hb2.size)) ?_; intro p3 c3 ys w3 hy ho3 hb3))
  go_ret
  obtain rfl : ys = app xs := by rw [hy.out, hz.out]; rfl
  exact ⟨p3, c3, rfl, ho3.bin.2, ((hb1.trans hb2).alloc (Nat.le_trans hb1.size hb2.size) _).trans hb3⟩

theorem rappend_any (p : Option Addr) (n c : Nat) (xs : List UInt8) (w : World) (hl : xs.length = n) (hs : n ≤ 70368744177664) (h : Bin w p c xs) :
    Calls Try.prog 17 #[.slice p n c] w fun e w' => ∃ p' c', e = .returned (.slice p' (app xs).length c') ∧ Bin w' p' c' (app xs) ∧ Below w.heap.size w w' := by
  subst hl
  have HI := Lib.hid h
  have ht := (crc 0xFFFF#16 xs).isLt
  have hb1 : Below w.heap.size w (w.alloc (.cells #[] 5)) := (Below.refl _ _).alloc (Nat.le_refl _) _
  have HB := Lib.hid hb1
  clear hb1
  go_enter Try.func17, Try.ntmps17
  go_wp2_with (first
    | (go_at_call 12; (with_reducible refine (rsum_any _ _ _ xs _ rfl h).mono ?_); rintro e w1 ⟨rfl, rfl⟩)
    | (at_builtin; refine wpList_append_bytes rfl (.tmp 7) _ 22 rfl w.heap.size 5 _ Try.underlying22 info_u8 rfl _ [] rfl (Own.lit w [] 0 _ _ _ rfl rfl (by omega) (Nat.le_refl _)) p _ c xs rfl rfl (HI.out.kept HB.out) (by simp; omega) HB.out.size ?_; intro p2 c2 zs w2 hz ho2 hb2)
    | (at_builtin; go_loud (refine wpList_append_bytes rfl (.tmp 10) _ 22 rfl w.heap.size 5 _ Try.underlying22 info_u8 rfl _ zs rfl (ho2.alloc _) _ 2 2 _ rfl rfl (Bin.made w2 _ 2 _ _ _ (two_cells _ ht) rfl (by omega)) (by rw [hz.out]; simp; omega) (size_alloc_le _ (Nat.le_trans HB.out.size hb2.size)) ?_; intro p3 c3 ys w3 hy ho3 hb3)))
  go_ret
  obtain rfl : ys = app xs := by rw [hy.out, hz.out]; rfl
  exact ⟨p3, c3, rfl, ho3.bin.2, ((HB.out.trans hb2).alloc (Nat.le_trans HB.out.size hb2.size) _).trans hb3⟩

/-- What a call of Check returns. -/
def Checked (xs : List UInt8) (w : World) (e : Ending) (w' : World) : Prop :=
  ∃ p' c', e = .returned (.tuple #[.slice p' (chk xs).1.length c', .int .i64 (chk xs).2]) ∧ Bin w' p' c' (chk xs).1 ∧ Below w.heap.size w w'
theorem Checked.short {xs : List UInt8} {w : World} (h : xs.length < 2) : Checked xs w (.returned (.tuple #[.slice none 0 0, .int .i64 3])) w := by
  have e : chk xs = ([], 3) := by unfold chk; rw [if_pos h]
  unfold Checked
  rw [e]
  exact ⟨none, 0, rfl, Bin.nil w, Below.refl _ _⟩
theorem Checked.wrong {xs : List UInt8} {w w' : World} (h : ¬ xs.length < 2) (h2 : 0 < (crc 0xFFFF#16 xs).toNat) (hb : Below w.heap.size w w') : Checked xs w (.returned (.tuple #[.slice none 0 0, .int .i64 4])) w' := by
  have e : chk xs = ([], 4) := by unfold chk; rw [if_neg h, if_neg (by rw [crc_zero_iff]; omega)]
  unfold Checked
  rw [e]
  exact ⟨none, 0, rfl, Bin.nil w', hb⟩
theorem Checked.right {xs ys : List UInt8} {w w' : World} {p' : Option Addr} {c' : Nat} (h : ¬ xs.length < 2) (h2 : (crc 0xFFFF#16 xs).toNat = 0) (hy : ys = xs.take (xs.length - 2)) (hb : Below w.heap.size w w') (hi : Bin w' p' c' ys) :
    Checked xs w (.returned (.tuple #[.slice p' ys.length c', .int .i64 0])) w' := by
  have e : chk xs = (ys, 0) := by unfold chk; rw [if_neg h, if_pos (by rw [crc_zero_iff]; exact h2), hy]
  unfold Checked
  rw [e]
  exact ⟨p', c', rfl, hi, hb⟩

theorem check_any (p : Option Addr) (n c : Nat) (xs : List UInt8) (w : World) (hl : xs.length = n) (hs : n ≤ 70368744177664) (h : Bin w p c xs) :
    Calls Try.prog 16 #[.slice p n c] w (Checked xs w) := by
  subst hl
  by_cases h2 : xs.length < 2
  · go_enter Try.func16, Try.ntmps16
    go_wp2
    go_ret2
    exact Checked.short h2
  · by_cases hz : 0 < (crc 0xFFFF#16 xs).toNat
    · have HZ := Lib.hid hz
      go_enter Try.func16, Try.ntmps16
      go_wp2_with (go_at_call 11; (with_reducible refine (sum_any _ _ _ xs _ rfl h).mono ?_); rintro e w1 ⟨rfl, rfl⟩)
      go_ret2
      exact Checked.wrong h2 HZ.out (Below.refl _ _)
    · rcases h.parts with rfl | ⟨hn, b, o, rfl⟩
      · simp at h2
      have HZ := Lib.hid (show (crc 0xFFFF#16 xs).toNat = 0 by omega)
      have hcap := h.cap
      have hmax := h.max
      have HI := Lib.hid (h.upto (xs.length - 2) (by omega))
      have HL := Lib.hid (show (xs.take (xs.length - 2)).length = xs.length - 2 by simp)
      go_enter Try.func16, Try.ntmps16
      go_wp2_with (first
        | (go_at_call 11; (with_reducible refine (sum_any _ _ _ xs _ rfl h).mono ?_); rintro e w1 ⟨rfl, rfl⟩)
        | (at_builtin; refine wpList_append_bytes rfl (.const (.slice none 0 0)) _ 22 rfl w.heap.size 5 _ Try.underlying22 info_u8 rfl _ [] rfl (World.ownsRow_nil _ _ _ _) (some ⟨b, o, none⟩) (xs.length - 2) c _ rfl HL.out HI.out (by simp; omega) (Nat.le_refl _) ?_; intro p2 c2 zs w2 hz ho2 hb2))
      go_ret2
      exact Checked.right h2 HZ.out (by rw [hz.out]; rfl) hb2 ho2.bin.2

theorem rcheck_any (p : Option Addr) (n c : Nat) (xs : List UInt8) (w : World) (hl : xs.length = n) (hs : n ≤ 70368744177664) (h : Bin w p c xs) :
    Calls Try.prog 18 #[.slice p n c] w (Checked xs w) := by
  by_cases h2 : xs.length < 2
  · subst hl
    go_enter Try.func18, Try.ntmps18
    go_wp2
    go_ret2
    exact Checked.short h2
  · rcases h.parts with rfl | ⟨hn, b, o, rfl⟩
    · simp at h2
    obtain ⟨m, rfl⟩ : ∃ m, n = m + 2 := ⟨n - 2, by omega⟩
    have hcap : m + 2 ≤ c := hl ▸ h.cap
    have hmax := h.max
    have hX := h.upto m (by omega)
    have hY : (xs.take m).length = m := by simp; omega
    have HA : Hid ((0 < (crc 0xFFFF#16 xs).toNat ↔ app (xs.take (xs.length - 2)) ≠ xs)) := Lib.hid (app_iff' xs (by omega))
    have HR : Hid (xs.take m = xs.take (xs.length - 2)) := Lib.hid (by rw [hl]; rfl)
    rw [← HR.out] at HA
    generalize xs.take m = ys at hX hY HR HA
    have HI := Lib.hid hX
    have HL := Lib.hid hY
    have HX := Lib.hid h
    have HM := Lib.hid hl
    have H2 := Lib.hid h2
    clear hX hY h hl h2 hn
    have b0 : (0 : Int) ≤ ↑m := by omega
    have b1 : (↑m : Int) ≤ ↑c := by omega
    by_cases hz : 0 < (crc 0xFFFF#16 xs).toNat
    · have hq : (app ys == xs) = false := by simpa using HA.out.1 hz
      have HZ := Lib.hid hz
      clear hz
      go_enter Try.func18, Try.ntmps18
      go_wp2_with fail
      have hcx := HX.out.drew.convert _ HM.out _ _ _ Try.underlying22 Try.underlying5 Try.underlying9
      go_region_with (go_at_call 17; (with_reducible refine (rappend_any _ _ _ ys _ HL.out (by omega) HI.out.drew).mono ?_); rintro e w1 ⟨p1, c1, rfl, hi1, hb1⟩; have hcv := hi1.convert _ rfl _ _ _ Try.underlying22 Try.underlying5 Try.underlying9; have hbw := (Below.refl w.heap.size w).drew.trans hb1; have hcy := (HX.out.kept hbw).convert _ HM.out _ _ _ Try.underlying22 Try.underlying5 Try.underlying9)
      all_goals go_wp2
      all_goals go_ret2
      all_goals exact Checked.wrong H2.out HZ.out (by assumption)
    · have hq : (app ys == xs) = true := by simpa using mt HA.out.2 hz
      have HZ := Lib.hid hz
      clear hz
      go_enter Try.func18, Try.ntmps18
      go_wp2_with fail
      have hcx := HX.out.drew.convert _ HM.out _ _ _ Try.underlying22 Try.underlying5 Try.underlying9
      go_region_with (go_at_call 17; (with_reducible refine (rappend_any _ _ _ ys _ HL.out (by omega) HI.out.drew).mono ?_); rintro e w1 ⟨p1, c1, rfl, hi1, hb1⟩; have hcv := hi1.convert _ rfl _ _ _ Try.underlying22 Try.underlying5 Try.underlying9; have hbw := (Below.refl w.heap.size w).drew.trans hb1; have hcy := (HX.out.kept hbw).convert _ HM.out _ _ _ Try.underlying22 Try.underlying5 Try.underlying9)
      all_goals go_wp2_with (at_builtin; (refine wpList_append_bytes rfl (.tmp 19) _ 22 rfl w.heap.size 5 _ Try.underlying22 info_u8 rfl _ [] rfl (Own.lit _ [] 0 _ _ _ rfl rfl (by omega) hbw.size) (some ⟨b, o, none⟩) m c _ rfl HL.out (HI.out.kept (hbw.alloc hbw.size _)) (by rw [HL.out]; simp; omega) (hbw.alloc hbw.size _).size ?_; intro p2 c2 zs w2 hz ho2 hb2))
      all_goals go_ret2
      all_goals exact Checked.right H2.out (by have := HZ.out; omega) (by rw [hz.out]; exact HR.out) ((hbw.alloc hbw.size _).trans hb2) ho2.bin.2
end Go.Proofs.Ythfnadmbakcgcaa
