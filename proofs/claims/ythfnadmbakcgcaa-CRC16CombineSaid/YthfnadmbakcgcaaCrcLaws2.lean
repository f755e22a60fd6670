/-
  The statements of layer 2 (crc16), walked, more: Combine, the affine law, bursts.
-/
import Derived.Test.YthfnadmbakcgcaaCrcLaws
namespace Go.Proofs.Ythfnadmbakcgcaa
open Go.RowKit
set_option linter.unusedSimpArgs false

theorem cmb_join (xs ys : List UInt8) (h : ys.length ≤ 300) : cmb (crc 0xFFFF#16 xs) (crc 0xFFFF#16 ys) (ys.length : Int) = (crc 0xFFFF#16 (xs ++ ys), 0) := by
  rw [cmb, if_neg (by omega), crc_append]
  congr 1
  rw [show ((ys.length : Int)).toNat = ys.length by omega, ← crc_start]
  congr 1
  rw [BitVec.xor_comm (crc _ _), ← BitVec.xor_assoc]; simp
theorem combine_join (xs ys : List UInt8) (m : Nat) (hm : ys.length = m) (h : ys.length ≤ 300) (w : World) :
    Calls Try.prog 20 #[.int .u16 (crc 0xFFFF#16 xs).toNat, .int .u16 (crc 0xFFFF#16 ys).toNat, .int .i64 m] w fun e w' => e = .returned (.tuple #[.int .u16 (crc 0xFFFF#16 (xs ++ ys)).toNat, .int .i64 0]) ∧ Below w.heap.size w w' :=
  (combine_any _ _ _ w).mono fun _ _ ⟨h1, h2⟩ => ⟨by rw [h1, ← hm, cmb_join xs ys h]; rfl, h2⟩

theorem combine_walk (p q : Option Addr) (n c m d : Nat) (xs ys : List UInt8) (k : Int) (w : World) (hl : xs.length = n) (hm : ys.length = m) (h : Bin w p c xs) (h' : Bin w q d ys) :
    Calls Try.prog 8 #[.slice p n c, .slice q m d, .int .i64 k] w fun e w' => e = .returned (.bool true) ∧ Below w.heap.size w w' := by
  by_cases hb : 300 < n
  · go_enter Try.func8, Try.ntmps8
    go_wp2_with (go_at_call 10; (with_reducible refine (examples_any _).mono ?_); rintro e w1 ⟨rfl, hb1⟩)
    go_ret
    exact ⟨rfl, hb1⟩
  · by_cases hb2 : 300 < m
    · go_enter Try.func8, Try.ntmps8
      go_wp2_with (go_at_call 10; (with_reducible refine (examples_any _).mono ?_); rintro e w1 ⟨rfl, hb1⟩)
      go_ret
      exact ⟨rfl, hb1⟩
    · have HB := Lib.hid (Below.refl w.heap.size w)
      have HI := Lib.hid h
      have HK := Lib.hid h'
      have HL := Lib.hid hl
      have HM := Lib.hid hm
      have hx : xs.length ≤ 300 := by omega
      have hy : ys.length ≤ 300 := by omega
      clear hl hm
      go_enter Try.func8, Try.ntmps8
      go_wp2_with (first
        | (at_builtin; refine wpList_append_bytes rfl (.tmp 33) _ 22 rfl w.heap.size 5 _ Try.underlying22 info_u8 rfl _ [] rfl (Own.lit _ [] 0 _ _ _ rfl rfl (by omega) HB.out.size) p _ c xs rfl HL.out (HI.out.kept (HB.out.alloc HB.out.size _)) (by simp; omega) (size_alloc_le _ HB.out.size) ?_; intro p2 c2 us w2 hu ho2 hb2; replace HB := Lib.hid ((HB.out.alloc HB.out.size _).trans hb2); clear hb2)
        | (at_builtin; refine wpList_append_bytes rfl (.tmp 35) _ 22 rfl w.heap.size 5 _ Try.underlying22 info_u8 rfl _ us rfl ho2 q _ d ys rfl HM.out (HK.out.kept HB.out) (by rw [hu.out]; simp; omega) HB.out.size ?_; intro p3 c3 vs w3 hv ho3 hb3; replace HB := Lib.hid (HB.out.trans hb3); clear hb3)
        | (go_at_call 10; (with_reducible refine (examples_any _).mono ?_); rintro e w1 ⟨rfl, hb1⟩; replace HB := Lib.hid (HB.out.trans (hb1.mono HB.out.size)); clear hb1)
        | (go_at_call 11; (with_reducible refine (sum_any p _ c xs _ HL.out (HI.out.kept HB.out)).mono ?_); rintro e w1 ⟨rfl, rfl⟩)
        | (go_at_call 11; (with_reducible refine (sum_any q _ d ys _ HM.out (HK.out.kept HB.out)).mono ?_); rintro e w1 ⟨rfl, rfl⟩)
        | (go_at_call 12; (with_reducible refine (rsum_any p _ c xs _ HL.out (HI.out.kept HB.out)).mono ?_); rintro e w1 ⟨rfl, rfl⟩)
        | (go_at_call 12; (with_reducible refine (rsum_any q _ d ys _ HM.out (HK.out.kept HB.out)).mono ?_); rintro e w1 ⟨rfl, rfl⟩)
        | (go_at_call 12; (with_reducible refine (rsum_any p3 _ c3 vs _ rfl ho3.bin.2).mono ?_); rintro e w1 ⟨rfl, rfl⟩; have HE := (show crc 0xFFFF#16 (xs ++ ys) = crc 0xFFFF#16 vs by rw [hv.out, hu.out, List.nil_append]))
        | (go_at_call 20; (with_reducible refine (combine_join xs ys _ HM.out hy _).mono ?_); rintro e w1 ⟨rfl, hb1⟩; replace HB := Lib.hid (HB.out.trans (hb1.mono HB.out.size)); clear hb1)
        | (go_at_call 20; (with_reducible refine (combine_any _ _ k _).mono ?_); rintro e w1 ⟨rfl, hb1⟩; replace HB := Lib.hid (HB.out.trans (hb1.mono HB.out.size)); clear hb1)
        | (go_at_call 21; (with_reducible refine (rcombine_any _ _ k _).mono ?_); rintro e w1 ⟨rfl, hb1⟩; replace HB := Lib.hid (HB.out.trans (hb1.mono HB.out.size)); clear hb1))
      go_ret
      exact ⟨rfl, HB.out⟩

theorem run_min4 (P : Program) (n m l : Nat) : ∃ N : Nat, N ≤ n ∧ N ≤ m ∧ N ≤ l ∧ N ≤ 300 ∧ (N = n ∨ N = m ∨ N = l ∨ N = 300) ∧ ∀ (ts : Array TypeId) (t : TypeId) (w : World), (Builtin.min_ ts t #[.int .i64 n, .int .i64 m, .int .i64 l, .int .i64 300]).run P w = .ok (.int .i64 N) w := by
  refine ⟨min (min (min n m) l) 300, by omega, by omega, by omega, by omega, by omega, fun ts t w => ?_⟩
  simp [Builtin.min_, Builtin.min2]
  repeat' split
  all_goals first | omega | (congr 2; omega)

/-- The bytewise exclusive or. -/
def xor3 (us vs ws : List UInt8) : List UInt8 := List.zipWith (· ^^^ ·) (List.zipWith (· ^^^ ·) us vs) ws
theorem xor3_len {us vs ws : List UInt8} {N : Nat} (ha : us.length = N) (hb : vs.length = N) (hc : ws.length = N) : (xor3 us vs ws).length = N := by simp [xor3]; omega
theorem xor3_get {us vs ws : List UInt8} {N k : Nat} (ha : us.length = N) (hb : vs.length = N) (hc : ws.length = N) (hk : k < N) : (xor3 us vs ws).getD k 0 = (us.getD k 0 ^^^ vs.getD k 0) ^^^ ws.getD k 0 := by
  simp [xor3, List.getD, List.getElem?_zipWith, show k < us.length by omega, show k < vs.length by omega, show k < ws.length by omega]
theorem fill_next (V : List UInt8) (N k : Nat) (hV : V.length = N) (hk : k < N) : (V.take k ++ List.replicate (N - k) 0).set k (V.getD k 0) = V.take (k + 1) ++ List.replicate (N - (k + 1)) 0 := by
  rw [List.set_append_right _ _ (by simp; omega)]
  rw [show k - (V.take k).length = 0 by simp; omega, show N - k = (N - (k + 1)) + 1 by omega, List.replicate_succ, List.set_cons_zero, List.take_succ_eq_append_getElem (by omega), List.append_assoc]
  simp [List.getD, show k < V.length by omega]
theorem affine_eq {us vs ws : List UInt8} {N : Nat} (ha : us.length = N) (hb : vs.length = N) (hc : ws.length = N) :
    bits .xor .u16 (bits .xor .u16 ((crc 0xFFFF#16 us).toNat : Int) ((crc 0xFFFF#16 vs).toNat : Int)) ((crc 0xFFFF#16 ws).toNat : Int) = ((crc 0xFFFF#16 (xor3 us vs ws)).toNat : Int) := by
  rw [xor_u16, xor_u16]
  have h1 := crc_xor 0xFFFF#16 0xFFFF#16 us vs (by omega)
  have h2 := crc_xor (0xFFFF#16 ^^^ 0xFFFF#16) 0xFFFF#16 (List.zipWith (· ^^^ ·) us vs) ws (by simp; omega)
  rw [← h1, ← h2]
  rfl

theorem xor8_eq (a b c : UInt8) : Value.int .u8 (bits .xor .u8 (bits .xor .u8 (a.toNat : Int) (b.toNat : Int)) (c.toNat : Int)) = bv ((a ^^^ b) ^^^ c) := by
  unfold bv
  rw [u8_xor_nat _ _ a.toNat_lt b.toNat_lt, ← UInt8.toNat_xor, u8_xor_nat _ _ (a ^^^ b).toNat_lt c.toNat_lt, ← UInt8.toNat_xor]

theorem affine_walk (p q r : Option Addr) (n c m d l e : Nat) (xs ys zs : List UInt8) (w : World) (hl : xs.length = n) (hm : ys.length = m) (hn : zs.length = l) (h : Bin w p c xs) (h' : Bin w q d ys) (h'' : Bin w r e zs) :
    Calls Try.prog 9 #[.slice p n c, .slice q m d, .slice r l e] w fun e w' => e = .returned (.bool true) ∧ Below w.heap.size w w' := by
  obtain ⟨N, n1, n2, n3, n4, n5, hmin⟩ := run_min4 Try.prog n m l
  obtain ⟨vx, hvx⟩ : ∃ v, v = xs.take N := ⟨_, rfl⟩
  obtain ⟨vy, hvy⟩ : ∃ v, v = ys.take N := ⟨_, rfl⟩
  obtain ⟨vz, hvz⟩ : ∃ v, v = zs.take N := ⟨_, rfl⟩
  have hA : vx.length = N := by rw [hvx]; simp; omega
  have hB : vy.length = N := by rw [hvy]; simp; omega
  have hC : vz.length = N := by rw [hvz]; simp; omega
  have HP := Lib.hid (hvx ▸ h.upto N (by omega) : Bin w p c vx)
  have HR := Lib.hid (hvy ▸ h'.upto N (by omega) : Bin w q d vy)
  have HS := Lib.hid (hvz ▸ h''.upto N (by omega) : Bin w r e vz)
  clear hvx hvy hvz
  have pm : ∀ p : Option Addr, p.map (fun x => x.add 0) = p := fun p => by cases p <;> simp [Addr.add]
  have k1 : (N : Int) ≤ c := by have := h.cap; omega
  have k2 : (N : Int) ≤ d := by have := h'.cap; omega
  have k3 : (N : Int) ≤ e := by have := h''.cap; omega
  have k0 : (0 : Int) ≤ N := by omega
  by_cases h0 : N = 0
  · subst h0
    go_enter Try.func9, Try.ntmps9
    go_wp2_with (at_make; refine wpList_make_zeros rfl _ _ 22 rfl w.heap.size 5 Try.underlying22 info_u8 _ _ _ _ 0 rfl rfl rfl rfl (by omega) (Nat.le_refl _) ?_; intro w1 ho1 hb1)
    refine wp_loop_rounds 1 ?_
    rw [rounds_succ]
    go_wp2_with fail
    replace ho1 : Own w1 w.heap.size 5 (.slice (some ⟨w.heap.size, 0, none⟩) 0 0) (xor3 vx vy vz) := by
      rw [show xor3 vx vy vz = [] from List.eq_nil_of_length_eq_zero (xor3_len hA hB hC)]; exact ho1
    have hW : ∀ W, Below w1.heap.size w1 W → Below w.heap.size w W := fun W hb => hb1.trans (hb.mono hb1.size)
    have HW := Lib.hid hW
    have HO := Lib.hid ho1
    have HQ := affine_eq hA hB hC
    have HA := Lib.hid hA
    have HB := Lib.hid hB
    have HC := Lib.hid hC
    have HV := Lib.hid (xor3_len hA hB hC)
    clear hW hb1 ho1 hA hB hC
    go_region_held3 (fun W => Below w1.heap.size w1 W)
      (first | assumption | exact (Below.refl _ _).drew | exact Below.trans (by assumption) (Below.mono (by assumption) (Below.size (by assumption))))
      (first
        | (go_at_call 11; (with_reducible refine (sum_any _ _ c vx _ HA.out (HP.out.kept (HW.out _ (by assumption)))).mono ?_); rintro e w2 ⟨rfl, rfl⟩)
        | (go_at_call 11; (with_reducible refine (sum_any _ _ d vy _ HB.out (HR.out.kept (HW.out _ (by assumption)))).mono ?_); rintro e w2 ⟨rfl, rfl⟩)
        | (go_at_call 11; (with_reducible refine (sum_any _ _ e vz _ HC.out (HS.out.kept (HW.out _ (by assumption)))).mono ?_); rintro e w2 ⟨rfl, rfl⟩)
        | (go_at_call 11; (with_reducible refine (sum_any _ _ _ (xor3 vx vy vz) _ HV.out (HO.out.bin.2.kept (by assumption))).mono ?_); rintro e w2 ⟨rfl, rfl⟩)
        | (go_at_call 10; (with_reducible refine (examples_any _).mono ?_); rintro e w2 ⟨rfl, hb2⟩))
    go_wp2
    go_ret
    exact ⟨rfl, HW.out _ (by assumption)⟩
  · rcases h.parts with rfl | ⟨_, b1, o1, rfl⟩
    · simp at hl; omega
    rcases h'.parts with rfl | ⟨_, b2, o2, rfl⟩
    · simp at hm; omega
    rcases h''.parts with rfl | ⟨_, b3, o3, rfl⟩
    · simp at hn; omega
    have hN : 0 < N := by omega
    have HX := Lib.hid (fun (k : Nat) (hk : k < N) => xor3_get hA hB hC hk)
    have HVL := Lib.hid (xor3_len hA hB hC)
    go_enter Try.func9, Try.ntmps9
    go_wp2_with (at_make; refine wpList_make_zeros rfl _ _ 22 rfl w.heap.size 5 Try.underlying22 info_u8 _ _ _ _ N rfl rfl rfl rfl (by omega) (Nat.le_refl _) ?_; intro w1 ho1 hb1)
    go_loopw [21] (fun i wr => ∃ (k : Nat) (us : List UInt8), k ≤ N ∧ i = .int .i64 k ∧ Hid (us = (xor3 vx vy vz).take k ++ List.replicate (N - k) 0) ∧ Hid (Own wr w.heap.size 5 (.slice (some ⟨w.heap.size, 0, none⟩) N N) us) ∧ Hid (Below w.heap.size w wr)) (fun i _ => N - (intOf i).toNat)
    case atStart => exact ⟨0, List.replicate N 0, Nat.zero_le _, rfl, by simp [Hid], ho1, hb1⟩
    case round =>
      obtain ⟨k, us, hk, rfl, hu, ho, hbw⟩ := hrel
      have hus : us.length = N := (ho.out.bin.1).symm
      by_cases hkN : k < N
      · have q1 := (HP.out.kept hbw.out).cell k (by omega)
        have q2 := (HR.out.kept hbw.out).cell k (by omega)
        have q3 := (HS.out.kept hbw.out).cell k (by omega)
        have q4 := ho.out.bin.2.cell k (by omega)
        have q5 := (ho.out.free k).2
        rw [Nat.zero_add] at q4
        have hv := HX.out k hkN
        generalize vx.getD k 0 = dx at q1 hv
        generalize vy.getD k 0 = dy at q2 hv
        generalize vz.getD k 0 = dz at q3 hv
        generalize us.getD k 0 = du at q4
        have HD := Lib.hid hv
        have HU := Lib.hid hus
        clear hv hus
        have b1' : (0 : Int) ≤ k := by omega
        have b2' : (k : Int) < n := by omega
        have b3' : (k : Int) < m := by omega
        have b4' : (k : Int) < l := by omega
        have b5' : (k : Int) < N := by omega
        go_wp2_with fail
        go_region
        all_goals go_wp2
        go_roundw
        case rel =>
          refine ⟨k + 1, us.set k ((dx ^^^ dy) ^^^ dz), by omega, by go_num, ?_, ?_, Lib.hid ((hbw.out.setCell (p := ⟨w.heap.size, k, none⟩) (Nat.le_refl _) _).drew)⟩
          · show us.set k _ = _
            rw [← HD.out, hu.out]; exact fill_next _ N k HVL.out hkN
          · rw [xor8_eq]; exact (ho.out.set k _).below (Below.refl _ _).drew
        case measure => simp [intOf]; omega
      · obtain rfl : k = N := by omega
        have hus2 : us = xor3 vx vy vz := by rw [hu.out, List.take_of_length_le (by rw [HVL.out]; exact Nat.le_refl _), Nat.sub_self]; simp
        subst hus2
        have hb1 := hbw.out
        have ho1 := ho.out
        clear hus ho hbw hu
        go_wp2_with fail
        have hW : ∀ W, Below wr.heap.size wr W → Below w.heap.size w W := fun W hb => hb1.trans (hb.mono hb1.size)
        have HW := Lib.hid hW
        have HO := Lib.hid ho1
        have HQ := affine_eq hA hB hC
        have HA := Lib.hid hA
        have HY := Lib.hid hB
        have HC := Lib.hid hC
        have HV := Lib.hid (xor3_len hA hB hC)
        clear hW hb1 ho1 hA hB hC
        go_region_held3 (fun W => Below wr.heap.size wr W)
          (first | assumption | exact (Below.refl _ _).drew | exact Below.trans (by assumption) (Below.mono (by assumption) (Below.size (by assumption))))
          (first
            | (go_at_call 11; (with_reducible refine (sum_any _ _ c vx _ HA.out (HP.out.kept (HW.out _ (by assumption)))).mono ?_); rintro e w2 ⟨rfl, rfl⟩)
            | (go_at_call 11; (with_reducible refine (sum_any _ _ d vy _ HY.out (HR.out.kept (HW.out _ (by assumption)))).mono ?_); rintro e w2 ⟨rfl, rfl⟩)
            | (go_at_call 11; (with_reducible refine (sum_any _ _ e vz _ HC.out (HS.out.kept (HW.out _ (by assumption)))).mono ?_); rintro e w2 ⟨rfl, rfl⟩)
            | (go_at_call 11; (with_reducible refine (sum_any _ _ _ (xor3 vx vy vz) _ HV.out (HO.out.bin.2.kept (by assumption))).mono ?_); rintro e w2 ⟨rfl, rfl⟩)
            | (go_at_call 10; (with_reducible refine (examples_any _).mono ?_); rintro e w2 ⟨rfl, hb2⟩))
        go_wp2
        go_ret
        exact ⟨rfl, HW.out _ (by assumption)⟩
end Go.Proofs.Ythfnadmbakcgcaa
