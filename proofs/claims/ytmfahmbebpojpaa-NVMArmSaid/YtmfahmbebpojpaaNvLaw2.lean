/-
  LAYER 7 (nvm): the statements' Off.
-/
import Derived.Test.YtmfahmbebpojpaaNvLaw1
import Derived.Test.YtmfahmbebpojpaaNvOps
namespace Go.Proofs.Ytmfahmbebpojpaa
open Go Go.RowKit Go.IntWalk
set_option linter.unusedSimpArgs false
set_option maxRecDepth 8000

theorem wr1_off (s : NV) (a : Int) (x : UInt8) (h : s.off = true) : wr1 s a x = (s, false) := by simp [wr1, h]
theorem wrs_off (s : NV) (a : Int) (xs : List UInt8) (h : s.off = true) : wrs s a xs = (s, false) := by
  unfold wrs
  split
  · cases xs with
    | nil => simp [wrL, h]
    | cons x xs => simp [wrL, wr1_off s a x h]
  · rfl
theorem rds_all (s : NV) (h : s.off = false) : rds s 0 s.B.length = s.B := by
  have hv : validB s.B.length 0 s.B.length = true := validB_iff.2 ⟨by omega, by omega, by omega⟩
  simp [rds, hv, h]
theorem rds_off (s : NV) (h : s.off = true) : rds s 0 s.B.length = List.replicate s.B.length 0 := by
  have hv : validB s.B.length 0 s.B.length = true := validB_iff.2 ⟨by omega, by omega, by omega⟩
  simp [rds, hv, h]
set_option maxHeartbeats 4000000 in
theorem off_law (p : Option Addr) (n c : Nat) (xs : List UInt8) (a v : Int) (w0 : World) (hl : xs.length = n) (hx : Bin w0 p c xs) :
    Calls Try.prog 7 #[.slice p n c, .int .i64 a, .int .i16 v] w0 fun e w' => e = .returned (.bool true) ∧ Below w0.heap.size w0 w' := by
  have HX := Lib.hid hx
  have HL := Lib.hid hl
  clear hx hl
  by_cases hn1 : (64 : Int) < (n : Int)
  · go_enter Try.func7, Try.ntmps7
    go_wp2_with (go_at_call 9; (with_reducible refine (wakes_any _).mono ?_); rintro e w1 ⟨rfl, g0⟩)
    go_ret
    exact ⟨rfl, g0⟩
  by_cases hn0 : n = 0
  · subst hn0
    go_enter Try.func7, Try.ntmps7
    go_wp2_with (go_at_call 9; (with_reducible refine (wakes_any _).mono ?_); rintro e w1 ⟨rfl, g0⟩)
    go_ret
    exact ⟨rfl, g0⟩
  have hnz : ((n : Int) == 0) = false := by simp; omega
  have hn2 : n ≤ 64 := by omega
  have HNew : Hid (∀ W : World, Calls Try.prog 11 #[.int .i64 n] W fun e w' => ∃ g q, e = .returned (.tuple #[.pointer (some ⟨q, 0, none⟩), .int .i64 0]) ∧ NvS w' g q (nv0 n) ∧ Grew W w' ∧ W.heap.size ≤ g ∧ W.heap.size ≤ q) := Lib.hid fun W => by
    have := new_any n W (by omega)
    rwa [Int.toNat_natCast] at this
  have hlen : xs.length = (nv0 n).B.length := by rw [HL.out]; simp [nv0]
  have HLd : Hid (∀ (g q : Nat) (W : World), NvS W g q (nv0 n) → Bin W p c xs → Calls Try.prog 28 #[.pointer (some ⟨q, 0, none⟩), .slice p n c] W fun e w' => e = .returned (.int .i64 0) ∧ NvS w' g q { nv0 n with B := xs } ∧ Chg W w' (Nvb g q .no)) := Lib.hid fun g q W h hb => by
    have := load_any g q _ p n c xs W h HL.out hb
    rwa [if_pos hlen, ldS, if_pos hlen] at this
  obtain ⟨s2, hs2⟩ : ∃ s2 : NV, s2 = { nv0 n with B := xs, off := true } := ⟨_, rfl⟩
  have HPo : Hid (∀ (g q : Nat) (W : World), NvS W g q { nv0 n with B := xs } → Calls Try.prog 24 #[.pointer (some ⟨q, 0, none⟩)] W fun e w' => e = .returned (.tuple #[]) ∧ NvS w' g q s2 ∧ Chg W w' (Nvb g q .no)) := Lib.hid fun g q W h => by
    rw [hs2]
    exact poff_any g q _ W h
  have ho2 : s2.off = true := by rw [hs2]
  have HW : Hid (∀ (g q : Nat) (W : World), NvS W g q s2 → Calls Try.prog 19 #[.pointer (some ⟨q, 0, none⟩), .int .i64 a, .int .u8 (v % 256)] W fun e w' => e = .returned (.bool false) ∧ NvS w' g q s2 ∧ Chg W w' (Nvb g q .no)) := Lib.hid fun g q W h => by
    have := write_any g q s2 a (UInt8.ofNat (v % 256).toNat) W h
    have e : ((UInt8.ofNat (v % 256).toNat).toNat : Int) = v % 256 := by rw [UInt8.toNat_ofNat']; omega
    rw [wr1_off s2 a _ ho2, e] at this
    rw [hs2] at this ⊢
    exact this
  have HWW : Hid (∀ (g q : Nat) (W : World), NvS W g q s2 → Calls Try.prog 25 #[.pointer (some ⟨q, 0, none⟩), .int .i64 a, .int .i16 v] W fun e w' => e = .returned (.bool false) ∧ NvS w' g q s2 ∧ Chg W w' (Nvb g q .no)) := Lib.hid fun g q W h => by
    have := writeWord_any g q s2 a v W h
    rw [wrs_off s2 a _ ho2] at this
    rw [hs2] at this ⊢
    exact this
  have HWB : Hid (∀ (g q : Nat) (W : World), NvS W g q s2 → Bin W p c xs → (0 < xs.length → Away (Nvb g q .no) p) → Calls Try.prog 16 #[.pointer (some ⟨q, 0, none⟩), .int .i64 0, .slice p n c] W fun e w' => e = .returned (.bool false) ∧ NvS w' g q s2 ∧ Chg W w' (Nvb g q .no)) := Lib.hid fun g q W h hb ha => by
    have hm : s2.mt = .no := by rw [hs2]; rfl
    have := writeBytes_any g q s2 0 p n c xs W h HL.out hb (by rw [hm]; exact ha)
    rw [wrs_off s2 0 _ ho2, hm] at this
    exact this
  have HR : Hid (∀ (g q : Nat) (W : World), NvS W g q s2 → Calls Try.prog 27 #[.pointer (some ⟨q, 0, none⟩), .int .i64 a] W fun e w' => e = .returned (.int .u8 0) ∧ W = w') := Lib.hid fun g q W h => by
    have := read_any g q s2 a W h
    have e : rd1 s2 a = 0 := by simp [rd1, ho2]
    rwa [e] at this
  have HRW : Hid (∀ (g q : Nat) (W : World), NvS W g q s2 → Calls Try.prog 26 #[.pointer (some ⟨q, 0, none⟩), .int .i64 a] W fun e w' => e = .returned (.int .i16 0) ∧ Grew W w') := Lib.hid fun g q W h => by
    have := readWord_any g q s2 a W h
    have e : rdw s2 a = 0 := by simp [rdw, ho2]
    rwa [e] at this
  have HWr : Hid (∀ (g q : Nat) (W : World), NvS W g q s2 → Calls Try.prog 18 #[.pointer (some ⟨q, 0, none⟩)] W fun e w' => e = .returned (.int .i64 0) ∧ W = w') := Lib.hid fun g q W h => by
    have := writes_any g q s2 W h
    rw [hs2] at this
    exact this
  have HRB : Hid (∀ (g q : Nat) (W : World), NvS W g q s2 → Calls Try.prog 21 #[.pointer (some ⟨q, 0, none⟩), .int .i64 0, .int .i64 n] W fun e w' => ∃ p1 c1, e = .returned (.slice p1 n c1) ∧ Bin w' p1 c1 (List.replicate n 0) ∧ Grew W w') := Lib.hid fun g q W h => by
    have hl2 : s2.B.length = n := by rw [hs2]; exact HL.out
    have := readBytes_any g q s2 0 n W h (by omega)
    have e := rds_off s2 ho2
    rw [hl2] at e
    rw [e, List.length_replicate] at this
    refine this.mono ?_
    rintro e w1 ⟨p1, c1, rfl, h1, h2⟩
    exact ⟨p1, c1, rfl, h1.bin.2, h2⟩
  have HPn : Hid (∀ (g q : Nat) (W : World), NvS W g q s2 → Calls Try.prog 20 #[.pointer (some ⟨q, 0, none⟩)] W fun e w' => e = .returned (.tuple #[]) ∧ NvS w' g q { nv0 n with B := xs } ∧ Chg W w' (Nvb g q .no)) := Lib.hid fun g q W h => by
    have := pon_any g q s2 W h
    rw [hs2] at this
    exact this
  have HRD : Hid (∀ (g q : Nat) (W : World), NvS W g q { nv0 n with B := xs } → Calls Try.prog 21 #[.pointer (some ⟨q, 0, none⟩), .int .i64 0, .int .i64 n] W fun e w' => ∃ v, e = .returned v ∧ (Grew W w' ∧ IsB xs v w')) := Lib.hid fun g q W h => by
    have hl2 : ({ nv0 n with B := xs } : NV).B.length = n := HL.out
    have := readBytes_any g q _ 0 n W h (by omega)
    have e := rds_all { nv0 n with B := xs } rfl
    rw [hl2] at e
    rw [e] at this
    refine this.mono ?_
    rintro e w1 ⟨p1, c1, rfl, h1, h2⟩
    exact ⟨_, rfl, h2, p1, c1, rfl, h1.bin.2⟩
  clear hlen hs2 ho2 hn0
  go_enter Try.func7, Try.ntmps7
  go_wp2_with (first
    | (go_at_call 9; (with_reducible refine (wakes_any _).mono ?_); rintro e w1 ⟨rfl, g0⟩; have HB0 := Lib.hid g0; clear g0)
    | (go_at_call 11; (with_reducible refine (HNew.out _).mono ?_); rintro e w1 ⟨g, q, rfl, s1, g1, hg, hq⟩; have HS := Lib.hid s1; have HB := Lib.hid (Grew.trans HB0.out g1); have HN := Lib.hid (nvb_new (Nat.le_trans (Below.size HB0.out) hg) (Nat.le_trans (Below.size HB0.out) hq)); clear s1 g1 hg hq HNew HB0)
    | (go_at_call 28; (with_reducible refine (HLd.out g q _ HS.out (HX.out.gr HB.out)).mono ?_); rintro e w1 ⟨rfl, s1, c1⟩; replace HB := Lib.hid (grew_lift HB.out c1 HN.out); replace HS := Lib.hid s1; clear s1 c1 HLd)
    | (go_at_call 24; (with_reducible refine (HPo.out g q _ HS.out).mono ?_); rintro e w1 ⟨rfl, s1, c1⟩; replace HB := Lib.hid (grew_lift HB.out c1 HN.out); replace HS := Lib.hid s1; clear s1 c1 HPo)
    | (go_at_call 19; (with_reducible refine (HW.out g q _ HS.out).mono ?_); rintro e w1 ⟨rfl, s1, c1⟩; replace HB := Lib.hid (grew_lift HB.out c1 HN.out); replace HS := Lib.hid s1; clear s1 c1 HW)
    | (go_at_call 25; (with_reducible refine (HWW.out g q _ HS.out).mono ?_); rintro e w1 ⟨rfl, s1, c1⟩; replace HB := Lib.hid (grew_lift HB.out c1 HN.out); replace HS := Lib.hid s1; clear s1 c1 HWW)
    | (go_at_call 16; (with_reducible refine (HWB.out g q _ HS.out (HX.out.gr HB.out) (fun h => HX.out.sub HN.out h)).mono ?_); rintro e w1 ⟨rfl, s1, c1⟩; replace HB := Lib.hid (grew_lift HB.out c1 HN.out); replace HS := Lib.hid s1; clear s1 c1 HWB)
    | (go_at_call 27; (with_reducible refine (HR.out g q _ HS.out).mono ?_); rintro e _ ⟨rfl, rfl⟩; clear HR)
    | (go_at_call 26; (with_reducible refine (HRW.out g q _ HS.out).mono ?_); rintro e w1 ⟨rfl, g1⟩; replace HB := Lib.hid (Grew.trans HB.out g1); replace HS := Lib.hid (HS.out.grew g1); clear g1 HRW)
    | (go_at_call 18; (with_reducible refine (HWr.out g q _ HS.out).mono ?_); rintro e _ ⟨rfl, rfl⟩; clear HWr)
    | (go_at_call 21; (with_reducible refine (HRB.out g q _ HS.out).mono ?_); rintro e wz ⟨p1, c1, rfl, h1, g1⟩; replace HB := Lib.hid (Grew.trans HB.out g1); replace HS := Lib.hid (HS.out.grew g1); have HZ := Lib.hid h1; clear h1 g1 HRB))
  clear hnz
  go_loopg [79] n (fun gg iv wr => ∃ k : Nat, iv = .int .i64 (k : Int) ∧ k ≤ n ∧ gg = n - k ∧ wr = wz)
  case atStart => exact ⟨0, rfl, Nat.zero_le _, rfl, rfl⟩
  case round =>
    obtain ⟨k, rfl, hk, rfl, rfl⟩ := hrel
    by_cases hlt : k < n
    · have hz0 : 0 < (List.replicate n (0 : UInt8)).length := by simp; omega
      obtain ⟨b, o, rfl, -⟩ := HZ.out.cells hz0
      have hz1 := HZ.out.cell k (by simp; omega)
      have e : (List.replicate n (0 : UInt8)).getD k 0 = 0 := by simp [List.getD, hlt]
      rw [e] at hz1
      have hz2 : wr.cell? ⟨b, o + k, none⟩ = some (.int .u8 0) := hz1
      clear hz1 hz0 e
      go_wp2
      go_roundg (n - (k + 1))
      case measure => omega
      case rel => exact ⟨k + 1, by go_num, by omega, rfl, rfl⟩
    · obtain rfl : n = k := by omega
      go_wp2_with (go_at_call 20; (with_reducible refine (HPn.out g q _ HS.out).mono ?_); rintro e W ⟨rfl, s1, c1⟩; replace HB := Lib.hid (grew_lift HB.out c1 HN.out); replace HS := Lib.hid s1; clear s1 c1 HPn)
      replace HRD : Hid (∀ w, Grew W.drew w → _) := Lib.hid fun w hg => HRD.out g q w (HS.out.grew (Grew.trans (Grew.drew W) hg))
      replace HB := Lib.hid (Grew.trans HB.out (Grew.drew W))
      refine wp_posts [some 88, some 89, some 90, some 91, some 92, some 93, some 94, some 95, some 6] [false, false, false, false, false, false, true, false, false, false, false, false, false, false, false, false, false, false, false, false, false, false, false, false, false, false, false, false, false, false, false, false, false, false, false, false, false, false, false, false, false, false, false, false, false, false, false, false, false, false, false, false, false, false, false, false, false, false, false, false, false, false, false, false, false, false, false, false, false, false, false, false, false, false, false, false, false, false, false, false, false, false, false, false, false, false, false, false, true, true, true, true, true, true, true, true] [fun v _ => v = .pointer (some ⟨q, 0, none⟩), fun v _ => v = .slice p n c, fun v _ => v = .int .i64 (n : Int), fun v w => IsB xs v w, fun v _ => v = .string ⟨xs.toArray⟩, fun v _ => v = .slice p n c, fun v _ => v = .string ⟨xs.toArray⟩, fun v _ => v = .bool true, fun v _ => v = .bool true] (by kernel_rfl) (by kernel_rfl) rfl ?_ ⟨?_, ?_, ?_, ?_, ?_, ?_, ?_, ?_, ?_, trivial⟩ ?_
      · exact ⟨fun _ _ _ _ h => h, fun _ _ _ _ h => h, fun _ _ _ _ h => h, IsB.grew, fun _ _ _ _ h => h, fun _ _ _ _ h => h, fun _ _ _ _ h => h, fun _ _ _ _ h => h, fun _ _ _ _ h => h, trivial⟩
      · intro u w hR hd; exact runs_move ⟨Grew.refl _, rfl⟩
      · intro u w hR hd; exact runs_move ⟨Grew.refl _, rfl⟩
      · intro u w hR hd; exact runs_lenb (ev (hd.1 rfl)) ⟨Grew.refl _, rfl⟩
      · intro u w hR hd; exact runs_c3 enters_readBytes (ev (hd.1 rfl)) rfl (ev (hd.2.1 rfl)) (HRD.out w hR)
      · intro u w hR hd; exact (by obtain ⟨p1, c1, e1, b1⟩ := (hd.1 rfl); exact runs_convb (ev e1) rfl b1 ⟨Grew.refl _, rfl⟩)
      · intro u w hR hd; exact runs_move ⟨Grew.refl _, rfl⟩
      · intro u w hR hd; exact runs_convb (ev (hd.1 rfl)) HL.out (HX.out.kept (Grew.trans HB.out hR)) ⟨Grew.refl _, rfl⟩
      · intro u w hR hd; exact runs_eqls (ev (hd.1 rfl)) (ev (hd.2.1 rfl)) ⟨Grew.refl _, congrArg Value.bool (beq_self_eq_true xs)⟩
      · intro u w hR hd; exact runs_assign ⟨Grew.refl _, (hd.1 rfl)⟩
      · intro u w hR h
        have he : u 6 = .bool true := h 8 (by decide)
        simp only [mixA, mixL, cond_true, cond_false]
        rw [he]
        replace HB := Lib.hid (Grew.trans HB.out hR)
        go_wp2
        go_ret
        exact ⟨rfl, HB.out⟩
end Go.Proofs.Ytmfahmbebpojpaa
