/-
  LAYER 7 (nvm): the statements' same.
-/
import Derived.Test.YtmfahmbebpojpaaNvOps5
namespace Go.Proofs.Ytmfahmbebpojpaa
open Go Go.RowKit Go.IntWalk
set_option linter.unusedSimpArgs false
set_option maxRecDepth 8000

set_option maxHeartbeats 8000000 in
theorem same_any (g q : Nat) (s : NV) (x : RM) (p : Option Addr) (c : Nat) (a n : Int) (w0 : World) (h : NvS w0 g q s) (hx : Bin w0 p c x.B) (hB : s.B = x.B) (ho : s.off = x.off) (hw : s.wr = x.wr) (hn : n ≤ 9223372036854775807) :
    Calls Try.prog 14 #[.pointer (some ⟨q, 0, none⟩), rmv x p c, .int .i64 a, .int .i64 n] w0 fun e w' => e = .returned (.bool true) ∧ Grew w0 w' := by
  have hm : x.B.length ≤ 65536 := hB ▸ h.most
  obtain ⟨L, hL⟩ : ∃ L, L = rds s a n := ⟨_, rfl⟩
  obtain ⟨zw, hzw⟩ : ∃ zw, zw = rdw s a := ⟨_, rfl⟩
  have hL2 : rrd x a n = L := by rw [hL]; simp [rrd, rds, hB, ho]
  have hzw2 : rdw ⟨x.B, x.off, 0, .no, 0⟩ a = zw := by rw [hzw]; simp [rdw, hB, ho]
  have H := Lib.hid h
  have HX := Lib.hid hx
  have HOf0 : Hid (∀ w, Grew w0 w → Calls Try.prog 17 #[.pointer (some ⟨q, 0, none⟩)] w fun e w' => ∃ v, e = .returned v ∧ (Grew w w' ∧ v = .bool x.off)) := Lib.hid fun w hg => by
    refine (off_any g q s w (h.grew hg)).mono ?_
    rintro e w' ⟨rfl, rfl⟩
    exact ⟨_, rfl, Grew.refl _, by rw [ho]⟩
  have HWr0 : Hid (∀ w, Grew w0 w → Calls Try.prog 18 #[.pointer (some ⟨q, 0, none⟩)] w fun e w' => ∃ v, e = .returned v ∧ (Grew w w' ∧ v = .int .i64 x.wr)) := Lib.hid fun w hg => by
    refine (writes_any g q s w (h.grew hg)).mono ?_
    rintro e w' ⟨rfl, rfl⟩
    exact ⟨_, rfl, Grew.refl _, by rw [hw]⟩
  have HIm0 : Hid (∀ w, Grew w0 w → Calls Try.prog 29 #[.pointer (some ⟨q, 0, none⟩)] w fun e w' => ∃ v, e = .returned v ∧ (Grew w w' ∧ IsB x.B v w')) := Lib.hid fun w hg => by
    refine (image_any g q s w (h.grew hg)).mono ?_
    rintro e w' ⟨p1, c1, rfl, h1, h2⟩
    exact ⟨_, rfl, h2, p1, c1, by rw [hB], hB ▸ h1.bin.2⟩
  have HRd0 : Hid (∀ w, Grew w0 w → Calls Try.prog 27 #[.pointer (some ⟨q, 0, none⟩), .int .i64 a] w fun e w' => ∃ v, e = .returned v ∧ (Grew w w' ∧ v = .int .u8 ((rd1 s a).toNat : Int))) := Lib.hid fun w hg => by
    refine (read_any g q s a w (h.grew hg)).mono ?_
    rintro e w' ⟨rfl, rfl⟩
    exact ⟨_, rfl, Grew.refl _, rfl⟩
  have HRw0 : Hid (∀ w, Grew w0 w → Calls Try.prog 26 #[.pointer (some ⟨q, 0, none⟩), .int .i64 a] w fun e w' => ∃ v, e = .returned v ∧ (Grew w w' ∧ v = .int .i16 zw)) := Lib.hid fun w hg => by
    refine (readWord_any g q s a w (h.grew hg)).mono ?_
    rintro e w' ⟨rfl, h2⟩
    exact ⟨_, rfl, h2, by rw [hzw]⟩
  have HRRw0 : Hid (∀ w, Grew w0 w → Calls Try.prog 37 #[rmv x p c, .int .i64 a] w fun e w' => ∃ v, e = .returned v ∧ (Grew w w' ∧ v = .int .i16 zw)) := Lib.hid fun w hg => by
    refine (rreadWord_any x p c a w hm (hx.gr hg)).mono ?_
    rintro e w' ⟨rfl, h2⟩
    exact ⟨_, rfl, h2, by rw [hzw2]⟩
  have HRb0 : Hid (∀ w, Grew w0 w → Calls Try.prog 21 #[.pointer (some ⟨q, 0, none⟩), .int .i64 a, .int .i64 n] w fun e w' => ∃ v, e = .returned v ∧ (Grew w w' ∧ IsB L v w')) := Lib.hid fun w hg => by
    refine (readBytes_any g q s a n w (h.grew hg) hn).mono ?_
    rw [← hL]
    rintro e w' ⟨p1, c1, rfl, h1, h2⟩
    exact ⟨_, rfl, h2, p1, c1, rfl, h1.bin.2⟩
  have HRRb0 : Hid (∀ w, Grew w0 w → Calls Try.prog 38 #[rmv x p c, .int .i64 a, .int .i64 n] w fun e w' => ∃ v, e = .returned v ∧ (Grew w w' ∧ IsB L v w')) := Lib.hid fun w hg => by
    refine (rreadBytes_any x p c a n w hm (hx.gr hg) hn).mono ?_
    rw [hL2]
    rintro e w' ⟨p1, c1, rfl, h1, h2⟩
    exact ⟨_, rfl, h2, p1, c1, rfl, h1⟩
  have HV : Hid (∀ W, Calls Try.prog 36 #[rmv x p c, .int .i64 a, .int .i64 1] W fun e w' => e = .returned (.bool (validB x.B.length a 1)) ∧ w' = W.alloc (.cells (rmc x p c) 31)) := Lib.hid fun W => rvalid_any x p c a 1 W hm (by omega)
  have Hrd : Hid (rd1 s a = if x.off || !validB x.B.length a 1 then 0 else x.B.getD a.toNat 0) := Lib.hid (by simp [rd1, hB, ho])
  clear h hx hB ho hw hL hzw hL2 hzw2 hn
  go_enter Try.func14, Try.ntmps14
  go_wp2
  refine wp_at2 (fun W => BoxR w0.heap.size x p c W ∧ Grew w0 W) ⟨heap_alloc_new w0 _, (Grew.refl w0).al _⟩ ?_
  intro W hW
  have HBx : Hid (∀ w, Grew W.drew w → BoxR w0.heap.size x p c w) := Lib.hid fun w hg => hW.1.grew (Grew.trans (Grew.drew W) hg)
  have HT : Hid (∀ w, Grew W.drew w → Grew w0 w) := Lib.hid fun w hg => Grew.trans hW.2 (Grew.trans (Grew.drew W) hg)
  have HOf : Hid (∀ w, Grew W.drew w → _) := Lib.hid fun w hg => HOf0.out w (HT.out w hg)
  have HWr : Hid (∀ w, Grew W.drew w → _) := Lib.hid fun w hg => HWr0.out w (HT.out w hg)
  have HIm : Hid (∀ w, Grew W.drew w → _) := Lib.hid fun w hg => HIm0.out w (HT.out w hg)
  have HXB : Hid (∀ w, Grew W.drew w → Bin w p c x.B) := Lib.hid fun w hg => HX.out.gr (HT.out w hg)
  refine wp_posts [some 10, some 11, some 12, some 13, some 14, some 15, some 16, some 17, some 18, some 19, some 20, some 21, some 22, some 23, some 24, some 25, some 26, some 27, some 28, some 29, some 30] [false, false, false, false, false, false, false, false, false, false, true, true, true, true, true, true, true, true, true, true, true, true, true, true, true, true, true, true, true, true, true, false, false, false, false, false, false, false, false, false, false, false, false, false, false, false, false, false, false, false, false, false, false, false, false, false, false, false, false, false, false, false, false, false, false, false, false, false, false, false, false] [fun v _ => v = .pointer (some ⟨q, 0, none⟩), fun v _ => v = .bool x.off, fun v _ => v = .pointer (some ⟨w0.heap.size, 1, none⟩), fun v _ => v = .bool x.off, fun v _ => v = .bool false, fun v _ => v = .bool false, fun v _ => v = .pointer (some ⟨q, 0, none⟩), fun v _ => v = .int .i64 x.wr, fun v _ => v = .pointer (some ⟨w0.heap.size, 6, none⟩), fun v _ => v = .int .i64 x.wr, fun v _ => v = .bool false, fun v _ => v = .bool false, fun v _ => v = .bool false, fun v _ => v = .pointer (some ⟨q, 0, none⟩), fun v w => IsB x.B v w, fun v _ => v = .string ⟨x.B.toArray⟩, fun v _ => v = .pointer (some ⟨w0.heap.size, 0, none⟩), fun v _ => v = .slice p x.B.length c, fun v _ => v = .string ⟨x.B.toArray⟩, fun v _ => v = .bool false, fun v _ => v = .bool false] (by kernel_rfl) (by kernel_rfl) rfl ?_ ⟨?_, ?_, ?_, ?_, ?_, ?_, ?_, ?_, ?_, ?_, ?_, ?_, ?_, ?_, ?_, ?_, ?_, ?_, ?_, ?_, ?_, trivial⟩ ?_
  · exact ⟨fun _ _ _ _ h => h, fun _ _ _ _ h => h, fun _ _ _ _ h => h, fun _ _ _ _ h => h, fun _ _ _ _ h => h, fun _ _ _ _ h => h, fun _ _ _ _ h => h, fun _ _ _ _ h => h, fun _ _ _ _ h => h, fun _ _ _ _ h => h, fun _ _ _ _ h => h, fun _ _ _ _ h => h, fun _ _ _ _ h => h, fun _ _ _ _ h => h, IsB.grew, fun _ _ _ _ h => h, fun _ _ _ _ h => h, fun _ _ _ _ h => h, fun _ _ _ _ h => h, fun _ _ _ _ h => h, fun _ _ _ _ h => h, trivial⟩
  · intro u w hR hd; exact runs_move ⟨Grew.refl _, rfl⟩
  · intro u w hR hd; exact runs_c1 enters_off (ev (hd.1 rfl)) (HOf.out w hR)
  · intro u w hR hd; exact runs_fldm1 (ev rfl) ⟨Grew.refl _, rfl⟩
  · intro u w hR hd; exact runs_ldb (ev (hd.1 rfl)) (HBx.out w hR).c1 ⟨Grew.refl _, rfl⟩
  · intro u w hR hd; exact runs_neqb (ev (hd.1 rfl)) (ev (hd.2.1 rfl)) ⟨Grew.refl _, congrArg Value.bool (bne_self_eq_false x.off)⟩
  · intro u w hR hd; exact runs_move ⟨Grew.refl _, (hd.1 rfl)⟩
  · intro u w hR hd; exact ⟨fun _ => runs_move ⟨Grew.refl _, rfl⟩, fun hn => absurd (hd.1 rfl) hn⟩
  · intro u w hR hd; exact ⟨fun _ => runs_c1 enters_writes (ev (hd.1 rfl)) (HWr.out w hR), fun hn => absurd (hd.2.1 rfl) hn⟩
  · intro u w hR hd; exact ⟨fun _ => runs_fldm6 (ev rfl) ⟨Grew.refl _, rfl⟩, fun hn => absurd (hd.1 rfl) hn⟩
  · intro u w hR hd; exact ⟨fun _ => runs_ld64 (ev (hd.1 rfl)) (HBx.out w hR).c6 ⟨Grew.refl _, rfl⟩, fun hn => absurd (hd.2.1 rfl) hn⟩
  · intro u w hR hd; exact ⟨fun _ => runs_neql (ev (hd.1 rfl)) (ev (hd.2.1 rfl)) ⟨Grew.refl _, congrArg Value.bool (bne_self_eq_false x.wr)⟩, fun hn => absurd (hd.2.2.1 rfl) hn⟩
  · intro u w hR hd; exact runs_orb (ev (hd.1 rfl)) (fun _ => ev (hd.2.1 rfl)) ⟨Grew.refl _, rfl⟩
  · intro u w hR hd; exact runs_move ⟨Grew.refl _, (hd.1 rfl)⟩
  · intro u w hR hd; exact ⟨fun _ => runs_move ⟨Grew.refl _, rfl⟩, fun hn => absurd (hd.1 rfl) hn⟩
  · intro u w hR hd; exact ⟨fun _ => runs_c1 enters_image (ev (hd.1 rfl)) (HIm.out w hR), fun hn => absurd (hd.2.1 rfl) hn⟩
  · intro u w hR hd; exact ⟨fun _ => (by obtain ⟨p1, c1, e1, b1⟩ := (hd.1 rfl); exact runs_convb (ev e1) rfl b1 ⟨Grew.refl _, rfl⟩), fun hn => absurd (hd.2.1 rfl) hn⟩
  · intro u w hR hd; exact ⟨fun _ => runs_fldm0 (ev rfl) ⟨Grew.refl _, rfl⟩, fun hn => absurd (hd.1 rfl) hn⟩
  · intro u w hR hd; exact ⟨fun _ => runs_lds (ev (hd.1 rfl)) (HBx.out w hR).c0 ⟨Grew.refl _, rfl⟩, fun hn => absurd (hd.2.1 rfl) hn⟩
  · intro u w hR hd; exact ⟨fun _ => runs_convb (ev (hd.1 rfl)) rfl (HXB.out w hR) ⟨Grew.refl _, rfl⟩, fun hn => absurd (hd.2.1 rfl) hn⟩
  · intro u w hR hd; exact ⟨fun _ => runs_neqs (ev (hd.1 rfl)) (ev (hd.2.1 rfl)) ⟨Grew.refl _, congrArg Value.bool (bne_self_eq_false x.B)⟩, fun hn => absurd (hd.2.2.1 rfl) hn⟩
  · intro u w hR hd; exact runs_orb (ev (hd.1 rfl)) (fun _ => ev (hd.2.1 rfl)) ⟨Grew.refl _, rfl⟩
  intro u w hR h
  have he : u 30 = .bool false := h 20 (by decide)
  have HB2 := Lib.hid (HBx.out w hR)
  have HG2 := Lib.hid (HT.out w hR)
  simp only [mixA, mixL, cond_true, cond_false]
  rw [he]
  clear h he hR HBx HOf HWr HIm HXB HT hW HOf0 HWr0 HIm0
  obtain ⟨b0, b1, b2, b3, b4, b5, b6, -⟩ := box7 HB2.out
  have hlt := lt_of_heap HB2.out
  cases hv : validB x.B.length a 1 with
  | false =>
    rw [hv] at HV
    have hrd : rd1 s a = 0 := by rw [Hrd.out, hv]; simp
    rw [hrd] at HRd0
    clear hrd hv Hrd
    go_wp2_with (go_at_call 36; (with_reducible refine (HV.out _).mono ?_); rintro e w1 ⟨rfl, rfl⟩)
    refine wp_at2 (fun W => BoxR w0.heap.size x p c W ∧ Grew w0 W) ⟨HB2.out.grew ((Grew.refl w).al _), HG2.out.al _⟩ ?_
    intro W hW
    have HBx2 : Hid (∀ w, Grew W.drew w → BoxR w0.heap.size x p c w) := Lib.hid fun w hg => hW.1.grew (Grew.trans (Grew.drew W) hg)
    have HT : Hid (∀ w, Grew W.drew w → Grew w0 w) := Lib.hid fun w hg => Grew.trans hW.2 (Grew.trans (Grew.drew W) hg)
    have HRd : Hid (∀ w, Grew W.drew w → _) := Lib.hid fun w hg => HRd0.out w (HT.out w hg)
    have HRw : Hid (∀ w, Grew W.drew w → _) := Lib.hid fun w hg => HRw0.out w (HT.out w hg)
    have HRRw : Hid (∀ w, Grew W.drew w → _) := Lib.hid fun w hg => HRRw0.out w (HT.out w hg)
    have HRb : Hid (∀ w, Grew W.drew w → _) := Lib.hid fun w hg => HRb0.out w (HT.out w hg)
    have HRRb : Hid (∀ w, Grew W.drew w → _) := Lib.hid fun w hg => HRRb0.out w (HT.out w hg)
    refine wp_posts [some 44, some 45, some 46, some 47, some 48, some 49, some 50, some 51, some 52, some 53, some 54, some 55, some 56, some 57, some 58, some 59, some 60, some 61, some 62, some 63, some 64, some 65, some 66, some 67, some 68, some 69, some 70, some 8] [false, false, false, false, false, false, false, false, true, false, false, false, false, false, false, false, false, false, false, false, false, false, false, false, false, false, false, false, false, false, false, false, false, false, false, false, false, false, false, false, false, false, false, false, true, true, true, true, true, true, true, true, true, true, true, true, true, true, true, true, true, true, true, true, true, true, true, true, true, true, true] [fun v _ => v = .pointer (some ⟨q, 0, none⟩), fun v _ => v = .int .i64 a, fun v _ => v = .int .u8 0, fun v _ => v = .int .u8 0, fun v _ => v = .bool true, fun v _ => v = .bool true, fun v _ => v = .pointer (some ⟨q, 0, none⟩), fun v _ => v = .int .i64 a, fun v _ => v = .int .i16 zw, fun v _ => v = rmv x p c, fun v _ => v = .int .i64 a, fun v _ => v = .int .i16 zw, fun v _ => v = .bool true, fun v _ => v = .bool true, fun v _ => v = .bool true, fun v _ => v = .pointer (some ⟨q, 0, none⟩), fun v _ => v = .int .i64 a, fun v _ => v = .int .i64 n, fun v w => IsB L v w, fun v _ => v = .string ⟨L.toArray⟩, fun v _ => v = rmv x p c, fun v _ => v = .int .i64 a, fun v _ => v = .int .i64 n, fun v w => IsB L v w, fun v _ => v = .string ⟨L.toArray⟩, fun v _ => v = .bool true, fun v _ => v = .bool true, fun v _ => v = .bool true] (by kernel_rfl) (by kernel_rfl) rfl ?_ ⟨?_, ?_, ?_, ?_, ?_, ?_, ?_, ?_, ?_, ?_, ?_, ?_, ?_, ?_, ?_, ?_, ?_, ?_, ?_, ?_, ?_, ?_, ?_, ?_, ?_, ?_, ?_, ?_, trivial⟩ ?_
    · exact ⟨fun _ _ _ _ h => h, fun _ _ _ _ h => h, fun _ _ _ _ h => h, fun _ _ _ _ h => h, fun _ _ _ _ h => h, fun _ _ _ _ h => h, fun _ _ _ _ h => h, fun _ _ _ _ h => h, fun _ _ _ _ h => h, fun _ _ _ _ h => h, fun _ _ _ _ h => h, fun _ _ _ _ h => h, fun _ _ _ _ h => h, fun _ _ _ _ h => h, fun _ _ _ _ h => h, fun _ _ _ _ h => h, fun _ _ _ _ h => h, fun _ _ _ _ h => h, IsB.grew, fun _ _ _ _ h => h, fun _ _ _ _ h => h, fun _ _ _ _ h => h, fun _ _ _ _ h => h, IsB.grew, fun _ _ _ _ h => h, fun _ _ _ _ h => h, fun _ _ _ _ h => h, fun _ _ _ _ h => h, trivial⟩
    · intro u w hR hd; exact runs_move ⟨Grew.refl _, rfl⟩
    · intro u w hR hd; exact runs_move ⟨Grew.refl _, rfl⟩
    · intro u w hR hd; exact runs_c2 enters_read (ev (hd.1 rfl)) (ev (hd.2.1 rfl)) (HRd.out w hR)
    · intro u w hR hd; exact runs_move ⟨Grew.refl _, rfl⟩
    · intro u w hR hd; exact runs_eql8 (ev (hd.1 rfl)) (ev (hd.2.1 rfl)) ⟨Grew.refl _, congrArg Value.bool (beq_self_eq_true _)⟩
    · intro u w hR hd; exact runs_move ⟨Grew.refl _, (hd.1 rfl)⟩
    · intro u w hR hd; exact ⟨fun _ => runs_move ⟨Grew.refl _, rfl⟩, fun hn => absurd (hd.1 rfl) hn⟩
    · intro u w hR hd; exact ⟨fun _ => runs_move ⟨Grew.refl _, rfl⟩, fun hn => absurd (hd.1 rfl) hn⟩
    · intro u w hR hd; exact ⟨fun _ => runs_c2 enters_readWord (ev (hd.1 rfl)) (ev (hd.2.1 rfl)) (HRw.out w hR), fun hn => absurd (hd.2.2.1 rfl) hn⟩
    · intro u w hR hd; exact ⟨fun _ => runs_ldm (ev rfl) (HBx2.out w hR) ⟨Grew.refl _, rfl⟩, fun hn => absurd (hd.1 rfl) hn⟩
    · intro u w hR hd; exact ⟨fun _ => runs_move ⟨Grew.refl _, rfl⟩, fun hn => absurd (hd.1 rfl) hn⟩
    · intro u w hR hd; exact ⟨fun _ => runs_c2 enters_rreadWord (ev (hd.1 rfl)) (ev (hd.2.1 rfl)) (HRRw.out w hR), fun hn => absurd (hd.2.2.2.1 rfl) hn⟩
    · intro u w hR hd; exact ⟨fun _ => runs_eql16 (ev (hd.1 rfl)) (ev (hd.2.1 rfl)) ⟨Grew.refl _, congrArg Value.bool (beq_self_eq_true _)⟩, fun hn => absurd (hd.2.2.1 rfl) hn⟩
    · intro u w hR hd; exact runs_andb (ev (hd.1 rfl)) (fun _ => ev (hd.2.1 rfl)) ⟨Grew.refl _, rfl⟩
    · intro u w hR hd; exact runs_move ⟨Grew.refl _, (hd.1 rfl)⟩
    · intro u w hR hd; exact ⟨fun _ => runs_move ⟨Grew.refl _, rfl⟩, fun hn => absurd (hd.1 rfl) hn⟩
    · intro u w hR hd; exact ⟨fun _ => runs_move ⟨Grew.refl _, rfl⟩, fun hn => absurd (hd.1 rfl) hn⟩
    · intro u w hR hd; exact ⟨fun _ => runs_move ⟨Grew.refl _, rfl⟩, fun hn => absurd (hd.1 rfl) hn⟩
    · intro u w hR hd; exact ⟨fun _ => runs_c3 enters_readBytes (ev (hd.1 rfl)) (ev (hd.2.1 rfl)) (ev (hd.2.2.1 rfl)) (HRb.out w hR), fun hn => absurd (hd.2.2.2.1 rfl) hn⟩
    · intro u w hR hd; exact ⟨fun _ => (by obtain ⟨p1, c1, e1, b1⟩ := (hd.1 rfl); exact runs_convb (ev e1) rfl b1 ⟨Grew.refl _, rfl⟩), fun hn => absurd (hd.2.1 rfl) hn⟩
    · intro u w hR hd; exact ⟨fun _ => runs_ldm (ev rfl) (HBx2.out w hR) ⟨Grew.refl _, rfl⟩, fun hn => absurd (hd.1 rfl) hn⟩
    · intro u w hR hd; exact ⟨fun _ => runs_move ⟨Grew.refl _, rfl⟩, fun hn => absurd (hd.1 rfl) hn⟩
    · intro u w hR hd; exact ⟨fun _ => runs_move ⟨Grew.refl _, rfl⟩, fun hn => absurd (hd.1 rfl) hn⟩
    · intro u w hR hd; exact ⟨fun _ => runs_c3 enters_rreadBytes (ev (hd.1 rfl)) (ev (hd.2.1 rfl)) (ev (hd.2.2.1 rfl)) (HRRb.out w hR), fun hn => absurd (hd.2.2.2.2.1 rfl) hn⟩
    · intro u w hR hd; exact ⟨fun _ => (by obtain ⟨p1, c1, e1, b1⟩ := (hd.1 rfl); exact runs_convb (ev e1) rfl b1 ⟨Grew.refl _, rfl⟩), fun hn => absurd (hd.2.1 rfl) hn⟩
    · intro u w hR hd; exact ⟨fun _ => runs_eqls (ev (hd.1 rfl)) (ev (hd.2.1 rfl)) ⟨Grew.refl _, congrArg Value.bool (beq_self_eq_true _)⟩, fun hn => absurd (hd.2.2.1 rfl) hn⟩
    · intro u w hR hd; exact runs_andb (ev (hd.1 rfl)) (fun _ => ev (hd.2.1 rfl)) ⟨Grew.refl _, rfl⟩
    · intro u w hR hd; exact runs_assign ⟨Grew.refl _, (hd.1 rfl)⟩
    intro u w hR h
    have he : u 8 = .bool true := h 27 (by decide)
    simp only [mixA, mixL, cond_true, cond_false]
    rw [he]
    have HG3 := Lib.hid (HT.out w hR)
    clear h he hR
    go_wp2
    go_ret
    exact ⟨rfl, HG3.out⟩
  | true =>
    obtain ⟨ha0, -, ha1⟩ := validB_iff.1 hv
    obtain ⟨k, rfl⟩ : ∃ k : Nat, a = (k : Int) := ⟨a.toNat, by omega⟩
    have hk : k < x.B.length := by omega
    rw [hv] at HV
    cases hxo : x.off with
    | true =>
      rw [hxo] at b1
      simp only [rmv, rmc, hxo] at HV
      have hrd : rd1 s k = 0 := by rw [Hrd.out, hxo]; simp
      rw [hrd] at HRd0
      clear hrd hv Hrd hxo
      go_wp2_with (go_at_call 36; (with_reducible refine (HV.out _).mono ?_); rintro e w1 ⟨rfl, rfl⟩)
      refine wp_at2 (fun W => BoxR w0.heap.size x p c W ∧ Grew w0 W) ⟨HB2.out.grew ((Grew.refl w).al _), HG2.out.al _⟩ ?_
      intro W hW
      have HBx2 : Hid (∀ w, Grew W.drew w → BoxR w0.heap.size x p c w) := Lib.hid fun w hg => hW.1.grew (Grew.trans (Grew.drew W) hg)
      have HT : Hid (∀ w, Grew W.drew w → Grew w0 w) := Lib.hid fun w hg => Grew.trans hW.2 (Grew.trans (Grew.drew W) hg)
      have HRd : Hid (∀ w, Grew W.drew w → _) := Lib.hid fun w hg => HRd0.out w (HT.out w hg)
      have HRw : Hid (∀ w, Grew W.drew w → _) := Lib.hid fun w hg => HRw0.out w (HT.out w hg)
      have HRRw : Hid (∀ w, Grew W.drew w → _) := Lib.hid fun w hg => HRRw0.out w (HT.out w hg)
      have HRb : Hid (∀ w, Grew W.drew w → _) := Lib.hid fun w hg => HRb0.out w (HT.out w hg)
      have HRRb : Hid (∀ w, Grew W.drew w → _) := Lib.hid fun w hg => HRRb0.out w (HT.out w hg)
      refine wp_posts [some 44, some 45, some 46, some 47, some 48, some 49, some 50, some 51, some 52, some 53, some 54, some 55, some 56, some 57, some 58, some 59, some 60, some 61, some 62, some 63, some 64, some 65, some 66, some 67, some 68, some 69, some 70, some 8] [false, false, false, false, false, false, false, false, true, false, false, false, false, false, false, false, false, false, false, false, false, false, false, false, false, false, false, false, false, false, false, false, false, false, false, false, false, false, false, false, false, false, false, false, true, true, true, true, true, true, true, true, true, true, true, true, true, true, true, true, true, true, true, true, true, true, true, true, true, true, true] [fun v _ => v = .pointer (some ⟨q, 0, none⟩), fun v _ => v = .int .i64 (k : Int), fun v _ => v = .int .u8 0, fun v _ => v = .int .u8 0, fun v _ => v = .bool true, fun v _ => v = .bool true, fun v _ => v = .pointer (some ⟨q, 0, none⟩), fun v _ => v = .int .i64 (k : Int), fun v _ => v = .int .i16 zw, fun v _ => v = rmv x p c, fun v _ => v = .int .i64 (k : Int), fun v _ => v = .int .i16 zw, fun v _ => v = .bool true, fun v _ => v = .bool true, fun v _ => v = .bool true, fun v _ => v = .pointer (some ⟨q, 0, none⟩), fun v _ => v = .int .i64 (k : Int), fun v _ => v = .int .i64 n, fun v w => IsB L v w, fun v _ => v = .string ⟨L.toArray⟩, fun v _ => v = rmv x p c, fun v _ => v = .int .i64 (k : Int), fun v _ => v = .int .i64 n, fun v w => IsB L v w, fun v _ => v = .string ⟨L.toArray⟩, fun v _ => v = .bool true, fun v _ => v = .bool true, fun v _ => v = .bool true] (by kernel_rfl) (by kernel_rfl) rfl ?_ ⟨?_, ?_, ?_, ?_, ?_, ?_, ?_, ?_, ?_, ?_, ?_, ?_, ?_, ?_, ?_, ?_, ?_, ?_, ?_, ?_, ?_, ?_, ?_, ?_, ?_, ?_, ?_, ?_, trivial⟩ ?_
      · exact ⟨fun _ _ _ _ h => h, fun _ _ _ _ h => h, fun _ _ _ _ h => h, fun _ _ _ _ h => h, fun _ _ _ _ h => h, fun _ _ _ _ h => h, fun _ _ _ _ h => h, fun _ _ _ _ h => h, fun _ _ _ _ h => h, fun _ _ _ _ h => h, fun _ _ _ _ h => h, fun _ _ _ _ h => h, fun _ _ _ _ h => h, fun _ _ _ _ h => h, fun _ _ _ _ h => h, fun _ _ _ _ h => h, fun _ _ _ _ h => h, fun _ _ _ _ h => h, IsB.grew, fun _ _ _ _ h => h, fun _ _ _ _ h => h, fun _ _ _ _ h => h, fun _ _ _ _ h => h, IsB.grew, fun _ _ _ _ h => h, fun _ _ _ _ h => h, fun _ _ _ _ h => h, fun _ _ _ _ h => h, trivial⟩
      · intro u w hR hd; exact runs_move ⟨Grew.refl _, rfl⟩
      · intro u w hR hd; exact runs_move ⟨Grew.refl _, rfl⟩
      · intro u w hR hd; exact runs_c2 enters_read (ev (hd.1 rfl)) (ev (hd.2.1 rfl)) (HRd.out w hR)
      · intro u w hR hd; exact runs_move ⟨Grew.refl _, rfl⟩
      · intro u w hR hd; exact runs_eql8 (ev (hd.1 rfl)) (ev (hd.2.1 rfl)) ⟨Grew.refl _, congrArg Value.bool (beq_self_eq_true _)⟩
      · intro u w hR hd; exact runs_move ⟨Grew.refl _, (hd.1 rfl)⟩
      · intro u w hR hd; exact ⟨fun _ => runs_move ⟨Grew.refl _, rfl⟩, fun hn => absurd (hd.1 rfl) hn⟩
      · intro u w hR hd; exact ⟨fun _ => runs_move ⟨Grew.refl _, rfl⟩, fun hn => absurd (hd.1 rfl) hn⟩
      · intro u w hR hd; exact ⟨fun _ => runs_c2 enters_readWord (ev (hd.1 rfl)) (ev (hd.2.1 rfl)) (HRw.out w hR), fun hn => absurd (hd.2.2.1 rfl) hn⟩
      · intro u w hR hd; exact ⟨fun _ => runs_ldm (ev rfl) (HBx2.out w hR) ⟨Grew.refl _, rfl⟩, fun hn => absurd (hd.1 rfl) hn⟩
      · intro u w hR hd; exact ⟨fun _ => runs_move ⟨Grew.refl _, rfl⟩, fun hn => absurd (hd.1 rfl) hn⟩
      · intro u w hR hd; exact ⟨fun _ => runs_c2 enters_rreadWord (ev (hd.1 rfl)) (ev (hd.2.1 rfl)) (HRRw.out w hR), fun hn => absurd (hd.2.2.2.1 rfl) hn⟩
      · intro u w hR hd; exact ⟨fun _ => runs_eql16 (ev (hd.1 rfl)) (ev (hd.2.1 rfl)) ⟨Grew.refl _, congrArg Value.bool (beq_self_eq_true _)⟩, fun hn => absurd (hd.2.2.1 rfl) hn⟩
      · intro u w hR hd; exact runs_andb (ev (hd.1 rfl)) (fun _ => ev (hd.2.1 rfl)) ⟨Grew.refl _, rfl⟩
      · intro u w hR hd; exact runs_move ⟨Grew.refl _, (hd.1 rfl)⟩
      · intro u w hR hd; exact ⟨fun _ => runs_move ⟨Grew.refl _, rfl⟩, fun hn => absurd (hd.1 rfl) hn⟩
      · intro u w hR hd; exact ⟨fun _ => runs_move ⟨Grew.refl _, rfl⟩, fun hn => absurd (hd.1 rfl) hn⟩
      · intro u w hR hd; exact ⟨fun _ => runs_move ⟨Grew.refl _, rfl⟩, fun hn => absurd (hd.1 rfl) hn⟩
      · intro u w hR hd; exact ⟨fun _ => runs_c3 enters_readBytes (ev (hd.1 rfl)) (ev (hd.2.1 rfl)) (ev (hd.2.2.1 rfl)) (HRb.out w hR), fun hn => absurd (hd.2.2.2.1 rfl) hn⟩
      · intro u w hR hd; exact ⟨fun _ => (by obtain ⟨p1, c1, e1, b1⟩ := (hd.1 rfl); exact runs_convb (ev e1) rfl b1 ⟨Grew.refl _, rfl⟩), fun hn => absurd (hd.2.1 rfl) hn⟩
      · intro u w hR hd; exact ⟨fun _ => runs_ldm (ev rfl) (HBx2.out w hR) ⟨Grew.refl _, rfl⟩, fun hn => absurd (hd.1 rfl) hn⟩
      · intro u w hR hd; exact ⟨fun _ => runs_move ⟨Grew.refl _, rfl⟩, fun hn => absurd (hd.1 rfl) hn⟩
      · intro u w hR hd; exact ⟨fun _ => runs_move ⟨Grew.refl _, rfl⟩, fun hn => absurd (hd.1 rfl) hn⟩
      · intro u w hR hd; exact ⟨fun _ => runs_c3 enters_rreadBytes (ev (hd.1 rfl)) (ev (hd.2.1 rfl)) (ev (hd.2.2.1 rfl)) (HRRb.out w hR), fun hn => absurd (hd.2.2.2.2.1 rfl) hn⟩
      · intro u w hR hd; exact ⟨fun _ => (by obtain ⟨p1, c1, e1, b1⟩ := (hd.1 rfl); exact runs_convb (ev e1) rfl b1 ⟨Grew.refl _, rfl⟩), fun hn => absurd (hd.2.1 rfl) hn⟩
      · intro u w hR hd; exact ⟨fun _ => runs_eqls (ev (hd.1 rfl)) (ev (hd.2.1 rfl)) ⟨Grew.refl _, congrArg Value.bool (beq_self_eq_true _)⟩, fun hn => absurd (hd.2.2.1 rfl) hn⟩
      · intro u w hR hd; exact runs_andb (ev (hd.1 rfl)) (fun _ => ev (hd.2.1 rfl)) ⟨Grew.refl _, rfl⟩
      · intro u w hR hd; exact runs_assign ⟨Grew.refl _, (hd.1 rfl)⟩
      intro u w hR h
      have he : u 8 = .bool true := h 27 (by decide)
      simp only [mixA, mixL, cond_true, cond_false]
      rw [he]
      have HG3 := Lib.hid (HT.out w hR)
      clear h he hR
      go_wp2
      go_ret
      exact ⟨rfl, HG3.out⟩
    | false =>
      rw [hxo] at b1
      simp only [rmv, rmc, hxo] at HV
      have hrd : rd1 s k = x.B.getD k 0 := by rw [Hrd.out, hxo, hv]; simp
      rw [hrd] at HRd0
      obtain ⟨bb, o, rfl, hcc⟩ := (HX.out.gr HG2.out).cells (by omega)
      have hcell : w.cell? ⟨bb, o + k, none⟩ = some (.int .u8 ((x.B.getD k 0).toNat : Int)) := hcc k hk
      have hbb : bb < w.heap.size := World.block_lt_of_cell? _ _ hcell
      clear hrd hv Hrd hxo hcc
      generalize x.B.getD k 0 = y at HRd0 hcell
      go_wp2_with (go_at_call 36; (with_reducible refine (HV.out _).mono ?_); rintro e w1 ⟨rfl, rfl⟩)
      refine wp_at2 (fun W => BoxR w0.heap.size x (some ⟨bb, o, none⟩) c W ∧ Grew w0 W) ⟨HB2.out.grew ((Grew.refl w).al _), HG2.out.al _⟩ ?_
      intro W hW
      have HBx2 : Hid (∀ w, Grew W.drew w → BoxR w0.heap.size x (some ⟨bb, o, none⟩) c w) := Lib.hid fun w hg => hW.1.grew (Grew.trans (Grew.drew W) hg)
      have HT : Hid (∀ w, Grew W.drew w → Grew w0 w) := Lib.hid fun w hg => Grew.trans hW.2 (Grew.trans (Grew.drew W) hg)
      have HRd : Hid (∀ w, Grew W.drew w → _) := Lib.hid fun w hg => HRd0.out w (HT.out w hg)
      have HRw : Hid (∀ w, Grew W.drew w → _) := Lib.hid fun w hg => HRw0.out w (HT.out w hg)
      have HRRw : Hid (∀ w, Grew W.drew w → _) := Lib.hid fun w hg => HRRw0.out w (HT.out w hg)
      have HRb : Hid (∀ w, Grew W.drew w → _) := Lib.hid fun w hg => HRb0.out w (HT.out w hg)
      have HRRb : Hid (∀ w, Grew W.drew w → _) := Lib.hid fun w hg => HRRb0.out w (HT.out w hg)
      refine wp_posts [some 44, some 45, some 46, some 47, some 48, some 49, some 50, some 51, some 52, some 53, some 54, some 55, some 56, some 57, some 58, some 59, some 60, some 61, some 62, some 63, some 64, some 65, some 66, some 67, some 68, some 69, some 70, some 8] [false, false, false, false, false, false, false, false, true, false, false, false, false, false, false, false, false, false, false, false, false, false, false, false, false, false, false, false, false, false, false, false, false, false, false, false, false, false, false, false, false, false, false, false, true, true, true, true, true, true, true, true, true, true, true, true, true, true, true, true, true, true, true, true, true, true, true, true, true, true, true] [fun v _ => v = .pointer (some ⟨q, 0, none⟩), fun v _ => v = .int .i64 (k : Int), fun v _ => v = .int .u8 (y.toNat : Int), fun v _ => v = .int .u8 (y.toNat : Int), fun v _ => v = .bool true, fun v _ => v = .bool true, fun v _ => v = .pointer (some ⟨q, 0, none⟩), fun v _ => v = .int .i64 (k : Int), fun v _ => v = .int .i16 zw, fun v _ => v = rmv x (some ⟨bb, o, none⟩) c, fun v _ => v = .int .i64 (k : Int), fun v _ => v = .int .i16 zw, fun v _ => v = .bool true, fun v _ => v = .bool true, fun v _ => v = .bool true, fun v _ => v = .pointer (some ⟨q, 0, none⟩), fun v _ => v = .int .i64 (k : Int), fun v _ => v = .int .i64 n, fun v w => IsB L v w, fun v _ => v = .string ⟨L.toArray⟩, fun v _ => v = rmv x (some ⟨bb, o, none⟩) c, fun v _ => v = .int .i64 (k : Int), fun v _ => v = .int .i64 n, fun v w => IsB L v w, fun v _ => v = .string ⟨L.toArray⟩, fun v _ => v = .bool true, fun v _ => v = .bool true, fun v _ => v = .bool true] (by kernel_rfl) (by kernel_rfl) rfl ?_ ⟨?_, ?_, ?_, ?_, ?_, ?_, ?_, ?_, ?_, ?_, ?_, ?_, ?_, ?_, ?_, ?_, ?_, ?_, ?_, ?_, ?_, ?_, ?_, ?_, ?_, ?_, ?_, ?_, trivial⟩ ?_
      · exact ⟨fun _ _ _ _ h => h, fun _ _ _ _ h => h, fun _ _ _ _ h => h, fun _ _ _ _ h => h, fun _ _ _ _ h => h, fun _ _ _ _ h => h, fun _ _ _ _ h => h, fun _ _ _ _ h => h, fun _ _ _ _ h => h, fun _ _ _ _ h => h, fun _ _ _ _ h => h, fun _ _ _ _ h => h, fun _ _ _ _ h => h, fun _ _ _ _ h => h, fun _ _ _ _ h => h, fun _ _ _ _ h => h, fun _ _ _ _ h => h, fun _ _ _ _ h => h, IsB.grew, fun _ _ _ _ h => h, fun _ _ _ _ h => h, fun _ _ _ _ h => h, fun _ _ _ _ h => h, IsB.grew, fun _ _ _ _ h => h, fun _ _ _ _ h => h, fun _ _ _ _ h => h, fun _ _ _ _ h => h, trivial⟩
      · intro u w hR hd; exact runs_move ⟨Grew.refl _, rfl⟩
      · intro u w hR hd; exact runs_move ⟨Grew.refl _, rfl⟩
      · intro u w hR hd; exact runs_c2 enters_read (ev (hd.1 rfl)) (ev (hd.2.1 rfl)) (HRd.out w hR)
      · intro u w hR hd; exact runs_move ⟨Grew.refl _, rfl⟩
      · intro u w hR hd; exact runs_eql8 (ev (hd.1 rfl)) (ev (hd.2.1 rfl)) ⟨Grew.refl _, congrArg Value.bool (beq_self_eq_true _)⟩
      · intro u w hR hd; exact runs_move ⟨Grew.refl _, (hd.1 rfl)⟩
      · intro u w hR hd; exact ⟨fun _ => runs_move ⟨Grew.refl _, rfl⟩, fun hn => absurd (hd.1 rfl) hn⟩
      · intro u w hR hd; exact ⟨fun _ => runs_move ⟨Grew.refl _, rfl⟩, fun hn => absurd (hd.1 rfl) hn⟩
      · intro u w hR hd; exact ⟨fun _ => runs_c2 enters_readWord (ev (hd.1 rfl)) (ev (hd.2.1 rfl)) (HRw.out w hR), fun hn => absurd (hd.2.2.1 rfl) hn⟩
      · intro u w hR hd; exact ⟨fun _ => runs_ldm (ev rfl) (HBx2.out w hR) ⟨Grew.refl _, rfl⟩, fun hn => absurd (hd.1 rfl) hn⟩
      · intro u w hR hd; exact ⟨fun _ => runs_move ⟨Grew.refl _, rfl⟩, fun hn => absurd (hd.1 rfl) hn⟩
      · intro u w hR hd; exact ⟨fun _ => runs_c2 enters_rreadWord (ev (hd.1 rfl)) (ev (hd.2.1 rfl)) (HRRw.out w hR), fun hn => absurd (hd.2.2.2.1 rfl) hn⟩
      · intro u w hR hd; exact ⟨fun _ => runs_eql16 (ev (hd.1 rfl)) (ev (hd.2.1 rfl)) ⟨Grew.refl _, congrArg Value.bool (beq_self_eq_true _)⟩, fun hn => absurd (hd.2.2.1 rfl) hn⟩
      · intro u w hR hd; exact runs_andb (ev (hd.1 rfl)) (fun _ => ev (hd.2.1 rfl)) ⟨Grew.refl _, rfl⟩
      · intro u w hR hd; exact runs_move ⟨Grew.refl _, (hd.1 rfl)⟩
      · intro u w hR hd; exact ⟨fun _ => runs_move ⟨Grew.refl _, rfl⟩, fun hn => absurd (hd.1 rfl) hn⟩
      · intro u w hR hd; exact ⟨fun _ => runs_move ⟨Grew.refl _, rfl⟩, fun hn => absurd (hd.1 rfl) hn⟩
      · intro u w hR hd; exact ⟨fun _ => runs_move ⟨Grew.refl _, rfl⟩, fun hn => absurd (hd.1 rfl) hn⟩
      · intro u w hR hd; exact ⟨fun _ => runs_c3 enters_readBytes (ev (hd.1 rfl)) (ev (hd.2.1 rfl)) (ev (hd.2.2.1 rfl)) (HRb.out w hR), fun hn => absurd (hd.2.2.2.1 rfl) hn⟩
      · intro u w hR hd; exact ⟨fun _ => (by obtain ⟨p1, c1, e1, b1⟩ := (hd.1 rfl); exact runs_convb (ev e1) rfl b1 ⟨Grew.refl _, rfl⟩), fun hn => absurd (hd.2.1 rfl) hn⟩
      · intro u w hR hd; exact ⟨fun _ => runs_ldm (ev rfl) (HBx2.out w hR) ⟨Grew.refl _, rfl⟩, fun hn => absurd (hd.1 rfl) hn⟩
      · intro u w hR hd; exact ⟨fun _ => runs_move ⟨Grew.refl _, rfl⟩, fun hn => absurd (hd.1 rfl) hn⟩
      · intro u w hR hd; exact ⟨fun _ => runs_move ⟨Grew.refl _, rfl⟩, fun hn => absurd (hd.1 rfl) hn⟩
      · intro u w hR hd; exact ⟨fun _ => runs_c3 enters_rreadBytes (ev (hd.1 rfl)) (ev (hd.2.1 rfl)) (ev (hd.2.2.1 rfl)) (HRRb.out w hR), fun hn => absurd (hd.2.2.2.2.1 rfl) hn⟩
      · intro u w hR hd; exact ⟨fun _ => (by obtain ⟨p1, c1, e1, b1⟩ := (hd.1 rfl); exact runs_convb (ev e1) rfl b1 ⟨Grew.refl _, rfl⟩), fun hn => absurd (hd.2.1 rfl) hn⟩
      · intro u w hR hd; exact ⟨fun _ => runs_eqls (ev (hd.1 rfl)) (ev (hd.2.1 rfl)) ⟨Grew.refl _, congrArg Value.bool (beq_self_eq_true _)⟩, fun hn => absurd (hd.2.2.1 rfl) hn⟩
      · intro u w hR hd; exact runs_andb (ev (hd.1 rfl)) (fun _ => ev (hd.2.1 rfl)) ⟨Grew.refl _, rfl⟩
      · intro u w hR hd; exact runs_assign ⟨Grew.refl _, (hd.1 rfl)⟩
      intro u w hR h
      have he : u 8 = .bool true := h 27 (by decide)
      simp only [mixA, mixL, cond_true, cond_false]
      rw [he]
      have HG3 := Lib.hid (HT.out w hR)
      clear h he hR
      go_wp2
      go_ret
      exact ⟨rfl, HG3.out⟩
end Go.Proofs.Ytmfahmbebpojpaa
