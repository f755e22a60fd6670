/-
  LAYER 7 (nvm): contracts of WriteBytes, WriteWord.
-/
import Derived.Test.YtmfahmbebpojpaaNvWrite
namespace Go.Proofs.Ytmfahmbebpojpaa
open Go Go.RowKit Go.IntWalk
set_option linter.unusedSimpArgs false
set_option maxRecDepth 8000

theorem wrL_step {s sk : NV} {a : Int} {xs : List UInt8} {k : Nat} (h : wrL s a xs = wrL sk (a + k) (xs.drop k)) (hk : k < xs.length) (ht : (wr1 sk (a + k) (xs.getD k 0)).2 = true) :
    wrL s a xs = wrL (wr1 sk (a + k) (xs.getD k 0)).1 (a + ((k + 1 : Nat) : Int)) (xs.drop (k + 1)) := by
  rw [h, List.drop_eq_getElem_cons hk]
  simp only [List.getD, List.getElem?_eq_getElem hk, Option.getD_some] at ht ⊢
  simp only [wrL, ht, if_true]
  congr 1
  omega
theorem wrL_stop {s sk : NV} {a : Int} {xs : List UInt8} {k : Nat} (h : wrL s a xs = wrL sk (a + k) (xs.drop k)) (hk : k < xs.length) (ht : (wr1 sk (a + k) (xs.getD k 0)).2 = false) :
    wrL s a xs = ((wr1 sk (a + k) (xs.getD k 0)).1, false) := by
  rw [h, List.drop_eq_getElem_cons hk]
  simp only [List.getD, List.getElem?_eq_getElem hk, Option.getD_some] at ht ⊢
  simp only [wrL, ht, Bool.false_eq_true, if_false]
theorem writeBytes_any (g q : Nat) (s : NV) (a : Int) (p : Option Addr) (n c : Nat) (xs : List UInt8) (w : World) (h : NvS w g q s) (hl : xs.length = n) (hx : Bin w p c xs) (ha : 0 < xs.length → Away (Nvb g q s.mt) p) :
    Calls Try.prog 16 #[.pointer (some ⟨q, 0, none⟩), .int .i64 a, .slice p n c] w fun e w' => e = .returned (.bool (wrs s a xs).2) ∧ NvS w' g q (wrs s a xs).1 ∧ Chg w w' (Nvb g q s.mt) := by
  subst hl
  have hcap := hx.cap
  have hmax := hx.max
  have HV := Lib.hid (valid_any g q s a xs.length w h (by omega))
  have H := Lib.hid h
  have HX := Lib.hid hx
  have HA := Lib.hid ha
  clear h hx ha
  cases hv : validB s.B.length a xs.length with
  | false =>
    have hr : wrs s a xs = (s, false) := by simp [wrs, hv]
    rw [hr]
    rw [hv] at HV
    clear hr hv
    go_enter Try.func16, Try.ntmps16
    go_wp2_with (go_at_call 39; (with_reducible refine HV.out.mono ?_); rintro e _ ⟨rfl, rfl⟩)
    go_ret
    exact ⟨rfl, H.out, Chg.refl _ _⟩
  | true =>
    obtain ⟨ha0, -, ha1⟩ := validB_iff.1 hv
    have hm := H.out.most
    have hr : wrs s a xs = ((wrL s a xs).1, (wrL s a xs).2 && !(wrL s a xs).1.off) := by simp [wrs, hv]
    rw [hr]
    rw [hv] at HV
    clear hr hv
    go_enter Try.func16, Try.ntmps16
    go_wp2_with (go_at_call 39; (with_reducible refine HV.out.mono ?_); rintro e _ ⟨rfl, rfl⟩)
    go_loopg [17] xs.length (fun gg iv wr => ∃ (k : Nat) (sk : NV), iv = .int .i64 (k : Int) ∧ k ≤ xs.length ∧ gg = xs.length - k ∧ Hid (NvS wr g q sk) ∧ Hid (Chg w wr (Nvb g q s.mt)) ∧ Hid (∀ j, sk.mt.blk j ↔ s.mt.blk j) ∧ Hid (wrL s a xs = wrL sk (a + k) (xs.drop k)))
    case atStart => exact ⟨0, s, rfl, Nat.zero_le _, rfl, H, Lib.hid (Chg.refl _ _), Lib.hid (fun _ => Iff.rfl), Lib.hid (by simp)⟩
    case round =>
      obtain ⟨k, sk, rfl, hk, rfl, hS, hC, hI, hE⟩ := hrel
      by_cases hlt : k < xs.length
      · obtain ⟨_, b, o, rfl⟩ := (HX.out.parts).resolve_left (fun e => by rw [e] at hlt; simp at hlt)
        have hx0 := (HX.out.chg hC.out (HA.out (by omega))).cell k hlt
        have hw : IntKind.i64.wrap (a + (k : Int)) = a + (k : Int) := IntWalk.i64_in _ (by omega)
        have HW := Lib.hid (write_any g q sk (a + k) (xs.getD k 0) wr hS.out)
        have HT := Lib.hid (@wrL_step s sk a xs k hE.out hlt)
        have HF := Lib.hid (@wrL_stop s sk a xs k hE.out hlt)
        have HB := Lib.hid (wr1_blk sk (a + k) (xs.getD k 0))
        generalize xs.getD k 0 = x at hx0 HW HT HF HB
        generalize wr1 sk (a + k) x = r at HW HT HF HB
        obtain ⟨r1, r2⟩ := r
        cases r2 with
        | true =>
          go_wp2_with (go_at_call 19; (with_reducible refine HW.out.mono ?_); rintro e w2 ⟨rfl, s2, c2⟩; have S2 := Lib.hid s2; have C2 := Lib.hid (hC.out.trans (c2.mono fun j hj => hj.imp_right fun hj => hj.imp_right (hI.out j).1)); clear s2 c2)
          go_roundg (xs.length - (k + 1))
          case measure => omega
          case rel => exact ⟨k + 1, r1, by go_num, by omega, rfl, S2, C2, Lib.hid (fun j => (HB.out j).trans (hI.out j)), Lib.hid (HT.out trivial)⟩
        | false =>
          go_wp2_with (go_at_call 19; (with_reducible refine HW.out.mono ?_); rintro e w2 ⟨rfl, s2, c2⟩; have S2 := Lib.hid s2; have C2 := Lib.hid (hC.out.trans (c2.mono fun j hj => hj.imp_right fun hj => hj.imp_right (hI.out j).1)); clear s2 c2)
          go_ret
          rw [HF.out trivial]
          exact ⟨rfl, S2.out, C2.out⟩
      · obtain rfl : k = xs.length := by omega
        have hoff := hS.out.rc.2.1
        go_wp2
        go_ret
        have e := hE.out
        rw [List.drop_length] at e
        rw [e]
        exact ⟨rfl, hS.out, hC.out⟩
/-- The two bytes of a word. -/
def wordB (v : Int) : List UInt8 := [UInt8.ofNat (v % 256).toNat, UInt8.ofNat (v / 256 % 256).toNat]
theorem wordB_len (v : Int) : (wordB v).length = 2 := rfl
theorem wordB_cells (v : Int) : (#[.int .u8 (v % 256), .int .u8 (v / 256 % 256)] : Array Value) = (bvs (wordB v)).toArray := by
  have h1 : bv (UInt8.ofNat (v % 256).toNat) = .int .u8 (v % 256) := by rw [bv_ofNat _ (by omega)]; congr 1; omega
  have h2 : bv (UInt8.ofNat (v / 256 % 256).toNat) = .int .u8 (v / 256 % 256) := by rw [bv_ofNat _ (by omega)]; congr 1; omega
  simp [bvs, wordB, h1, h2]
theorem writeWord_any (g q : Nat) (s : NV) (a v : Int) (w : World) (h : NvS w g q s) :
    Calls Try.prog 25 #[.pointer (some ⟨q, 0, none⟩), .int .i64 a, .int .i16 v] w fun e w' => e = .returned (.bool (wrs s a (wordB v)).2) ∧ NvS w' g q (wrs s a (wordB v)).1 ∧ Chg w w' (Nvb g q s.mt) := by
  have H := Lib.hid h
  clear h
  have HW := Lib.hid (writeBytes_any g q s a (some ⟨w.heap.size, 0, none⟩) 2 2 (wordB v) (w.alloc (.cells #[.int .u8 (v % 256), .int .u8 (v / 256 % 256)] 5)) (H.out.alloc _) (wordB_len v) (Bin.made w _ 2 _ _ _ (wordB_cells v) rfl (by omega)) (fun _ ad had hk => by
    obtain rfl := Option.some.inj had
    exact absurd (H.out.blk_lt hk) (Nat.lt_irrefl _)))
  have HG := Lib.hid (Chg.of_grew (Below.alloc (Below.refl _ w) (Nat.le_refl _) (.cells #[.int .u8 (v % 256), .int .u8 (v / 256 % 256)] 5)) (Nvb g q s.mt))
  go_enter Try.func25, Try.ntmps25
  go_wp2_with (go_at_call 16; (with_reducible refine HW.out.mono ?_); rintro e w1 ⟨rfl, s1, c1⟩; have S1 := Lib.hid s1; have C1 := Lib.hid (HG.out.trans c1); clear s1 c1)
  go_ret
  exact ⟨rfl, S1.out, C1.out⟩
end Go.Proofs.Ytmfahmbebpojpaa
