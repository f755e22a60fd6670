/-
  LAYER 7 (nvm): the statements' Meter.
-/
import Derived.Test.YtmfahmbebpojpaaNvLaw3
import Derived.Test.YtmfahmbebpojpaaNvOps2
namespace Go.Proofs.Ytmfahmbebpojpaa
open Go Go.RowKit Go.IntWalk
set_option linter.unusedSimpArgs false
set_option maxRecDepth 8000

/-- The state behind the metered write: n bytes, k writes allowed. -/
def mtS (b kb n k : Nat) (xs : List UInt8) : NV := { nv0 128 with B := over (nv0 128).B 0 (xs.take k), off := decide (k < n), mt := .up b kb ((min n (k + 1) : Nat) : Int) k, wr := ((min n k : Nat) : Int) }
theorem mt_write (b kb n k : Nat) (xs : List UInt8) (hl : xs.length = n) (hn : n ≤ 100) (hk : k ≤ 255) : wrs { nv0 128 with mt := .up b kb 0 k } 0 xs = (mtS b kb n k xs, decide (n ≤ k)) := by
  have hB : (nv0 128).B.length = 128 := by simp [nv0]
  have hv : validB (nv0 128).B.length 0 xs.length = true := validB_iff.2 ⟨by omega, by omega, by omega⟩
  have := wrL_up xs { nv0 128 with mt := .up b kb 0 k } 0 0 k b kb rfl (show (-1 : Int) < 0 by decide) rfl (by show _ ≤ (nv0 128).B.length; omega) (by omega) (by omega) (by omega) rfl
  unfold wrs
  rw [show ({ nv0 128 with mt := .up b kb 0 k } : NV).B = (nv0 128).B from rfl, if_pos hv]
  have e0 : ((0 : Nat) : Int) = 0 := rfl
  rw [e0] at this
  rw [this]
  by_cases h : n ≤ k
  · have e1 : xs.take k = xs := List.take_of_length_le (by omega)
    have e2 : min n (k + 1) = n := by omega
    have e3 : min n k = n := by omega
    have e4 : ¬ k < n := by omega
    rw [if_pos (by omega)]
    simp [mtS, e1, e2, e3, e4, h, hl, nv0]
  · have e2 : min n (k + 1) = k + 1 := by omega
    have e3 : min n k = k := by omega
    have e4 : k < n := by omega
    rw [if_neg (by omega)]
    simp [mtS, e2, e3, e4, h, nv0]
theorem up_rep (w : World) (k : Int) : (Mt.up w.heap.size (w.heap.size + 1) 0 k).rep ((w.alloc (.cells #[.int .i64 0] 3)).alloc (.cells #[.int .i64 k] 3)) := by
  refine ⟨(heap_alloc_old _ _ (by simp)).trans (heap_alloc_new w _), ?_, by omega⟩
  have := heap_alloc_new (w.alloc (.cells #[.int .i64 0] 3)) (.cells #[.int .i64 k] 3)
  simpa using this
set_option maxHeartbeats 8000000 in
theorem meter_law (p : Option Addr) (n c : Nat) (xs : List UInt8) (kk : Int) (w0 : World) (hl : xs.length = n) (hx : Bin w0 p c xs) (hkk : 0 ≤ kk ∧ kk ≤ 255) :
    Calls Try.prog 5 #[.slice p n c, .int .u8 kk] w0 fun e w' => e = .returned (.bool true) ∧ Below w0.heap.size w0 w' := by
  obtain ⟨k, rfl⟩ : ∃ k : Nat, kk = (k : Int) := ⟨kk.toNat, by omega⟩
  have hk : k ≤ 255 := by omega
  have HX := Lib.hid hx
  have HL := Lib.hid hl
  clear hx hl hkk
  by_cases hn1 : (100 : Int) < (n : Int)
  · go_enter Try.func5, Try.ntmps5
    go_wp2_with (go_at_call 9; (with_reducible refine (wakes_any _).mono ?_); rintro e w1 ⟨rfl, g0⟩)
    go_ret
    exact ⟨rfl, g0⟩
  have hn2 : n ≤ 100 := by omega
  obtain ⟨z, hz⟩ : ∃ z : Int, z = ((min n (k + 1) : Nat) : Int) := ⟨_, rfl⟩
  obtain ⟨wz, hwz⟩ : ∃ wz : Int, wz = ((min n k : Nat) : Int) := ⟨_, rfl⟩
  obtain ⟨okb, hok⟩ : ∃ okb : Bool, okb = decide (n ≤ k) := ⟨_, rfl⟩
  obtain ⟨ofb, hof⟩ : ∃ ofb : Bool, ofb = decide (k < n) := ⟨_, rfl⟩
  have HM : Hid (∀ (g q b : Nat) (W : World), NvS W g q (nv0 128) → (Mt.up b (b + 1) 0 k).rep W → b ≠ q → b + 1 ≠ q → Calls Try.prog 22 #[.pointer (some ⟨q, 0, none⟩), .func (.func 23) #[] #[.pointer (some ⟨b, 0, none⟩), .pointer (some ⟨b + 1, 0, none⟩)]] W fun e w' => e = .returned (.tuple #[]) ∧ NvS w' g q { nv0 128 with mt := .up b (b + 1) 0 k } ∧ Chg W w' (Nvb g q .no)) := Lib.hid fun g q b W h hm h1 h2 =>
    meter_any g q (nv0 128) (.up b (b + 1) 0 k) W h hm (fun _ _ e => by cases e) (fun _ _ _ _ e => by cases e; exact ⟨h1, h2⟩)
  have HWB : Hid (∀ (g q b : Nat) (W : World), NvS W g q { nv0 128 with mt := .up b (b + 1) 0 k } → Bin W p c xs → (0 < xs.length → Away (Nvb g q (.up b (b + 1) z k)) p) → Calls Try.prog 16 #[.pointer (some ⟨q, 0, none⟩), .int .i64 0, .slice p n c] W fun e w' => e = .returned (.bool okb) ∧ (∃ s2 : NV, NvS w' g q s2 ∧ s2.mt = .up b (b + 1) z k ∧ s2.off = ofb ∧ s2.wr = wz ∧ s2.B.length = 128) ∧ Chg W w' (Nvb g q (.up b (b + 1) z k))) := Lib.hid fun g q b W h hb ha => by
    have := writeBytes_any g q _ 0 p n c xs W h HL.out hb ha
    rw [mt_write b (b + 1) n k xs HL.out hn2 hk, ← hok] at this
    refine this.mono ?_
    rintro e w' ⟨rfl, h1, h2⟩
    refine ⟨rfl, ⟨_, h1, by rw [hz]; rfl, by rw [hof]; rfl, by rw [hwz]; rfl, ?_⟩, h2⟩
    show (over (nv0 128).B 0 (xs.take k)).length = 128
    have : (nv0 128).B.length = 128 := by simp [nv0]
    have h3 := HL.out
    rw [over_len _ _ _ (by simp; omega), this]
  have Hz : Hid ((if (k : Int) + 1 < (n : Int) then (k : Int) + 1 else (n : Int)) = z) := Lib.hid (by rw [hz]; split <;> omega)
  have Hwz : Hid ((if (k : Int) < (n : Int) then (k : Int) else (n : Int)) = wz) := Lib.hid (by rw [hwz]; split <;> omega)
  have Hok : Hid (decide ((n : Int) ≤ (k : Int)) = okb) := Lib.hid (by rw [hok]; simp)
  have Hob : Hid ((ofb == okb) = false) := Lib.hid (by
    rw [hok, hof]
    by_cases h : n ≤ k
    · have h2 : ¬ k < n := by omega
      simp [h, h2]
    · have h2 : k < n := by omega
      simp [h, h2])
  clear hz hwz hok hof
  go_enter Try.func5, Try.ntmps5
  go_wp2_with (first
    | (go_at_call 9; (with_reducible refine (wakes_any _).mono ?_); rintro e w1 ⟨rfl, g0⟩; have HB0 := Lib.hid g0; clear g0)
    | (go_at_call 11; (with_reducible refine (new_any 128 _ (by omega)).mono ?_); rintro e w1 ⟨g, q, rfl, s1, g1, hg, hq⟩; have HS := Lib.hid s1; have HB := Lib.hid (Grew.trans HB0.out g1); have HN := Lib.hid (nvb_new (Nat.le_trans (Below.size HB0.out) hg) (Nat.le_trans (Below.size HB0.out) hq)); clear s1 g1 hg hq HB0)
    | (go_at_call 22; (with_reducible refine (HM.out g q w1.heap.size _ ((HS.out.alloc _).alloc _) (up_rep w1 k) (fun e => by have := HS.out.lt.2; omega) (fun e => by have := HS.out.lt.2; omega)).mono ?_); rintro e w2 ⟨rfl, s1, c1⟩; have hbN := Below.size HB.out; replace HB := Lib.hid (grew_lift ((HB.out.alloc _).alloc _) c1 HN.out); replace HS := Lib.hid s1; obtain ⟨b, hb⟩ : ∃ b, b = w1.heap.size := ⟨_, rfl⟩; rw [← hb] at HS hbN ⊢; have HNb : Hid (∀ j, Nvb g q (.up b (b + 1) z k) j → w0.heap.size ≤ j) := Lib.hid (fun j hj => by rcases hj with hj | hj | hj; exact HN.out j (.inl hj); exact HN.out j (.inr (.inl hj)); exact hj ▸ hbN); clear hb hbN s1 c1 HM HN)
    | (go_at_call 16; (with_reducible refine (HWB.out g q b _ HS.out (HX.out.gr HB.out) (fun h => HX.out.sub HNb.out h)).mono ?_); rintro e w3 ⟨rfl, ⟨s2, h1, h2, h3, h4, h5⟩, c1⟩; replace HB := Lib.hid (grew_lift HB.out c1 HNb.out); replace HS := Lib.hid h1; have Hm2 := Lib.hid h2; have Ho2 := Lib.hid h3; have Hw2 := Lib.hid h4; have Hl2 := Lib.hid h5; clear h1 h2 h3 h4 h5 c1 HWB))
  have hrep := HS.out.mt
  rw [Hm2.out] at hrep
  obtain ⟨hcb, hck, -⟩ := hrep
  have HCb : Hid (∀ w, Grew w3.drew w → w.cell? ⟨b, 0, none⟩ = some (.int .i64 z)) := Lib.hid fun w hg => (cells_of_heap (Grew.heap (Grew.trans (Grew.drew w3) hg) hcb) 0).trans rfl
  have HCk : Hid (∀ w, Grew w3.drew w → w.cell? ⟨b + 1, 0, none⟩ = some (.int .i64 k)) := Lib.hid fun w hg => (cells_of_heap (Grew.heap (Grew.trans (Grew.drew w3) hg) hck) 0).trans rfl
  have HOf : Hid (∀ w, Grew w3.drew w → Calls Try.prog 17 #[.pointer (some ⟨q, 0, none⟩)] w fun e w' => ∃ v, e = .returned v ∧ (Grew w w' ∧ v = .bool ofb)) := Lib.hid fun w hg => by
    refine (off_any g q s2 w (HS.out.grew (Grew.trans (Grew.drew w3) hg))).mono ?_
    rintro e w' ⟨rfl, rfl⟩
    exact ⟨_, rfl, Grew.refl _, by rw [Ho2.out]⟩
  have HWr : Hid (∀ w, Grew w3.drew w → Calls Try.prog 18 #[.pointer (some ⟨q, 0, none⟩)] w fun e w' => ∃ v, e = .returned v ∧ (Grew w w' ∧ v = .int .i64 wz)) := Lib.hid fun w hg => by
    refine (writes_any g q s2 w (HS.out.grew (Grew.trans (Grew.drew w3) hg))).mono ?_
    rintro e w' ⟨rfl, rfl⟩
    exact ⟨_, rfl, Grew.refl _, by rw [Hw2.out]⟩
  clear hcb hck
  refine wp_posts [some 34, some 35, some 36, some 37, some 38, some 39, some 40, some 41, some 42, some 43, some 44, some 45, some 46, some 47, some 48, some 49, some 50, some 51, some 52, some 53, some 54, some 55, some 56, some 57, some 58, some 59, some 60, some 61, some 62, some 63] [false, false, false, false, false, false, false, false, false, false, false, false, false, false, false, false, false, false, false, false, false, false, false, false, false, false, false, false, false, false, false, false, false, false, true, true, true, true, true, true, true, true, true, true, true, true, true, true, true, true, true, true, true, true, true, true, true, true, true, true, true, true, true, true, false, false, false, false, false, false, false, false, false, false, false, false] [fun v _ => v = .bool okb, fun v _ => v = .slice p n c, fun v _ => v = .int .i64 (n : Int), fun v _ => v = .int .i64 (k : Int), fun v _ => v = .bool okb, fun v _ => v = .bool false, fun v _ => v = .bool false, fun v _ => v = .pointer (some ⟨q, 0, none⟩), fun v _ => v = .bool ofb, fun v _ => v = .bool okb, fun v _ => v = .bool false, fun v _ => v = .bool false, fun v _ => v = .bool false, fun v _ => v = .int .i64 z, fun v _ => v = .slice p n c, fun v _ => v = .int .i64 (n : Int), fun v _ => v = .int .i64 (k : Int), fun v _ => v = .int .i64 ((k : Int) + 1), fun v _ => v = .int .i64 z, fun v _ => v = .bool false, fun v _ => v = .bool false, fun v _ => v = .bool false, fun v _ => v = .pointer (some ⟨q, 0, none⟩), fun v _ => v = .int .i64 wz, fun v _ => v = .slice p n c, fun v _ => v = .int .i64 (n : Int), fun v _ => v = .int .i64 (k : Int), fun v _ => v = .int .i64 wz, fun v _ => v = .bool false, fun v _ => v = .bool false] (by kernel_rfl) (by kernel_rfl) rfl ?_ ⟨?_, ?_, ?_, ?_, ?_, ?_, ?_, ?_, ?_, ?_, ?_, ?_, ?_, ?_, ?_, ?_, ?_, ?_, ?_, ?_, ?_, ?_, ?_, ?_, ?_, ?_, ?_, ?_, ?_, ?_, trivial⟩ ?_
  · exact ⟨fun _ _ _ _ h => h, fun _ _ _ _ h => h, fun _ _ _ _ h => h, fun _ _ _ _ h => h, fun _ _ _ _ h => h, fun _ _ _ _ h => h, fun _ _ _ _ h => h, fun _ _ _ _ h => h, fun _ _ _ _ h => h, fun _ _ _ _ h => h, fun _ _ _ _ h => h, fun _ _ _ _ h => h, fun _ _ _ _ h => h, fun _ _ _ _ h => h, fun _ _ _ _ h => h, fun _ _ _ _ h => h, fun _ _ _ _ h => h, fun _ _ _ _ h => h, fun _ _ _ _ h => h, fun _ _ _ _ h => h, fun _ _ _ _ h => h, fun _ _ _ _ h => h, fun _ _ _ _ h => h, fun _ _ _ _ h => h, fun _ _ _ _ h => h, fun _ _ _ _ h => h, fun _ _ _ _ h => h, fun _ _ _ _ h => h, fun _ _ _ _ h => h, fun _ _ _ _ h => h, trivial⟩
  · intro u w hR hd; exact runs_move ⟨Grew.refl _, rfl⟩
  · intro u w hR hd; exact runs_move ⟨Grew.refl _, rfl⟩
  · intro u w hR hd; exact runs_lenb (ev (hd.1 rfl)) ⟨Grew.refl _, rfl⟩
  · intro u w hR hd; exact runs_ldi (ev rfl) (HCk.out w hR) ⟨Grew.refl _, rfl⟩
  · intro u w hR hd; exact runs_leqi (ev (hd.1 rfl)) (ev (hd.2.1 rfl)) ⟨Grew.refl _, congrArg Value.bool Hok.out⟩
  · intro u w hR hd; exact runs_neqb (ev (hd.1 rfl)) (ev (hd.2.1 rfl)) ⟨Grew.refl _, congrArg Value.bool (bne_self_eq_false okb)⟩
  · intro u w hR hd; exact runs_move ⟨Grew.refl _, (hd.1 rfl)⟩
  · intro u w hR hd; exact ⟨fun _ => runs_move ⟨Grew.refl _, rfl⟩, fun hn => absurd (hd.1 rfl) hn⟩
  · intro u w hR hd; exact ⟨fun _ => runs_c1 enters_off (ev (hd.1 rfl)) (HOf.out w hR), fun hn => absurd (hd.2.1 rfl) hn⟩
  · intro u w hR hd; exact ⟨fun _ => runs_move ⟨Grew.refl _, rfl⟩, fun hn => absurd (hd.1 rfl) hn⟩
  · intro u w hR hd; exact ⟨fun _ => runs_eqlb (ev (hd.1 rfl)) (ev (hd.2.1 rfl)) ⟨Grew.refl _, congrArg Value.bool Hob.out⟩, fun hn => absurd (hd.2.2.1 rfl) hn⟩
  · intro u w hR hd; exact runs_orb (ev (hd.1 rfl)) (fun _ => ev (hd.2.1 rfl)) ⟨Grew.refl _, rfl⟩
  · intro u w hR hd; exact runs_move ⟨Grew.refl _, (hd.1 rfl)⟩
  · intro u w hR hd; exact ⟨fun _ => runs_ldi (ev rfl) (HCb.out w hR) ⟨Grew.refl _, rfl⟩, fun hn => absurd (hd.1 rfl) hn⟩
  · intro u w hR hd; exact ⟨fun _ => runs_move ⟨Grew.refl _, rfl⟩, fun hn => absurd (hd.1 rfl) hn⟩
  · intro u w hR hd; exact ⟨fun _ => runs_lenb (ev (hd.1 rfl)) ⟨Grew.refl _, rfl⟩, fun hn => absurd (hd.2.1 rfl) hn⟩
  · intro u w hR hd; exact ⟨fun _ => runs_ldi (ev rfl) (HCk.out w hR) ⟨Grew.refl _, rfl⟩, fun hn => absurd (hd.1 rfl) hn⟩
  · intro u w hR hd; exact ⟨fun _ => runs_addi (ev (hd.1 rfl)) rfl (by omega) ⟨Grew.refl _, rfl⟩, fun hn => absurd (hd.2.1 rfl) hn⟩
  · intro u w hR hd; exact ⟨fun _ => runs_mini (ev (hd.1 rfl)) (ev (hd.2.1 rfl)) ⟨Grew.refl _, congrArg (Value.int .i64) Hz.out⟩, fun hn => absurd (hd.2.2.1 rfl) hn⟩
  · intro u w hR hd; exact ⟨fun _ => runs_neqi (ev (hd.1 rfl)) (ev (hd.2.1 rfl)) ⟨Grew.refl _, congrArg Value.bool (bne_self_eq_false z)⟩, fun hn => absurd (hd.2.2.1 rfl) hn⟩
  · intro u w hR hd; exact runs_orb (ev (hd.1 rfl)) (fun _ => ev (hd.2.1 rfl)) ⟨Grew.refl _, rfl⟩
  · intro u w hR hd; exact runs_move ⟨Grew.refl _, (hd.1 rfl)⟩
  · intro u w hR hd; exact ⟨fun _ => runs_move ⟨Grew.refl _, rfl⟩, fun hn => absurd (hd.1 rfl) hn⟩
  · intro u w hR hd; exact ⟨fun _ => runs_c1 enters_writes (ev (hd.1 rfl)) (HWr.out w hR), fun hn => absurd (hd.2.1 rfl) hn⟩
  · intro u w hR hd; exact ⟨fun _ => runs_move ⟨Grew.refl _, rfl⟩, fun hn => absurd (hd.1 rfl) hn⟩
  · intro u w hR hd; exact ⟨fun _ => runs_lenb (ev (hd.1 rfl)) ⟨Grew.refl _, rfl⟩, fun hn => absurd (hd.2.1 rfl) hn⟩
  · intro u w hR hd; exact ⟨fun _ => runs_ldi (ev rfl) (HCk.out w hR) ⟨Grew.refl _, rfl⟩, fun hn => absurd (hd.1 rfl) hn⟩
  · intro u w hR hd; exact ⟨fun _ => runs_mini (ev (hd.1 rfl)) (ev (hd.2.1 rfl)) ⟨Grew.refl _, congrArg (Value.int .i64) Hwz.out⟩, fun hn => absurd (hd.2.2.1 rfl) hn⟩
  · intro u w hR hd; exact ⟨fun _ => runs_neql (ev (hd.1 rfl)) (ev (hd.2.1 rfl)) ⟨Grew.refl _, congrArg Value.bool (bne_self_eq_false wz)⟩, fun hn => absurd (hd.2.2.1 rfl) hn⟩
  · intro u w hR hd; exact runs_orb (ev (hd.1 rfl)) (fun _ => ev (hd.2.1 rfl)) ⟨Grew.refl _, rfl⟩
  intro u w hR h
  have he : u 63 = .bool false := h 29 (by decide)
  simp only [mixA, mixL, cond_true, cond_false]
  rw [he]
  replace HB := Lib.hid (Grew.trans (Grew.trans HB.out (Grew.drew w3)) hR)
  replace HS := Lib.hid (HS.out.grew (Grew.trans (Grew.drew w3) hR))
  have hcb := HCb.out w hR
  have HN2 : Hid (∀ j, Nvb g q s2.mt j → w0.heap.size ≤ j) := Lib.hid (by rw [Hm2.out]; exact HNb.out)
  have HV1 : Hid ((s2.off || !validB s2.B.length (-1) 1) = true) := Lib.hid (by simp [validB])
  have HV2 : Hid ((s2.off || !validB s2.B.length 128 1) = true) := Lib.hid (by rw [Hl2.out]; simp [validB])
  clear HCb HCk HOf HWr h
  go_wp2_with (first
    | (go_at_call 19; (first | with_reducible refine (write_no g q s2 (-1) _ HS.out HV1.out).mono ?_ | with_reducible refine (write_no g q s2 128 _ HS.out HV2.out).mono ?_); rintro e w4 ⟨rfl, s1, c1⟩; replace HB := Lib.hid (grew_lift HB.out c1 HN2.out); replace HS := Lib.hid s1; clear s1 c1)
    | (go_at_call 24; (with_reducible refine (poff_any g q s2 _ HS.out).mono ?_); rintro e w4 ⟨rfl, s1, c1⟩; replace HB := Lib.hid (grew_lift HB.out c1 HN2.out); have HS3 := Lib.hid s1; clear s1 c1 HS)
    | (go_at_call 19; (with_reducible refine (write_no g q _ 0 _ HS3.out rfl).mono ?_); rintro e w4 ⟨rfl, s1, c1⟩; replace HB := Lib.hid (grew_lift HB.out c1 HN2.out); replace hcb := (cells_of_heap ((Hm2.out ▸ (show s2.mt.rep w4 from s1.mt) : (Mt.up b (b + 1) z k).rep w4)).1 0).trans rfl; clear s1 c1 HS3))
  go_ret
  exact ⟨rfl, HB.out⟩
end Go.Proofs.Ytmfahmbebpojpaa
