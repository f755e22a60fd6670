/-
  LAYER 7 (nvm): contracts of valid, Write, WriteBytes, WriteWord.
-/
import Derived.Test.YtmfahmbebpojpaaNvPaid
import Derived.Deep.LoopGhost
namespace Go.Proofs.Ytmfahmbebpojpaa
open Go Go.RowKit Go.IntWalk
set_option linter.unusedSimpArgs false
set_option maxRecDepth 8000

theorem valid_any (g q : Nat) (s : NV) (a n : Int) (w : World) (h : NvS w g q s) (hn : n ≤ 9223372036854775807) :
    Calls Try.prog 39 #[.pointer (some ⟨q, 0, none⟩), .int .i64 a, .int .i64 n] w fun e w' => e = .returned (.bool (validB s.B.length a n)) ∧ w = w' := by
  have h0 := h.rc.1
  have hm := h.most
  clear h
  generalize s.B.length = l at h0 hm
  unfold validB
  by_cases h1 : 0 ≤ a
  · by_cases h2 : 0 ≤ n
    · have hw : IntKind.i64.wrap ((l : Int) - n) = (l : Int) - n := IntWalk.i64_in _ (by omega)
      go_enter Try.func39, Try.ntmps39
      go_wp2
      go_ret
      simp [h1, h2]
    · go_enter Try.func39, Try.ntmps39
      go_wp2
      go_ret
      simp [h1, h2]
      intros
      omega
  · go_enter Try.func39, Try.ntmps39
    go_wp2
    go_ret
    simp [h1]
    intros
    omega
theorem write_any (g q : Nat) (s : NV) (a : Int) (x : UInt8) (w : World) (h : NvS w g q s) :
    Calls Try.prog 19 #[.pointer (some ⟨q, 0, none⟩), .int .i64 a, .int .u8 (x.toNat : Int)] w fun e w' => e = .returned (.bool (wr1 s a x).2) ∧ NvS w' g q (wr1 s a x).1 ∧ Chg w w' (Nvb g q s.mt) := by
  have HV := Lib.hid (valid_any g q s a 1 w h (by omega))
  have HP := Lib.hid (paid_any g q s w h)
  have H := Lib.hid h
  obtain ⟨_, hoff, hleft, _, _, hfz⟩ := h.rc
  clear h
  cases ho : s.off with
  | true =>
    have hr : wr1 s a x = (s, false) := by simp [wr1, ho]
    rw [hr]
    rw [ho] at hoff
    clear hr ho
    go_enter Try.func19, Try.ntmps19
    go_wp2
    go_ret
    exact ⟨rfl, H.out, Chg.refl _ _⟩
  | false =>
  rw [ho] at hoff
  cases hv : validB s.B.length a 1 with
  | false =>
    have hr : wr1 s a x = (s, false) := by simp [wr1, ho, hv]
    rw [hr]
    rw [hv] at HV
    clear hr ho hv
    go_enter Try.func19, Try.ntmps19
    go_wp2_with (go_at_call 39; (with_reducible refine HV.out.mono ?_); rintro e _ ⟨rfl, rfl⟩)
    go_ret
    exact ⟨rfl, H.out, Chg.refl _ _⟩
  | true =>
  obtain ⟨ha0, _, ha1⟩ := validB_iff.1 hv
  by_cases hl : s.left = 0
  · have hr : wr1 s a x = ({ s with off := true }, false) := by simp [wr1, ho, hv, hl]
    rw [hr]
    rw [hv] at HV
    rw [hl] at hleft
    have hf1 := hfz 1
    have HC : Chg w (w.setCell ⟨q, 1, none⟩ (.bool true)) (Nvb g q s.mt) := (Chg.refl w _).then_set _ _ (.inr (.inl rfl))
    have HS := H.out.set_off true
    clear hr ho hv
    go_enter Try.func19, Try.ntmps19
    go_wp2_with (go_at_call 39; (with_reducible refine HV.out.mono ?_); rintro e _ ⟨rfl, rfl⟩)
    go_ret
    exact ⟨rfl, HS, HC⟩
  cases hp : s.mt.pays with
  | false =>
    have hr : wr1 s a x = ({ s with off := true, mt := s.mt.spent }, false) := by simp [wr1, ho, hv, hl, hp]
    rw [hr]
    rw [hv] at HV
    rw [hp] at HP
    clear hr ho hv
    go_enter Try.func19, Try.ntmps19
    go_wp2_with (first
      | (go_at_call 39; (with_reducible refine HV.out.mono ?_); rintro e _ ⟨rfl, rfl⟩)
      | (go_at_call 40; (with_reducible refine HP.out.mono ?_); rintro e w1 ⟨rfl, s1, c1⟩; have hf1 := s1.rc.2.2.2.2.2 1; have ho1 := s1.rc.2.1; have S1 := Lib.hid s1; have C1 := Lib.hid c1; clear s1 c1))
    go_ret
    exact ⟨rfl, S1.out.set_off true, (C1.out.mono fun k hk => .inr (.inr hk)).then_set _ _ (.inr (.inl rfl))⟩
  | true =>
  have hr : wr1 s a x = ({ s with B := s.B.set a.toNat x, left := if 0 < s.left then wrap64 (s.left - 1) else s.left, mt := s.mt.spent, wr := wrap64 (s.wr + 1) }, true) := by simp [wr1, ho, hv, hl, hp]
  rw [hr]
  rw [hv] at HV
  rw [hp] at HP
  clear hr ho hv
  obtain ⟨k, rfl⟩ : ∃ k : Nat, a = (k : Int) := ⟨a.toNat, by omega⟩
  have hk : k < s.B.length := by omega
  have hl0 : (s.left == 0) = false := by simp [hl]
  have hne := H.out.ne
  have hne' := H.out.ne.symm
  clear hl hfz
  by_cases hpos : 0 < s.left
  · rw [if_pos hpos]
    go_enter Try.func19, Try.ntmps19
    go_wp2_with (first
      | (go_at_call 39; (with_reducible refine HV.out.mono ?_); rintro e _ ⟨rfl, rfl⟩)
      | (go_at_call 40; (with_reducible refine HP.out.mono ?_); rintro e w1 ⟨rfl, s1, c1⟩; obtain ⟨hq0, -, hq2, -, hq4, hqf⟩ := s1.rc; have hb0 := (s1.bc hk).1; have hb1 := (s1.bc hk).2; have S1 := Lib.hid s1; have C1 := Lib.hid c1; clear s1 c1))
    go_ret
    exact ⟨rfl, ((S1.out.set_byte k x).set_wr _).set_left _, (((C1.out.mono fun k hk => .inr (.inr hk)).then_set _ _ (.inl rfl)).then_set _ _ (.inr (.inl rfl))).then_set _ _ (.inr (.inl rfl))⟩
  · rw [if_neg hpos]
    go_enter Try.func19, Try.ntmps19
    go_wp2_with (first
      | (go_at_call 39; (with_reducible refine HV.out.mono ?_); rintro e _ ⟨rfl, rfl⟩)
      | (go_at_call 40; (with_reducible refine HP.out.mono ?_); rintro e w1 ⟨rfl, s1, c1⟩; obtain ⟨hq0, -, hq2, -, hq4, hqf⟩ := s1.rc; have hb0 := (s1.bc hk).1; have hb1 := (s1.bc hk).2; have S1 := Lib.hid s1; have C1 := Lib.hid c1; clear s1 c1))
    go_ret
    exact ⟨rfl, (S1.out.set_byte k x).set_wr _, ((C1.out.mono fun k hk => .inr (.inr hk)).then_set _ _ (.inl rfl)).then_set _ _ (.inr (.inl rfl))⟩
end Go.Proofs.Ytmfahmbebpojpaa
