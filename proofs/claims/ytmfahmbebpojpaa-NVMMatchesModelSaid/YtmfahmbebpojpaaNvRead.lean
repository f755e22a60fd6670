/-
  LAYER 7 (nvm): contracts of Read, ReadWord, Off, Writes, Arm, Meter, PowerOff, PowerOn.
-/
import Derived.Test.YtmfahmbebpojpaaNvWrite2
import Derived.Test.YtmfahmbebpojpaaRuns
import Derived.Deep.QuietTactic
import Derived.BigQuiet
import Derived.Laws.EntriesVeiled
namespace Go.Proofs.Ytmfahmbebpojpaa
open Go Go.RowKit Go.IntWalk
set_option linter.unusedSimpArgs false
set_option maxRecDepth 8000

theorem off_any (g q : Nat) (s : NV) (w : World) (h : NvS w g q s) : Calls Try.prog 17 #[.pointer (some ⟨q, 0, none⟩)] w fun e w' => e = .returned (.bool s.off) ∧ w = w' := by
  have h1 := h.rc.2.1
  clear h
  go_enter Try.func17, Try.ntmps17
  go_wp2
  go_ret
  exact ⟨rfl, rfl⟩
theorem writes_any (g q : Nat) (s : NV) (w : World) (h : NvS w g q s) : Calls Try.prog 18 #[.pointer (some ⟨q, 0, none⟩)] w fun e w' => e = .returned (.int .i64 s.wr) ∧ w = w' := by
  have h1 := h.rc.2.2.2.2.1
  clear h
  go_enter Try.func18, Try.ntmps18
  go_wp2
  go_ret
  exact ⟨rfl, rfl⟩
theorem poff_any (g q : Nat) (s : NV) (w : World) (h : NvS w g q s) : Calls Try.prog 24 #[.pointer (some ⟨q, 0, none⟩)] w fun e w' => e = .returned (.tuple #[]) ∧ NvS w' g q { s with off := true } ∧ Chg w w' (Nvb g q s.mt) := by
  have h1 := h.rc.2.1
  have hf := h.rc.2.2.2.2.2 1
  have HS := Lib.hid (h.set_off true)
  clear h
  go_enter Try.func24, Try.ntmps24
  go_wp2
  go_end0
  exact ⟨rfl, HS.out, (Chg.refl w _).then_set _ _ (.inr (.inl rfl))⟩
theorem pon_any (g q : Nat) (s : NV) (w : World) (h : NvS w g q s) : Calls Try.prog 20 #[.pointer (some ⟨q, 0, none⟩)] w fun e w' => e = .returned (.tuple #[]) ∧ NvS w' g q { s with off := false, left := -1 } ∧ Chg w w' (Nvb g q s.mt) := by
  have h1 := h.rc.2.1
  have h2 := h.rc.2.2.1
  have hf1 := h.rc.2.2.2.2.2 1
  have hf2 := h.rc.2.2.2.2.2 2
  have HS := Lib.hid ((h.set_off false).set_left (-1))
  clear h
  go_enter Try.func20, Try.ntmps20
  go_wp2
  go_end0
  exact ⟨rfl, HS.out, ((Chg.refl w _).then_set _ _ (.inr (.inl rfl))).then_set _ _ (.inr (.inl rfl))⟩
theorem arm_any (g q : Nat) (s : NV) (n : Int) (w : World) (h : NvS w g q s) : Calls Try.prog 15 #[.pointer (some ⟨q, 0, none⟩), .int .i64 n] w fun e w' => e = .returned (.tuple #[]) ∧ NvS w' g q { s with left := if n < -1 then -1 else n } ∧ Chg w w' (Nvb g q s.mt) := by
  have h2 := h.rc.2.2.1
  have hf2 := h.rc.2.2.2.2.2 2
  have HS := Lib.hid h
  clear h
  by_cases hn : n < -1
  · rw [if_pos hn]
    go_enter Try.func15, Try.ntmps15
    go_wp2
    go_end0
    exact ⟨rfl, HS.out.set_left _, (Chg.refl w _).then_set _ _ (.inr (.inl rfl))⟩
  · rw [if_neg hn]
    go_enter Try.func15, Try.ntmps15
    go_wp2
    go_end0
    exact ⟨rfl, HS.out.set_left _, (Chg.refl w _).then_set _ _ (.inr (.inl rfl))⟩
/-- A meter whose boxes lie elsewhere. -/
theorem meter_any (g q : Nat) (s : NV) (m : Mt) (w : World) (h : NvS w g q s) (hm : m.rep w) (hq : ∀ n b, (m = .down b n → b ≠ q)) (hu : ∀ b kb c k, m = .up b kb c k → b ≠ q ∧ kb ≠ q) :
    Calls Try.prog 22 #[.pointer (some ⟨q, 0, none⟩), m.val] w fun e w' => e = .returned (.tuple #[]) ∧ NvS w' g q { s with mt := m } ∧ Chg w w' (Nvb g q s.mt) := by
  have h2 := h.rc.2.2.2.1
  have hf2 := h.rc.2.2.2.2.2 3
  have HS := Lib.hid (h.set_mt m hm hq hu)
  clear h hm hq hu
  cases m with
  | no =>
    simp only [Mt.val] at HS ⊢
    go_enter Try.func22, Try.ntmps22
    go_wp2
    go_end0
    exact ⟨rfl, HS.out, (Chg.refl w _).then_set _ _ (.inr (.inl rfl))⟩
  | down b n =>
    simp only [Mt.val] at HS ⊢
    go_enter Try.func22, Try.ntmps22
    go_wp2
    go_end0
    exact ⟨rfl, HS.out, (Chg.refl w _).then_set _ _ (.inr (.inl rfl))⟩
  | up b kb c k =>
    simp only [Mt.val] at HS ⊢
    go_enter Try.func22, Try.ntmps22
    go_wp2
    go_end0
    exact ⟨rfl, HS.out, (Chg.refl w _).then_set _ _ (.inr (.inl rfl))⟩
theorem read_any (g q : Nat) (s : NV) (a : Int) (w : World) (h : NvS w g q s) : Calls Try.prog 27 #[.pointer (some ⟨q, 0, none⟩), .int .i64 a] w fun e w' => e = .returned (bv (rd1 s a)) ∧ w = w' := by
  have HV := Lib.hid (valid_any g q s a 1 w h (by omega))
  have H := Lib.hid h
  obtain ⟨h0, h1, -⟩ := h.rc
  have hm := h.most
  clear h
  cases ho : s.off with
  | true =>
    have e : rd1 s a = 0 := by simp [rd1, ho]
    rw [e]
    rw [ho] at h1
    clear e ho
    go_enter Try.func27, Try.ntmps27
    go_wp2
    go_ret
    exact ⟨rfl, rfl⟩
  | false =>
    rw [ho] at h1
    cases hv : validB s.B.length a 1 with
    | false =>
      have e : rd1 s a = 0 := by simp [rd1, ho, hv]
      rw [e]
      rw [hv] at HV
      clear e ho hv
      go_enter Try.func27, Try.ntmps27
      go_wp2_with (go_at_call 39; (with_reducible refine HV.out.mono ?_); rintro e _ ⟨rfl, rfl⟩)
      go_ret
      exact ⟨rfl, rfl⟩
    | true =>
      obtain ⟨ha0, -, ha1⟩ := validB_iff.1 hv
      obtain ⟨k, rfl⟩ : ∃ k : Nat, a = (k : Int) := ⟨a.toNat, by omega⟩
      have hk : k < s.B.length := by omega
      have hc := (H.out.bc hk).1
      have e : rd1 s k = s.B.getD k 0 := by simp [rd1, ho, hv]
      rw [e]
      rw [hv] at HV
      clear e ho hv
      generalize s.B.getD k 0 = x at hc
      go_enter Try.func27, Try.ntmps27
      go_wp2_with (go_at_call 39; (with_reducible refine HV.out.mono ?_); rintro e _ ⟨rfl, rfl⟩)
      go_ret
      exact ⟨rfl, rfl⟩
theorem wrap16 (n : Int) : IntKind.i16.wrap n = (n + 32768) % 65536 - 32768 := by
  simp [IntKind.wrap, IntKind.bits, IntKind.signed]
  omega
/-- The two bytes of a word, joined. -/
theorem i16_join (x y : UInt8) : bits .or .i16 (IntKind.i16.wrap (x.toNat : Int)) (IntKind.i16.wrap (IntKind.i16.wrap (y.toNat : Int) * 256)) = IntKind.i16.wrap ((x.toNat : Int) + 256 * (y.toNat : Int)) := by
  have hx := x.toNat_lt
  have hy := y.toNat_lt
  generalize x.toNat = a at hx
  generalize y.toNat = b at hy
  have h1 : BitVec.ofInt 16 (IntKind.i16.wrap (a : Int)) = BitVec.ofNat 16 a := by
    apply BitVec.eq_of_toNat_eq
    simp only [BitVec.toNat_ofInt, BitVec.toNat_ofNat, wrap16]
    omega
  have h2 : BitVec.ofInt 16 (IntKind.i16.wrap (IntKind.i16.wrap (b : Int) * 256)) = BitVec.ofNat 16 (256 * b) := by
    apply BitVec.eq_of_toNat_eq
    simp only [BitVec.toNat_ofInt, BitVec.toNat_ofNat, wrap16]
    omega
  have h3 := Nat.two_pow_add_eq_or_of_lt (i := 8) (b := a) (by omega) b
  have e : bits .or .i16 (IntKind.i16.wrap (a : Int)) (IntKind.i16.wrap (IntKind.i16.wrap (b : Int) * 256)) = IntKind.i16.wrap ((BitVec.ofInt 16 (IntKind.i16.wrap (a : Int)) ||| BitVec.ofInt 16 (IntKind.i16.wrap (IntKind.i16.wrap (b : Int) * 256))).toNat : Int) := rfl
  rw [e, h1, h2]
  simp only [BitVec.toNat_or, BitVec.toNat_ofNat]
  rw [Nat.mod_eq_of_lt (show a < 2 ^ 16 by omega), Nat.mod_eq_of_lt (show 256 * b < 2 ^ 16 by omega), Nat.or_comm]
  have h4 : 256 * b ||| a = 256 * b + a := by rw [show 256 = 2 ^ 8 from rfl, ← h3]
  rw [h4]
  congr 1
  omega
theorem readWord_any (g q : Nat) (s : NV) (a : Int) (w : World) (h : NvS w g q s) : Calls Try.prog 26 #[.pointer (some ⟨q, 0, none⟩), .int .i64 a] w fun e w' => e = .returned (.int .i16 (rdw s a)) ∧ Grew w w' := by
  have HV := Lib.hid (valid_any g q s a 2 w h (by omega))
  have H := Lib.hid h
  obtain ⟨h0, h1, -⟩ := h.rc
  have hm := h.most
  clear h
  cases ho : s.off with
  | true =>
    have e : rdw s a = 0 := by simp [rdw, ho]
    rw [e]
    rw [ho] at h1
    clear e ho
    go_enter Try.func26, Try.ntmps26
    go_wp2
    go_ret
    exact ⟨rfl, Grew.refl _⟩
  | false =>
    rw [ho] at h1
    cases hv : validB s.B.length a 2 with
    | false =>
      have e : rdw s a = 0 := by simp [rdw, ho, hv]
      rw [e]
      rw [hv] at HV
      clear e ho hv
      go_enter Try.func26, Try.ntmps26
      go_wp2_with (go_at_call 39; (with_reducible refine HV.out.mono ?_); rintro e _ ⟨rfl, rfl⟩)
      go_ret
      exact ⟨rfl, Grew.refl _⟩
    | true =>
      obtain ⟨ha0, -, ha1⟩ := validB_iff.1 hv
      obtain ⟨k, rfl⟩ : ∃ k : Nat, a = (k : Int) := ⟨a.toNat, by omega⟩
      have hk : k + 1 < s.B.length := by omega
      have hk0 : k < s.B.length := by omega
      have hc : w.cell? ⟨g, k, none⟩ = some (.int .u8 ((s.B.getD k 0).toNat : Int)) := (H.out.bc hk0).1
      have hc2 : w.cell? ⟨g, k + 1, none⟩ = some (.int .u8 ((s.B.getD (k + 1) 0).toNat : Int)) := (H.out.bc hk).1
      have e : rdw s k = IntKind.i16.wrap (((s.B.getD k 0).toNat : Int) + 256 * ((s.B.getD (k + 1) 0).toNat : Int)) := by simp [rdw, ho, hv]
      rw [e]
      rw [hv] at HV
      clear e ho hv
      generalize s.B.getD k 0 = x at hc
      generalize s.B.getD (k + 1) 0 = y at hc2
      have hw : IntKind.i64.wrap ((k : Int) + 1) = ((k + 1 : Nat) : Int) := by rw [IntWalk.i64_in _ (by omega)]; omega
      go_enter Try.func26, Try.ntmps26
      go_wp2_with (go_at_call 39; (with_reducible refine HV.out.mono ?_); rintro e _ ⟨rfl, rfl⟩)
      go_quiet (fail)
      go_wp2
      rw [i16_join]
      go_ret
      exact ⟨rfl, Grew.drwN (Grew.refl _) _⟩
end Go.Proofs.Ytmfahmbebpojpaa
