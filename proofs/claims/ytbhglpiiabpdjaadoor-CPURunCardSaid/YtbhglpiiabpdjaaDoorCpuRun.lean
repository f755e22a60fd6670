/-
  LAYER 12 (cpu): Run.
-/
import Derived.Test.YtbhglpiiabpdjaaDoorCpuMs
import Derived.LoopTactic
namespace Go.Proofs.YtbhglpiiabpdjaaDoor
open Go Go.RowKit Go.IntWalk Go.WideShapes
set_option linter.unusedSimpArgs false
set_option linter.unusedVariables false
set_option maxRecDepth 8000
theorem runN_succ (I : Im) (j : Nat) (s : St) (W : Wd) : runN I (j + 1) s W = if (step I s W).2.1 = 1 then ((runN I j (step I s W).1 (step I s W).2.2).1, (runN I j (step I s W).1 (step I s W).2.2).2.1, (runN I j (step I s W).1 (step I s W).2.2).2.2.1 + 1, (runN I j (step I s W).1 (step I s W).2.2).2.2.2) else ((step I s W).1, (step I s W).2.1, 1, (step I s W).2.2) := rfl
/-- After k steps the run is as it is: the outcome o, the state, the bus. -/
def RunRel (I : Im) (L : Nat) (s : St) (W : Wd) (k : Nat) (o : Int) (s1 : St) (W1 : Wd) : Prop :=
  (o = 1 ∧ runN I L s W = ((runN I (L - k) s1 W1).1, (runN I (L - k) s1 W1).2.1, (runN I (L - k) s1 W1).2.2.1 + k, (runN I (L - k) s1 W1).2.2.2)) ∨ (o ≠ 1 ∧ runN I L s W = (s1, o, k, W1))
theorem RunRel.start (I : Im) (L : Nat) (s : St) (W : Wd) : RunRel I L s W 0 1 s W := .inl ⟨rfl, rfl⟩
theorem RunRel.next {I : Im} {L : Nat} {s : St} {W : Wd} {k : Nat} {s1 : St} {W1 : Wd} (h : RunRel I L s W k 1 s1 W1) (hk : k < L) : RunRel I L s W (k + 1) (step I s1 W1).2.1 (step I s1 W1).1 (step I s1 W1).2.2 := by
  rcases h with ⟨_, h⟩ | ⟨h, _⟩
  · obtain ⟨j, hj⟩ : ∃ j, L - k = j + 1 := ⟨L - k - 1, by omega⟩
    have hj2 : L - (k + 1) = j := by omega
    rw [hj] at h
    unfold RunRel
    rw [hj2, h, runN_succ]
    by_cases ho : (step I s1 W1).2.1 = 1
    · rw [if_pos ho]
      exact .inl ⟨ho, by dsimp only; rw [Nat.add_assoc, Nat.add_comm 1 k]⟩
    · rw [if_neg ho]
      exact .inr ⟨ho, by dsimp only; rw [Nat.add_comm 1 k]⟩
  · exact absurd rfl h
theorem RunRel.stop {I : Im} {L : Nat} {s : St} {W : Wd} {k : Nat} {o : Int} {s1 : St} {W1 : Wd} (h : RunRel I L s W k o s1 W1) (hk : o ≠ 1 ∨ L ≤ k) : runN I L s W = (s1, o, k, W1) := by
  rcases h with ⟨h0, h⟩ | ⟨_, h⟩
  · have hL : L - k = 0 := by rcases hk with h1 | h1; exact absurd h0 h1; omega
    rw [h, hL, h0]
    simp [runN]
  · exact h
set_option maxHeartbeats 4000000 in
theorem run_any (L : Nat) (I : Im) (s : St) (W : Wd) (N c p q : Nat) (S : Nat → Prop) (w : World) (hcb : Blk c (stv s) CPT w) (hbus : Bus N w q W S) (hIm : ImgAt N w p I) (hIo : I.Ok) (hE : EnvN N w) (hs : s.Ok) (hl : W.cs.length + 2 * L ≤ 70000) (hN : N ≤ w.heap.size) (hNc : N ≤ c) (hWo : W.Ok) :
    Calls Tryd.prog 18 #[.pointer (some ⟨c, 0, none⟩), .pointer (some ⟨p, 0, none⟩), (.iface 47 (.pointer (some ⟨q, 0, none⟩))), .int .i64 (L : Int)] w fun e w' => e = .returned (.tuple #[.int .i64 (runN I L s W).2.1, .int .i64 ((runN I L s W).2.2.1 : Nat)]) ∧ Pf CPT N c q S (runN I L s W).1 (runN I L s W).2.2.2 w w' ∧ (runN I L s W).1.Ok ∧ (runN I L s W).2.2.2.Ok ∧ (runN I L s W).2.2.2.cs.length ≤ W.cs.length + 2 * L := by
  have HP0 := Lib.hid (Pf.start hcb hbus)
  have HBUS := Lib.hid hbus
  have HI := Lib.hid hIm
  have HIo := Lib.hid hIo
  have HE := Lib.hid hE
  have HS := Lib.hid hs
  have HW := Lib.hid hWo
  have HL := Lib.hid hl
  have HN := Lib.hid hN
  have HNc := Lib.hid hNc
  have HNE : Hid (p ≠ c) := Lib.hid (hIm.ne hcb (by decide))
  have hLb : L ≤ 35000 := by omega
  clear hcb hbus hIm hIo hE hs hl hN hNc hWo
  go_enter Tryd.func18, Tryd.ntmps18
  go_wp2
  go_loopg [10, 11] L (fun gg ov nv wr => ∃ (k : Nat) (o : Int) (s1 : St) (W1 : Wd), ov = .int .i64 o ∧ nv = .int .i64 (k : Int) ∧ k ≤ L ∧ gg = L - k ∧ Hid (RunRel I L s W k o s1 W1) ∧ Hid (Pf CPT N c q S s1 W1 w wr) ∧ Hid (s1.Ok ∧ W1.Ok ∧ W1.cs.length ≤ W.cs.length + 2 * k))
  case atStart => exact ⟨0, 1, s, W, rfl, rfl, Nat.zero_le _, rfl, Lib.hid (RunRel.start I L s W), HP0, Lib.hid ⟨HS.out, HW.out, by omega⟩⟩
  case round =>
    obtain ⟨k, o, s1, W1, rfl, rfl, hk, rfl, HR, HP, HK⟩ := hrel
    by_cases ho : o = 1
    · subst ho
      by_cases hlt : k < L
      · have b0 : (k : Int) < (L : Int) := by omega
        go_wp2_with (go_at_call 14; obtain ⟨c7, S7, b7, m7⟩ := HP.out; (with_reducible refine (step_any I s1 W1 N c p q S7 _ c7 b7 (HP.out.img HBUS.out HNc.out HI.out HNE.out) HIo.out (HP.out.env HBUS.out HNc.out HE.out) HK.out.1 (by have := HK.out.2.2; have := HL.out; omega) (Nat.le_trans HN.out m7.size) HNc.out HK.out.2.1).mono ?_); rintro e w5 ⟨rfl, h5⟩; have HP5 := Lib.hid (Pf.chain m7 h5); clear c7 b7 m7 h5)
        go_roundg (L - (k + 1))
        case measure => omega
        case rel => exact ⟨k + 1, (step I s1 W1).2.1, (step I s1 W1).1, (step I s1 W1).2.2, rfl, by go_num, hlt, rfl, Lib.hid (HR.out.next hlt), HP5, Lib.hid ⟨(step_ok I HK.out.1 HK.out.2.1).1, (step_ok I HK.out.1 HK.out.2.1).2, by have := step_len I s1 W1; have := HK.out.2.2; omega⟩⟩
      · have b0 : ¬ (k : Int) < (L : Int) := by omega
        have HE' := Lib.hid (HR.out.stop (.inr (by omega)))
        go_wp2
        go_ret2
        rw [HE'.out]
        exact ⟨rfl, HP.out, HK.out.1, HK.out.2.1, by have := HK.out.2.2; show W1.cs.length ≤ _; omega⟩
    · have q0 : (o == 1) = false := by simpa using ho
      have HE' := Lib.hid (HR.out.stop (.inl ho))
      clear ho
      go_wp2
      go_ret2
      rw [HE'.out]
      exact ⟨rfl, HP.out, HK.out.1, HK.out.2.1, by have := HK.out.2.2; show W1.cs.length ≤ _; omega⟩
end Go.Proofs.YtbhglpiiabpdjaaDoor
