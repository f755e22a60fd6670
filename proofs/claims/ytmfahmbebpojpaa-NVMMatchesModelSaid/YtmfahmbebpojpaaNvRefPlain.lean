/-
  LAYER 7 (nvm), plainly: the reference's memory, and that it goes along with the program's.
-/
import Derived.Test.YtmfahmbebpojpaaNvPure
namespace Go.Proofs.Ytmfahmbebpojpaa
open Go Go.RowKit Go.IntWalk
set_option linter.unusedSimpArgs false

/-- The reference's memory. -/
structure RM where
  B : List UInt8
  off : Bool
  armed : Bool
  left : Int
  metered : Bool
  bud : Int
  wr : Int
def rwr1 (x : RM) (a : Int) (y : UInt8) : RM × Bool :=
  if !validB x.B.length a 1 || x.off then (x, false)
  else if x.armed && x.left == 0 then ({ x with off := true }, false)
  else if x.metered && decide (x.bud ≤ 0) then ({ x with off := true }, false)
  else ({ x with B := x.B.set a.toNat y, left := if x.armed then wrap64 (x.left - 1) else x.left, bud := if x.metered then wrap64 (x.bud - 1) else x.bud, wr := wrap64 (x.wr + 1) }, true)
def rwrL (x : RM) (a : Int) : List UInt8 → RM × Bool
  | [] => (x, true)
  | y :: ys => if (rwr1 x a y).2 then rwrL (rwr1 x a y).1 (a + 1) ys else ((rwr1 x a y).1, false)
def rwrs (x : RM) (a : Int) (ys : List UInt8) : RM × Bool := if !validB x.B.length a ys.length || x.off then (x, false) else rwrL x a ys

/-- The two meters go along: L is how far the count may have gone. -/
def SimM (L : Int) (m : Mt) (x : RM) : Prop := (m = .no ∧ x.metered = false) ∨ ∃ b n, m = .down b n ∧ x.metered = true ∧ L ≤ n ∧ n ≤ 1000 ∧ x.bud = (if 0 ≤ n then n else 0)
/-- The program's memory and the reference's go along. -/
structure Sim (L : Int) (s : NV) (x : RM) : Prop where
  B : s.B = x.B
  off : s.off = x.off
  wr : s.wr = x.wr
  left : (x.armed = true ∧ s.left = x.left ∧ 0 ≤ x.left ∧ x.left ≤ 9223372036854775807) ∨ (x.armed = false ∧ s.left = -1)
  mt : SimM L s.mt x
theorem SimM.mono {L L' : Int} {m : Mt} {x : RM} (h : SimM L m x) (hl : L' ≤ L) : SimM L' m x := by
  rcases h with h | ⟨b, n, h1, h2, h3, h4⟩
  · exact .inl h
  · exact .inr ⟨b, n, h1, h2, Int.le_trans hl h3, h4⟩
theorem Sim.mono {L L' : Int} {s : NV} {x : RM} (h : Sim L s x) (hl : L' ≤ L) : Sim L' s x := ⟨h.B, h.off, h.wr, h.left, h.mt.mono hl⟩
/-- One write: the same answer; behind a success nothing is lost of the bound, behind a failure one. -/
theorem sim_wr1 {L : Int} {s : NV} {x : RM} (h : Sim L s x) (hL : -9223372036854775807 ≤ L ∧ L ≤ 0) (a : Int) (y : UInt8) :
    (wr1 s a y).2 = (rwr1 x a y).2 ∧ Sim (if (wr1 s a y).2 then L else L - 1) (wr1 s a y).1 (rwr1 x a y).1 ∧ ((wr1 s a y).2 = true → s.off = false ∧ (wr1 s a y).1.off = false) := by
  obtain ⟨B, off, left, mt, wr⟩ := s
  obtain ⟨B', off', armed, left', metered, bud, wr'⟩ := x
  obtain ⟨hB, ho, hw, hl, hm⟩ := h
  replace hB : B = B' := hB
  replace ho : off = off' := ho
  replace hw : wr = wr' := hw
  subst hB ho hw
  cases off with
  | true =>
    simp only [wr1, rwr1, Bool.true_or, Bool.or_true, if_true, Bool.false_eq_true, if_false]
    exact ⟨trivial, ⟨rfl, rfl, rfl, hl, hm.mono (by omega)⟩, fun h => h.elim⟩
  | false =>
    cases hv : validB B.length a 1 with
    | false =>
      simp only [wr1, rwr1, hv, Bool.not_false, Bool.true_or, Bool.or_true, if_true, Bool.false_eq_true, if_false]
      exact ⟨trivial, ⟨rfl, rfl, rfl, hl, hm.mono (by omega)⟩, fun h => h.elim⟩
    | true =>
      rcases hl with ⟨ha, hl1, hl2, hl3⟩ | ⟨ha, hl1⟩
      · replace ha : armed = true := ha
        replace hl1 : left = left' := hl1
        subst ha hl1
        by_cases hz : left = 0
        · subst hz
          simp only [wr1, rwr1, hv, Bool.not_true, Bool.or_false, Bool.false_or, Bool.false_eq_true, if_false, if_true, Bool.true_and, beq_self_eq_true]
          exact ⟨trivial, ⟨rfl, rfl, rfl, .inl ⟨rfl, rfl, hl2, hl3⟩, hm.mono (by omega)⟩, fun h => h.elim⟩
        · have hz' : (left == 0) = false := by simp [hz]
          replace hl2 : 0 ≤ left := hl2
          replace hl3 : left ≤ 9223372036854775807 := hl3
          have hp : 0 < left := by omega
          have hwl : wrap64 (left - 1) = left - 1 := wrap64_in _ (by omega)
          rcases hm with ⟨hm1, hm2⟩ | ⟨b, n, hm1, hm2, hm3, hm4, hm5⟩
          · replace hm1 : mt = .no := hm1
            replace hm2 : metered = false := hm2
            subst hm1 hm2
            simp only [wr1, rwr1, hv, hz, hz', hp, hwl, Mt.pays, Mt.spent, Bool.not_true, Bool.or_false, Bool.false_or, Bool.false_eq_true, if_false, if_true, Bool.true_and, Bool.false_and, Bool.and_false, reduceCtorEq]
            exact ⟨trivial, ⟨rfl, rfl, rfl, .inl ⟨rfl, rfl, by show 0 ≤ left - 1; omega, by show left - 1 ≤ _; omega⟩, .inl ⟨rfl, rfl⟩⟩, fun _ => ⟨trivial, trivial⟩⟩
          · replace hm1 : mt = .down b n := hm1
            replace hm2 : metered = true := hm2
            replace hm5 : bud = (if 0 ≤ n then n else 0) := hm5
            subst hm1 hm2
            have hwn : wrap64 (n - 1) = n - 1 := wrap64_in _ (by omega)
            by_cases hn : 1 ≤ n
            · have hb : bud = n := by rw [hm5, if_pos (by omega)]
              subst hb
              have hd : decide (bud ≤ 0) = false := by simp; omega
              have hd2 : decide (0 ≤ bud - 1) = true := by simp; omega
              simp only [wr1, rwr1, hv, hz, hz', hp, hwl, hwn, hd, hd2, Mt.pays, Mt.spent, Bool.not_true, Bool.or_false, Bool.false_or, Bool.false_eq_true, if_false, if_true, Bool.true_and, Bool.and_false, reduceCtorEq]
              exact ⟨trivial, ⟨rfl, rfl, rfl, .inl ⟨rfl, rfl, by show 0 ≤ left - 1; omega, by show left - 1 ≤ _; omega⟩, .inr ⟨b, bud - 1, rfl, rfl, by omega, by omega, by show bud - 1 = _; rw [if_pos (show 0 ≤ bud - 1 by omega)]⟩⟩, fun _ => ⟨trivial, trivial⟩⟩
            · have hd : decide (bud ≤ 0) = true := by simp; rw [hm5]; split <;> omega
              have hd2 : decide (0 ≤ n - 1) = false := by simp; omega
              simp only [wr1, rwr1, hv, hz, hz', hwn, hd, hd2, Mt.pays, Mt.spent, Bool.not_true, Bool.or_false, Bool.false_or, Bool.false_eq_true, if_false, if_true, Bool.true_and, Bool.and_true]
              exact ⟨trivial, ⟨rfl, rfl, rfl, .inl ⟨rfl, rfl, hl2, hl3⟩, .inr ⟨b, n - 1, rfl, rfl, by omega, by omega, by show bud = _; rw [hm5, if_neg (show ¬ 0 ≤ n - 1 by omega)]; split <;> omega⟩⟩, fun h => h.elim⟩
      · replace ha : armed = false := ha
        replace hl1 : left = -1 := hl1
        subst ha hl1
        have hz : ¬ ((-1 : Int) = 0) := by decide
        have hp : ¬ (0 : Int) < -1 := by decide
        rcases hm with ⟨hm1, hm2⟩ | ⟨b, n, hm1, hm2, hm3, hm4, hm5⟩
        · replace hm1 : mt = .no := hm1
          replace hm2 : metered = false := hm2
          subst hm1 hm2
          simp only [wr1, rwr1, hv, hz, hp, Mt.pays, Mt.spent, Bool.not_true, Bool.or_false, Bool.false_or, Bool.false_eq_true, if_false, if_true, Bool.true_and, Bool.false_and, Bool.and_false, reduceCtorEq]
          exact ⟨trivial, ⟨rfl, rfl, rfl, .inr ⟨rfl, rfl⟩, .inl ⟨rfl, rfl⟩⟩, fun _ => ⟨trivial, trivial⟩⟩
        · replace hm1 : mt = .down b n := hm1
          replace hm2 : metered = true := hm2
          replace hm5 : bud = (if 0 ≤ n then n else 0) := hm5
          subst hm1 hm2
          have hwn : wrap64 (n - 1) = n - 1 := wrap64_in _ (by omega)
          by_cases hn : 1 ≤ n
          · have hb : bud = n := by rw [hm5, if_pos (by omega)]
            subst hb
            have hd : decide (bud ≤ 0) = false := by simp; omega
            have hd2 : decide (0 ≤ bud - 1) = true := by simp; omega
            simp only [wr1, rwr1, hv, hz, hp, hwn, hd, hd2, Mt.pays, Mt.spent, Bool.not_true, Bool.or_false, Bool.false_or, Bool.false_eq_true, if_false, if_true, Bool.true_and, Bool.false_and, Bool.and_false, reduceCtorEq]
            exact ⟨trivial, ⟨rfl, rfl, rfl, .inr ⟨rfl, rfl⟩, .inr ⟨b, bud - 1, rfl, rfl, by omega, by omega, by show bud - 1 = _; rw [if_pos (show 0 ≤ bud - 1 by omega)]⟩⟩, fun _ => ⟨trivial, trivial⟩⟩
          · have hd : decide (bud ≤ 0) = true := by simp; rw [hm5]; split <;> omega
            have hd2 : decide (0 ≤ n - 1) = false := by simp; omega
            simp only [wr1, rwr1, hv, hz, hwn, hd, hd2, Mt.pays, Mt.spent, Bool.not_true, Bool.or_false, Bool.false_or, Bool.false_eq_true, if_false, if_true, Bool.true_and, Bool.false_and, Bool.and_true]
            exact ⟨trivial, ⟨rfl, rfl, rfl, .inr ⟨rfl, rfl⟩, .inr ⟨b, n - 1, rfl, rfl, by omega, by omega, by show bud = _; rw [hm5, if_neg (show ¬ 0 ≤ n - 1 by omega)]; split <;> omega⟩⟩, fun h => h.elim⟩
theorem sim_wrL (ys : List UInt8) : ∀ {L : Int} {s : NV} {x : RM} (a : Int), Sim L s x → -9223372036854775807 ≤ L ∧ L ≤ 0 → s.off = false →
    (wrL s a ys).2 = (rwrL x a ys).2 ∧ Sim (L - 1) (wrL s a ys).1 (rwrL x a ys).1 ∧ ((wrL s a ys).2 = true → (wrL s a ys).1.off = false) := by
  induction ys with
  | nil =>
    intro L s x a h hL ho
    exact ⟨rfl, h.mono (by omega), fun _ => ho⟩
  | cons y ys ih =>
    intro L s x a h hL ho
    obtain ⟨h1, h2, h3⟩ := sim_wr1 h hL a y
    simp only [wrL, rwrL, ← h1]
    cases hr : (wr1 s a y).2 with
    | true =>
      rw [hr] at h2 h3
      simp only [if_true]
      exact ih (a + 1) h2 hL (h3 rfl).2
    | false =>
      rw [hr] at h2
      simp only [Bool.false_eq_true, if_false]
      exact ⟨trivial, h2, fun h => h.elim⟩
theorem sim_wrs {L : Int} {s : NV} {x : RM} (h : Sim L s x) (hL : -9223372036854775807 ≤ L ∧ L ≤ 0) (a : Int) (ys : List UInt8) :
    (wrs s a ys).2 = (rwrs x a ys).2 ∧ Sim (L - 1) (wrs s a ys).1 (rwrs x a ys).1 := by
  unfold wrs rwrs
  rw [← h.B]
  cases hv : validB s.B.length a ys.length with
  | false =>
    simp only [Bool.false_eq_true, if_false, Bool.not_false, Bool.true_or, if_true]
    exact ⟨trivial, h.mono (by omega)⟩
  | true =>
    cases ho : s.off with
    | true =>
      have hx : x.off = true := h.off.symm.trans ho
      simp only [hx, if_true, Bool.not_true, Bool.or_true]
      have e : wrL s a ys = (s, decide (ys = [])) := by
        cases ys with
        | nil => rfl
        | cons y ys =>
          have : wr1 s a y = (s, false) := by simp [wr1, ho]
          simp [wrL, this]
      rw [e]
      exact ⟨by simp [ho], h.mono (by omega)⟩
    | false =>
      have hx : x.off = false := h.off.symm.trans ho
      obtain ⟨h1, h2, h3⟩ := sim_wrL ys a h hL ho
      simp only [hx, if_true, Bool.not_true, Bool.or_false, Bool.false_eq_true, if_false]
      refine ⟨?_, h2⟩
      rw [← h1]
      cases hr : (wrL s a ys).2 with
      | true => rw [h3 hr]; rfl
      | false => rfl
theorem rwr1_len (x : RM) (a : Int) (y : UInt8) : (rwr1 x a y).1.B.length = x.B.length := by
  unfold rwr1
  split
  · rfl
  · split
    · rfl
    · split
      · rfl
      · simp
end Go.Proofs.Ytmfahmbebpojpaa
