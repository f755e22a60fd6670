/-
  LAYER 6 (deadlinequeue): the statements' Replaces.
-/
import Derived.Test.YtjcoghjkjnhljaaDqOpen
namespace Go.Proofs.Ytjcoghjkjnhljaa
open Go Go.RowKit Go.IntWalk Go.Sort
set_option maxRecDepth 8000
set_option linter.unusedSimpArgs false

theorem St.start {w : World} {q : Nat} (h : QRep w q []) : St w q none 0 [] := ⟨h, RdI.nil _, fun h0 => absurd h0 (by simp)⟩
theorem rem_rem (id : Int) (L : List It) : rem id (rem id L) = rem id L := rem_none (rem_has id L)
theorem rem_push (id t : Int) (L : List It) : rem id (pushL L (id, t)) = rem id L := by
  unfold pushL
  have h := ins_perm (id, t) (rem id L)
  have hs : Srt (rem id L) → Srt (ins (id, t) (rem id L)) := ins_srt (id, t) _
  have aux : ∀ M : List It, rem id M = M → rem id (ins (id, t) M) = M := by
    intro M
    induction M with
    | nil => intro _; simp [ins, rem]
    | cons y M ih =>
      intro hM
      have hy : y.1 ≠ id := fun e => by
        have := congrArg List.length hM
        have h2 := rem_le id M
        simp only [rem] at this h2
        rw [List.filter_cons_of_neg (by simp [e])] at this
        simp at this
        omega
      have hM' : rem id M = M := by
        simp only [rem] at hM ⊢
        rw [List.filter_cons_of_pos (by simp [hy])] at hM
        exact (List.cons.inj hM).2
      unfold ins
      split
      · simp only [rem] at hM ⊢
        rw [List.filter_cons_of_neg (by simp)]
        exact hM
      · have := ih hM'
        simp only [rem] at this ⊢
        rw [List.filter_cons_of_pos (by simp [hy]), this]
  exact aux _ (rem_rem id L)
theorem has_push (id t : Int) (L : List It) : hasId id (pushL L (id, t)) = true := hasId_iff.2 ⟨(id, t), by unfold pushL; exact (ins_perm (id, t) (rem id L)).mem_iff.2 (by simp), rfl⟩
set_option maxHeartbeats 8000000 in
theorem replaces_any (p : Option Addr) (n c : Nat) (xs : List Opx) (id dl : Int) (w : World) (hl : xs.length = n) (h : RdO w p c xs) (hok : opOk xs) (hid : In64 id) :
    Calls Try.prog 5 #[.slice p n c, .int .i64 id, .int .i64 dl] w fun e w' => e = .returned (.bool true) ∧ Below w.heap.size w w' := by
  subst hl
  have HO := Lib.hid h
  have Hok := Lib.hid hok
  have Hidd := Lib.hid hid
  clear h hok hid
  by_cases hn : xs.length ≤ 60
  · have hn' : ¬ ((60 : Int) < (xs.length : Int)) := by omega
    go_enter Try.func5, Try.ntmps5
    go_wp2_with (go_at_call 10; (with_reducible refine (new_any _).mono ?_); rintro e w1 ⟨rfl, q1, g1⟩; have Q1 := Lib.hid q1; have G1 := Lib.hid g1; clear q1 g1)
    obtain ⟨q, hq⟩ : ∃ q, q = w.heap.size := ⟨_, rfl⟩
    rw [← hq] at Q1 ⊢
    have Hq := Lib.hid hq
    clear hq hn'
    go_loopg [8, 28] xs.length (fun gg lv iv wr => ∃ (k c' : Nat) (p' : Option Addr) (L : List It), lv = .slice p' L.length c' ∧ iv = .int .i64 (k : Int) ∧ k ≤ xs.length ∧ gg = xs.length - k ∧ L.length ≤ k ∧ Hid (St wr q p' c' L) ∧ Hid (Below w.heap.size w wr))
    case atStart => exact ⟨0, 0, none, [], rfl, rfl, Nat.zero_le _, rfl, Nat.le_refl _, Lib.hid (St.start Q1.out), G1⟩
    case round =>
      obtain ⟨k, c', p', L, rfl, rfl, hk, rfl, hLk, hS, hB⟩ := hrel
      by_cases hlt : k < xs.length
      · have hrk := HO.out.kept hB.out
        obtain ⟨bb, o, rfl, hx0, hx1, hx2⟩ := hrk.at hlt
        have Hin := Lib.hid (Hok.out.at hlt).1
        generalize xs.getD k (0, 0, 0) = x at hx0 hx1 hx2 Hin
        obtain ⟨x1, x2, x3⟩ := x
        simp only [] at hx0 hx1 hx2 Hin
        have hqs := hS.out.rep.lt
        clear hrk
        go_wp2_with (go_at_call 12; (with_reducible refine (do_any q L p' c' x1 x2 x3 _ (hS.out.grew (Grew.alloc (Grew.refl wr) _)) Hin.out (by omega)).mono ?_); rintro e w2 ⟨p2, c2, rfl, s2, o2⟩; have S2 := Lib.hid s2; have B2 := Lib.hid ((Below.alloc hB.out (Below.size hB.out) _).trans ((hS.out.grew (Grew.alloc (Grew.refl wr) _)).rep.below o2 (Nat.le_trans (Below.size hB.out) (by simp)) (by rw [← Hq.out]; exact Nat.le_refl _))); clear s2 o2)
        go_roundg (xs.length - (k + 1))
        case measure => omega
        case rel => exact ⟨k + 1, c2, p2, _, rfl, by go_num, by omega, rfl, by have := stepL_len L x1 x2 x3; omega, S2, B2⟩
      · obtain rfl : k = xs.length := by omega
        have hids := hS.out.rep.ids
        have hrl := rem_len hids id
        have hrp := rem_push id dl L
        have hhp := has_push id dl L
        have hpl : (pushL L (id, dl)).length = (rem id L).length + 1 := pushL_len L (id, dl)
        have hrr := rem_rem id L
        have hrh := rem_has id L
        have HRM : Hid (∀ W, Grew wr W → Calls Try.prog 21 #[.slice p' L.length c', .int .i64 id] W fun e w' => ∃ p2 c2, e = .returned (.tuple #[.slice p2 (rem id L).length c2, .bool (hasId id L)]) ∧ OwI w' W.heap.size 36 (.slice p2 (rem id L).length c2) (rem id L) ∧ Grew W w') :=
          Lib.hid fun W hW => rremove_any p' L.length c' L id W rfl (by omega) (hS.out.rd.kept hW)
        have HPU : Hid (∀ W, QRep W q L → Calls Try.prog 18 #[.pointer (some ⟨q, 0, none⟩), itv (id, dl)] W fun e w' => e = .returned (.tuple #[]) ∧ QRep w' q (pushL L (id, dl)) ∧ Off W.heap.size q W w') :=
          Lib.hid fun W hW => push_any q L (id, dl) W hW Hidd.out (by omega)
        have HQ := Lib.hid hS.out.rep
        clear hS hids
        have HLn : Hid (∀ W, QRep W q (pushL L (id, dl)) → Calls Try.prog 14 #[.pointer (some ⟨q, 0, none⟩)] W fun e w' => e = .returned (.int .i64 (((rem id L).length : Int) + 1)) ∧ W = w') :=
          Lib.hid fun W hW => by have := len_any q _ W hW; rw [hpl] at this; exact this
        have HR1 : Hid (∀ W, QRep W q (pushL L (id, dl)) → Calls Try.prog 22 #[.pointer (some ⟨q, 0, none⟩), .int .i64 id] W fun e w' => e = .returned (.bool true) ∧ QRep w' q (rem id L) ∧ Off W.heap.size q W w') :=
          Lib.hid fun W hW => by have := remove_any q _ id W hW Hidd.out (by omega); rwa [hrp, hhp] at this
        have HR2 : Hid (∀ W, QRep W q (rem id L) → Calls Try.prog 22 #[.pointer (some ⟨q, 0, none⟩), .int .i64 id] W fun e w' => e = .returned (.bool false) ∧ QRep w' q (rem id L) ∧ Off W.heap.size q W w') :=
          Lib.hid fun W hW => by have := remove_any q _ id W hW Hidd.out (by have := rem_len_le id L; omega); rwa [hrr, hrh] at this
        have hRl : (rem id L).length ≤ 1000 := by have := rem_len_le id L; omega
        have Hq' := Lib.hid (Nat.le_of_eq Hq.out.symm)
        clear hrp hhp hpl hrr hrh Hidd Hq
        generalize pushL L (id, dl) = M at HPU HLn HR1
        generalize rem id L = R at HRM HR1 HR2 HLn hrl hRl
        have HIt : Hid (∀ W, QRep W q R → Calls Try.prog 17 #[.pointer (some ⟨q, 0, none⟩)] W fun e w' => ∃ p3 c3, e = .returned (.slice p3 R.length c3) ∧ Its w' W.heap.size p3 c3 R ∧ Grew W w') :=
          Lib.hid fun W hW => items_any q R W hW (by omega)
        have HTo : Hid (∀ p3 c3 W, RdI W p3 c3 R → Calls Try.prog 16 #[.slice p3 R.length c3] W fun e w' => ∃ p4 c4, e = .returned (.slice p4 R.length c4) ∧ OwI w' W.heap.size 36 (.slice p4 R.length c4) R ∧ Grew W w') :=
          Lib.hid fun p3 c3 W hW => toref_any p3 _ c3 R W rfl (by omega) hW
        have HSa : Hid (∀ p3 c3 p4 c4 W, RdI W p3 c3 R → RdI W p4 c4 R → Calls Try.prog 15 #[.slice p3 R.length c3, .slice p4 R.length c4] W fun e w' => e = .returned (.bool true) ∧ Grew W w') :=
          Lib.hid fun p3 c3 p4 c4 W hW hW2 => by have := same_any p3 _ c3 R p4 _ c4 R W rfl rfl (by omega) hW hW2; simpa using this
        clear hk
        have hwas : hasId id L = ((R.length : Int) + 1 == (L.length : Int)) := by
          cases hb : hasId id L <;> rw [hb] at hrl <;> simp at hrl ⊢ <;> omega
        clear hrl
        rw [hwas] at HRM
        clear hwas
        generalize L.length = l at HRM ⊢
        generalize hm : R.length = m at HRM HLn HIt HTo HSa hRl
        have Hm := Lib.hid hm
        clear hm
        go_wp2_with (first
          | (go_at_call 21; (with_reducible refine (HRM.out _ (Grew.refl _)).mono ?_); rintro e w2 ⟨p2, c2, rfl, r2, g2⟩; have T2 := Lib.hid (And.intro (OwI.rd r2).2 (HQ.out.newOut (K := R) g2 (p := p2) fun a ha => (OwI.place r2 a ha).1)); have Q2 := Lib.hid (HQ.out.grew g2); have B2 := Lib.hid (hB.out.trans (Below.mono g2 (Below.size hB.out))); clear r2 g2 HRM)
          | (go_at_call 18; (with_reducible refine (HPU.out _ Q2.out).mono ?_); rintro e w3 ⟨rfl, r3, o3⟩; have T3 := Lib.hid (RdI.off T2.out.1 T2.out.2 o3 (Nat.le_refl _)); have Q3 := Lib.hid r3; have B3 := Lib.hid (B2.out.trans (Q2.out.below o3 (Below.size B2.out) Hq'.out)); clear r3 o3 HPU Q2 B2 T2)
          | (go_at_call 14; (with_reducible refine (HLn.out _ Q3.out).mono ?_); rintro e _ ⟨rfl, rfl⟩)
          | (go_at_call 22; (with_reducible refine (HR1.out _ Q3.out).mono ?_); rintro e w4 ⟨rfl, r4, o4⟩; have T4 := Lib.hid (RdI.off T3.out.1 T3.out.2 o4 (Nat.le_refl _)); have Q4 := Lib.hid r4; have B4 := Lib.hid (B3.out.trans (Q3.out.below o4 (Below.size B3.out) Hq'.out)); clear r4 o4 HR1 Q3 B3 T3)
          | (go_at_call 22; (with_reducible refine (HR2.out _ Q4.out).mono ?_); rintro e w5 ⟨rfl, r5, o5⟩; have T5 := Lib.hid (RdI.off T4.out.1 T4.out.2 o5 (Nat.le_refl _)); have Q5 := Lib.hid r5; have B5 := Lib.hid (B4.out.trans (Q4.out.below o5 (Below.size B4.out) Hq'.out)); clear r5 o5 HR2 Q4 B4 T4)
          | (go_at_call 17; (with_reducible refine (HIt.out _ Q5.out).mono ?_); rintro e w6 ⟨p6, c6, rfl, r6, g6⟩; have T6 := Lib.hid (And.intro (RdI.kept T5.out.1 g6) r6.rd); have B6 := Lib.hid (B5.out.trans (Below.mono g6 (Below.size B5.out))); clear r6 g6 HIt Q5 B5 T5)
          | (go_at_call 16; (with_reducible refine (HTo.out _ _ _ T6.out.2).mono ?_); rintro e w7 ⟨p7, c7, rfl, r7, g7⟩; have T7 := Lib.hid (And.intro (RdI.kept T6.out.1 g7) (OwI.rd r7).2); have B7 := Lib.hid (B6.out.trans (Below.mono g7 (Below.size B6.out))); clear r7 g7 HTo B6 T6)
          | (go_at_call 15; (with_reducible refine (HSa.out _ _ _ _ _ T7.out.2 T7.out.1).mono ?_); rintro e w8 ⟨rfl, g8⟩; have B8 := Lib.hid (B7.out.trans (Below.mono g8 (Below.size B7.out))); clear g8 HSa B7 T7)
          | (go_at_call 11; (with_reducible refine (examples_any _).mono ?_); rintro e w9 ⟨rfl, g9⟩; have B9 := Lib.hid (B8.out.trans (Below.mono g9 (Below.size B8.out))); clear g9 B8))
        go_ret
        exact ⟨rfl, B9.out⟩
  · have hn' : ((60 : Int) < (xs.length : Int)) := by omega
    clear hn HO Hok Hidd
    generalize xs.length = n at hn' ⊢
    go_enter Try.func5, Try.ntmps5
    go_wp2_with (first
      | (go_at_call 10; (with_reducible refine (new_any _).mono ?_); rintro e w1 ⟨rfl, q1, g1⟩; have G1 := Lib.hid g1; clear q1 g1)
      | (go_at_call 11; (with_reducible refine (examples_any _).mono ?_); rintro e w5 ⟨rfl, g5⟩; have G5 := Lib.hid (G1.out.trans g5); clear g5))
    go_ret
    exact ⟨rfl, G5.out⟩
end Go.Proofs.Ytjcoghjkjnhljaa
