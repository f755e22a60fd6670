/-
  LAYER 6 (deadlinequeue): container/heap on the queue's heap.
-/
import Derived.Test.YtjcoghjkjnhljaaDqHPop
import Derived.Deep.LoopGhost
namespace Go.Proofs.Ytjcoghjkjnhljaa
open Go Go.RowKit Go.IntWalk Go.Sort
set_option maxRecDepth 8000
set_option linter.unusedSimpArgs false

/-- The queue's heap as a value of heap.Interface. -/
abbrev hv (q : Nat) : Value := .iface 70 (.pointer (some ⟨q, 0, none⟩))
theorem meth_Len (q : Nat) : ∀ w, (method 228 70 (.pointer (some ⟨q, 0, none⟩)) "Len").run Try.prog w = .ok (29, .pointer (some ⟨q, 0, none⟩)) w := fun _ => by kernel_rfl
theorem meth_Less (q : Nat) : ∀ w, (method 228 70 (.pointer (some ⟨q, 0, none⟩)) "Less").run Try.prog w = .ok (82, .pointer (some ⟨q, 0, none⟩)) w := fun _ => by kernel_rfl
theorem meth_Swap (q : Nat) : ∀ w, (method 228 70 (.pointer (some ⟨q, 0, none⟩)) "Swap").run Try.prog w = .ok (85, .pointer (some ⟨q, 0, none⟩)) w := fun _ => by kernel_rfl
theorem meth_Push (q : Nat) : ∀ w, (method 228 70 (.pointer (some ⟨q, 0, none⟩)) "Push").run Try.prog w = .ok (84, .pointer (some ⟨q, 0, none⟩)) w := fun _ => by kernel_rfl
theorem meth_Pop (q : Nat) : ∀ w, (method 228 70 (.pointer (some ⟨q, 0, none⟩)) "Pop").run Try.prog w = .ok (83, .pointer (some ⟨q, 0, none⟩)) w := fun _ => by kernel_rfl

theorem lessQ (q : Nat) (d : Array It) (I J : Int) (i j : Nat) (b : Bool) (w : World) (h : Que w q d) (hI : I = (i : Int)) (hJ : J = (j : Int)) (hi : i < d.size) (hj : j < d.size) (hb : bef d[i]! d[j]! = b) :
    Calls Try.prog 82 #[.pointer (some ⟨q, 0, none⟩), .int .i64 I, .int .i64 J] w fun e w' => e = .returned (.bool b) ∧ Que w' q d ∧ Off w.heap.size q w w' := by
  subst hI hJ hb
  have h0 := h
  obtain ⟨p, c, m, h⟩ := h
  obtain ⟨g, b, rfl, rfl, _⟩ := h.full (by omega)
  exact (less_any q g d.size c i j _ _ w ⟨h.record.cells.1⟩ hi hj (Rd_bx h.own i hi) (Rd_bx h.own j hj)).mono fun e w' h1 => ⟨h1.1, h0.grew h1.2, Off.of_grew h1.2 (Nat.le_refl _) h0.lt⟩
theorem swapQ (q : Nat) (d : Array It) (I J : Int) (i j : Nat) (w : World) (h : Que w q d) (hI : I = (i : Int)) (hJ : J = (j : Int)) (hi : i < d.size) (hj : j < d.size) (hsz : d.size ≤ 1000000) :
    Calls Try.prog 85 #[.pointer (some ⟨q, 0, none⟩), .int .i64 I, .int .i64 J] w fun e w' => e = .returned (.tuple #[]) ∧ Que w' q (swp d i j) ∧ Off w.heap.size q w w' := by
  subst hI hJ
  obtain ⟨p, c, m, h⟩ := h
  obtain ⟨g, b, rfl, rfl, _⟩ := h.full (by omega)
  refine (swap_full q g b c i j d w h hi hj hsz).mono fun e w' h1 => ⟨h1.1, ⟨_, _, _, h1.2.1⟩, Off.of_rec h.record h1.2.1.record (h1.2.2.mono fun k hk => ?_) (.inl rfl) (.inl rfl)⟩
  rcases hk with rfl | rfl
  · exact .inr (.inl rfl)
  · exact .inr (.inr rfl)
theorem lenQ (q : Nat) (d : Array It) (w : World) (h : Que w q d) :
    Calls Try.prog 29 #[.pointer (some ⟨q, 0, none⟩)] w fun e w' => e = .returned (.int .i64 (d.size : Int)) ∧ w = w' := by
  obtain ⟨p, c, m, h⟩ := h
  exact hlen_any q d.size c p w h.record.cells.1
theorem pushQ (q : Nat) (d : Array It) (x : It) (w : World) (h : Que w q d) (hx : hasId x.1 d.toList = false) (hi : In64 x.1) (hsz : d.size ≤ 1000000) :
    Calls Try.prog 84 #[.pointer (some ⟨q, 0, none⟩), .iface 32 (itv x)] w fun e w' => e = .returned (.tuple #[]) ∧ Que w' q (d.push x) ∧ Off w.heap.size q w w' := by
  obtain ⟨p, c, m, h⟩ := h
  exact hpush_any q d x p c m w h hx hi hsz
theorem popQ (q k : Nat) (d : Array It) (w : World) (h : Que w q d) (hk : d.size = k + 1) (hsz : d.size ≤ 1000000) :
    Calls Try.prog 83 #[.pointer (some ⟨q, 0, none⟩)] w fun e w' => e = .returned (.iface 32 (itv d[k]!)) ∧ Que w' q d.pop ∧ Off w.heap.size q w w' := by
  obtain ⟨p, c, m, h⟩ := h
  exact hpop_any q k d p c m w h hk hsz

set_option maxHeartbeats 2000000 in
theorem up_any (q n j : Nat) (d : Array It) (J : Int) (w : World) (h : Que w q d) (hJ : J = (j : Int)) (hj : j < n) (hn : n ≤ d.size) (hsz : d.size ≤ 1000000) (hU : UpI d n j) :
    Calls Try.prog 40 #[hv q, .int .i64 J] w fun e w' => e = .returned (.tuple #[]) ∧ ∃ d', Que w' q d' ∧ PermIn 0 n d d' ∧ HeapN d' n ∧ Off w.heap.size q w w' := by
  subst hJ
  have HQ0 := Lib.hid h
  have HU0 := Lib.hid hU
  clear h hU
  have hmLess : ∀ w, (method 228 70 (.pointer (some ⟨q, 0, none⟩)) "Less").run Try.prog w = .ok (82, .pointer (some ⟨q, 0, none⟩)) w := meth_Less q
  have hmSwap : ∀ w, (method 228 70 (.pointer (some ⟨q, 0, none⟩)) "Swap").run Try.prog w = .ok (85, .pointer (some ⟨q, 0, none⟩)) w := meth_Swap q
  go_enter Try.func40, Try.ntmps40
  go_wp2_with fail
  go_loopg [1] (1 + j) (fun g jv wr => ∃ (k : Nat) (dk : Array It), jv = .int .i64 (k : Int) ∧ k < n ∧ g = 1 + k ∧ dk.size = d.size ∧ Hid (Que wr q dk) ∧ Hid (UpI dk n k) ∧ Hid (PermIn 0 n d dk) ∧ Hid (Off w.heap.size q w wr))
  case atStart => exact ⟨j, d, rfl, hj, rfl, rfl, HQ0, HU0, Lib.hid (permIn_refl _ _ _), Lib.hid (Off.refl _ _ _)⟩
  case round =>
    obtain ⟨k, dk, rfl, hk, rfl, hs, HQ, HU, HP, HO⟩ := hrel
    rcases Nat.eq_zero_or_pos k with rfl | hpos
    · simp only [Int.natCast_zero, Int.ofNat_eq_natCast]
      have hdiv : (-1 : Int).tdiv 2 = 0 := by decide
      go_wp2
      go_end0
      exact ⟨rfl, dk, HQ.out, HP.out, HU.out.done (.inl rfl), HO.out⟩
    · obtain ⟨i, rfl⟩ : ∃ i, k = i + 1 := ⟨k - 1, by omega⟩
      have hne : ((i : Int) / 2 == (i : Int) + 1) = false := beq_eq_false_iff_ne.2 (by omega)
      have hne2 : ¬ (i : Int) / 2 = (i : Int) + 1 := by omega
      have eb := Lib.hid (show (i + 1 - 1) / 2 = i / 2 by omega)
      cases hb : bef dk[i + 1]! dk[i / 2]! with
      | false =>
        have Hb := Lib.hid hb
        clear hb
        have tk0 := Lib.hid trivial
        go_wp2_with (first
          | (go_at_call 82; clear tk0; (with_reducible refine (lessQ _ _ _ _ (i + 1) (i / 2) _ _ HQ.out (by omega) (by omega) (by omega) (by omega) Hb.out).mono ?_); rintro e wa ⟨rfl, hQa, hOa⟩; replace HQ := Lib.hid hQa; replace HO := Lib.hid (HO.out.trans (hOa.mono HO.out.size)); clear hQa hOa))
        go_end0
        exact ⟨rfl, dk, HQ.out, HP.out, HU.out.done (.inr (by rw [eb.out]; exact Hb.out)), HO.out⟩
      | true =>
        have Hb := Lib.hid hb
        clear hb
        have tk0 := Lib.hid trivial
        have tk1 := Lib.hid trivial
        go_wp2_with (first
          | (go_at_call 82; clear tk0; (with_reducible refine (lessQ _ _ _ _ (i + 1) (i / 2) _ _ HQ.out (by omega) (by omega) (by omega) (by omega) Hb.out).mono ?_); rintro e wa ⟨rfl, hQa, hOa⟩; replace HQ := Lib.hid hQa; replace HO := Lib.hid (HO.out.trans (hOa.mono HO.out.size)); clear hQa hOa)
          | (go_at_call 85; clear tk1; (with_reducible refine (swapQ _ _ _ _ (i / 2) (i + 1) _ HQ.out (by omega) (by omega) (by omega) (by omega) (by omega)).mono ?_); rintro e wa ⟨rfl, hQa, hOa⟩; have HQ2 := Lib.hid hQa; clear HQ; replace HO := Lib.hid (HO.out.trans (hOa.mono HO.out.size)); clear hQa hOa))
        go_roundg (1 + i / 2)
        case measure => omega
        case rel => exact ⟨i / 2, swp dk (i / 2) (i + 1), by go_num, by omega, rfl, by rw [swp_size]; exact hs, HQ2, Lib.hid (HU.out.step (by omega) eb.out.symm (by omega) hk Hb.out), Lib.hid (permIn_trans _ _ _ _ _ HP.out (swp_permIn _ _ _ _ _ (by omega) (by omega) (by omega) (by omega) (by omega))), HO⟩

/-- The two children of i. -/
theorem child {k i : Nat} (h : (k - 1) / 2 = i) (h0 : 0 < k) : k = 2 * i + 1 ∨ k = 2 * i + 2 := by omega
/-- What down has done. -/
def DownPost (q n i0 : Nat) (d : Array It) (w : World) (e : Ending) (w' : World) : Prop := ∃ (b : Bool) (d' : Array It) (i : Nat), e = .returned (.bool b) ∧ b = decide (i0 < i) ∧ Que w' q d' ∧ PermIn 0 n d d' ∧ DnI d' n i (decide (i0 < i)) ∧ (∀ k, 0 < k → k < n → (k - 1) / 2 = i → bef d'[k]! d'[i]! = false) ∧ i0 ≤ i ∧ Off w.heap.size q w w'
set_option maxHeartbeats 4000000 in
theorem down_any (q n i0 : Nat) (d : Array It) (I N : Int) (w : World) (h : Que w q d) (hI : I = (i0 : Int)) (hN : N = (n : Int)) (hn : n ≤ d.size) (hsz : d.size ≤ 1000000) (hi0 : i0 ≤ 1000000) (hD : DnI d n i0 false) :
    Calls Try.prog 41 #[hv q, .int .i64 I, .int .i64 N] w (DownPost q n i0 d w) := by
  subst hI hN
  have HQ0 := Lib.hid h
  have HD0 : Hid (DnI d n i0 (decide (i0 < i0))) := Lib.hid (by rw [show decide (i0 < i0) = false by simp]; exact hD)
  clear h hD
  have hmLess : ∀ w, (method 228 70 (.pointer (some ⟨q, 0, none⟩)) "Less").run Try.prog w = .ok (82, .pointer (some ⟨q, 0, none⟩)) w := meth_Less q
  have hmSwap : ∀ w, (method 228 70 (.pointer (some ⟨q, 0, none⟩)) "Swap").run Try.prog w = .ok (85, .pointer (some ⟨q, 0, none⟩)) w := meth_Swap q
  go_enter Try.func41, Try.ntmps41
  go_wp2_with fail
  go_loopg [7] (n - i0) (fun g iv wr => ∃ (i : Nat) (dk : Array It), iv = .int .i64 (i : Int) ∧ i0 ≤ i ∧ i ≤ 1000000 ∧ g = n - i ∧ dk.size = d.size ∧ Hid (Que wr q dk) ∧ Hid (DnI dk n i (decide (i0 < i))) ∧ Hid (PermIn 0 n d dk) ∧ Hid (Off w.heap.size q w wr))
  case atStart => exact ⟨i0, d, rfl, Nat.le_refl _, hi0, rfl, rfl, HQ0, HD0, Lib.hid (permIn_refl _ _ _), Lib.hid (Off.refl _ _ _)⟩
  case round =>
    obtain ⟨i, dk, rfl, hii, him, rfl, hs, HQ, HD, HP, HO⟩ := hrel
    by_cases h1 : 2 * i + 1 < n
    · by_cases h2 : 2 * i + 2 < n
      · cases hl : bef dk[2 * i + 2]! dk[2 * i + 1]! with
        | true =>
          have Hl := Lib.hid hl
          clear hl
          cases hm : bef dk[2 * i + 2]! dk[i]! with
          | false =>
            have Hm := Lib.hid hm
            clear hm
            have ch : Hid (∀ k, 0 < k → k < n → (k - 1) / 2 = i → bef dk[k]! dk[i]! = false) := Lib.hid fun k h0 _ hp => by
              rcases child hp h0 with rfl | rfl
              · exact nbef_trans (bef_asymm Hl.out) Hm.out
              · exact Hm.out
            have tk0 := Lib.hid trivial
            have tk1 := Lib.hid trivial
            go_wp2_with (first
              | (go_at_call 82; clear tk0; (with_reducible refine (lessQ _ _ _ _ (2 * i + 2) (2 * i + 1) _ _ HQ.out (by omega) (by omega) (by omega) (by omega) Hl.out).mono ?_); rintro e wa ⟨rfl, hQa, hOa⟩; replace HQ := Lib.hid hQa; replace HO := Lib.hid (HO.out.trans (hOa.mono HO.out.size)); clear hQa hOa)
              | (go_at_call 82; clear tk1; (with_reducible refine (lessQ _ _ _ _ (2 * i + 2) i _ _ HQ.out (by omega) (by omega) (by omega) (by omega) Hm.out).mono ?_); rintro e wa ⟨rfl, hQa, hOa⟩; replace HQ := Lib.hid hQa; replace HO := Lib.hid (HO.out.trans (hOa.mono HO.out.size)); clear hQa hOa))
            go_ret
            exact ⟨decide (i0 < i), dk, i, ret_bool rfl, rfl, HQ.out, HP.out, HD.out, ch.out, hii, HO.out⟩
          | true =>
            have Hm := Lib.hid hm
            clear hm
            have mn : Hid (∀ k, 0 < k → k < n → (k - 1) / 2 = i → bef dk[k]! dk[2 * i + 2]! = false) := Lib.hid fun k h0 _ hp => by
              rcases child hp h0 with rfl | rfl
              · exact bef_asymm Hl.out
              · exact bef_irrefl _
            have tk0 := Lib.hid trivial
            have tk1 := Lib.hid trivial
            have tk2 := Lib.hid trivial
            go_wp2_with (first
              | (go_at_call 82; clear tk0; (with_reducible refine (lessQ _ _ _ _ (2 * i + 2) (2 * i + 1) _ _ HQ.out (by omega) (by omega) (by omega) (by omega) Hl.out).mono ?_); rintro e wa ⟨rfl, hQa, hOa⟩; replace HQ := Lib.hid hQa; replace HO := Lib.hid (HO.out.trans (hOa.mono HO.out.size)); clear hQa hOa)
              | (go_at_call 82; clear tk1; (with_reducible refine (lessQ _ _ _ _ (2 * i + 2) i _ _ HQ.out (by omega) (by omega) (by omega) (by omega) Hm.out).mono ?_); rintro e wa ⟨rfl, hQa, hOa⟩; replace HQ := Lib.hid hQa; replace HO := Lib.hid (HO.out.trans (hOa.mono HO.out.size)); clear hQa hOa)
              | (go_at_call 85; clear tk2; (with_reducible refine (swapQ _ _ _ _ i (2 * i + 2) _ HQ.out (by omega) (by omega) (by omega) (by omega) (by omega)).mono ?_); rintro e wa ⟨rfl, hQa, hOa⟩; have HQ2 := Lib.hid hQa; clear HQ; replace HO := Lib.hid (HO.out.trans (hOa.mono HO.out.size)); clear hQa hOa))
            go_roundg (n - (2 * i + 2))
            case measure => omega
            case rel => exact ⟨2 * i + 2, swp dk i (2 * i + 2), by go_num, by omega, by omega, rfl, by rw [swp_size]; exact hs, HQ2, Lib.hid (by have := HD.out.step (j := 2 * i + 2) (by omega) (by omega) (by omega) (by omega) mn.out Hm.out; rwa [show decide (i0 < 2 * i + 2) = true from decide_eq_true (by omega)]), Lib.hid (permIn_trans _ _ _ _ _ HP.out (swp_permIn _ _ _ _ _ (by omega) (by omega) (by omega) (by omega) (by omega))), HO⟩
        | false =>
          have Hl := Lib.hid hl
          clear hl
          cases hm : bef dk[2 * i + 1]! dk[i]! with
          | false =>
            have Hm := Lib.hid hm
            clear hm
            have ch : Hid (∀ k, 0 < k → k < n → (k - 1) / 2 = i → bef dk[k]! dk[i]! = false) := Lib.hid fun k h0 _ hp => by
              rcases child hp h0 with rfl | rfl
              · exact Hm.out
              · exact nbef_trans Hl.out Hm.out
            have tk0 := Lib.hid trivial
            have tk1 := Lib.hid trivial
            go_wp2_with (first
              | (go_at_call 82; clear tk0; (with_reducible refine (lessQ _ _ _ _ (2 * i + 2) (2 * i + 1) _ _ HQ.out (by omega) (by omega) (by omega) (by omega) Hl.out).mono ?_); rintro e wa ⟨rfl, hQa, hOa⟩; replace HQ := Lib.hid hQa; replace HO := Lib.hid (HO.out.trans (hOa.mono HO.out.size)); clear hQa hOa)
              | (go_at_call 82; clear tk1; (with_reducible refine (lessQ _ _ _ _ (2 * i + 1) i _ _ HQ.out (by omega) (by omega) (by omega) (by omega) Hm.out).mono ?_); rintro e wa ⟨rfl, hQa, hOa⟩; replace HQ := Lib.hid hQa; replace HO := Lib.hid (HO.out.trans (hOa.mono HO.out.size)); clear hQa hOa))
            go_ret
            exact ⟨decide (i0 < i), dk, i, ret_bool rfl, rfl, HQ.out, HP.out, HD.out, ch.out, hii, HO.out⟩
          | true =>
            have Hm := Lib.hid hm
            clear hm
            have mn : Hid (∀ k, 0 < k → k < n → (k - 1) / 2 = i → bef dk[k]! dk[2 * i + 1]! = false) := Lib.hid fun k h0 _ hp => by
              rcases child hp h0 with rfl | rfl
              · exact bef_irrefl _
              · exact Hl.out
            have tk0 := Lib.hid trivial
            have tk1 := Lib.hid trivial
            have tk2 := Lib.hid trivial
            go_wp2_with (first
              | (go_at_call 82; clear tk0; (with_reducible refine (lessQ _ _ _ _ (2 * i + 2) (2 * i + 1) _ _ HQ.out (by omega) (by omega) (by omega) (by omega) Hl.out).mono ?_); rintro e wa ⟨rfl, hQa, hOa⟩; replace HQ := Lib.hid hQa; replace HO := Lib.hid (HO.out.trans (hOa.mono HO.out.size)); clear hQa hOa)
              | (go_at_call 82; clear tk1; (with_reducible refine (lessQ _ _ _ _ (2 * i + 1) i _ _ HQ.out (by omega) (by omega) (by omega) (by omega) Hm.out).mono ?_); rintro e wa ⟨rfl, hQa, hOa⟩; replace HQ := Lib.hid hQa; replace HO := Lib.hid (HO.out.trans (hOa.mono HO.out.size)); clear hQa hOa)
              | (go_at_call 85; clear tk2; (with_reducible refine (swapQ _ _ _ _ i (2 * i + 1) _ HQ.out (by omega) (by omega) (by omega) (by omega) (by omega)).mono ?_); rintro e wa ⟨rfl, hQa, hOa⟩; have HQ2 := Lib.hid hQa; clear HQ; replace HO := Lib.hid (HO.out.trans (hOa.mono HO.out.size)); clear hQa hOa))
            go_roundg (n - (2 * i + 1))
            case measure => omega
            case rel => exact ⟨2 * i + 1, swp dk i (2 * i + 1), by go_num, by omega, by omega, rfl, by rw [swp_size]; exact hs, HQ2, Lib.hid (by have := HD.out.step (j := 2 * i + 1) (by omega) (by omega) (by omega) (by omega) mn.out Hm.out; rwa [show decide (i0 < 2 * i + 1) = true from decide_eq_true (by omega)]), Lib.hid (permIn_trans _ _ _ _ _ HP.out (swp_permIn _ _ _ _ _ (by omega) (by omega) (by omega) (by omega) (by omega))), HO⟩
      · cases hm : bef dk[2 * i + 1]! dk[i]! with
        | false =>
          have Hm := Lib.hid hm
          clear hm
          have ch : Hid (∀ k, 0 < k → k < n → (k - 1) / 2 = i → bef dk[k]! dk[i]! = false) := Lib.hid fun k h0 hk hp => by
            rcases child hp h0 with rfl | rfl
            · exact Hm.out
            · omega
          have tk0 := Lib.hid trivial
          go_wp2_with (first
            | (go_at_call 82; clear tk0; (with_reducible refine (lessQ _ _ _ _ (2 * i + 1) i _ _ HQ.out (by omega) (by omega) (by omega) (by omega) Hm.out).mono ?_); rintro e wa ⟨rfl, hQa, hOa⟩; replace HQ := Lib.hid hQa; replace HO := Lib.hid (HO.out.trans (hOa.mono HO.out.size)); clear hQa hOa))
          go_ret
          exact ⟨decide (i0 < i), dk, i, ret_bool rfl, rfl, HQ.out, HP.out, HD.out, ch.out, hii, HO.out⟩
        | true =>
          have Hm := Lib.hid hm
          clear hm
          have mn : Hid (∀ k, 0 < k → k < n → (k - 1) / 2 = i → bef dk[k]! dk[2 * i + 1]! = false) := Lib.hid fun k h0 hk hp => by
            rcases child hp h0 with rfl | rfl
            · exact bef_irrefl _
            · omega
          have tk0 := Lib.hid trivial
          have tk1 := Lib.hid trivial
          go_wp2_with (first
            | (go_at_call 82; clear tk0; (with_reducible refine (lessQ _ _ _ _ (2 * i + 1) i _ _ HQ.out (by omega) (by omega) (by omega) (by omega) Hm.out).mono ?_); rintro e wa ⟨rfl, hQa, hOa⟩; replace HQ := Lib.hid hQa; replace HO := Lib.hid (HO.out.trans (hOa.mono HO.out.size)); clear hQa hOa)
            | (go_at_call 85; clear tk1; (with_reducible refine (swapQ _ _ _ _ i (2 * i + 1) _ HQ.out (by omega) (by omega) (by omega) (by omega) (by omega)).mono ?_); rintro e wa ⟨rfl, hQa, hOa⟩; have HQ2 := Lib.hid hQa; clear HQ; replace HO := Lib.hid (HO.out.trans (hOa.mono HO.out.size)); clear hQa hOa))
          go_roundg (n - (2 * i + 1))
          case measure => omega
          case rel => exact ⟨2 * i + 1, swp dk i (2 * i + 1), by go_num, by omega, by omega, rfl, by rw [swp_size]; exact hs, HQ2, Lib.hid (by have := HD.out.step (j := 2 * i + 1) (by omega) (by omega) (by omega) (by omega) mn.out Hm.out; rwa [show decide (i0 < 2 * i + 1) = true from decide_eq_true (by omega)]), Lib.hid (permIn_trans _ _ _ _ _ HP.out (swp_permIn _ _ _ _ _ (by omega) (by omega) (by omega) (by omega) (by omega))), HO⟩
    · have ch : Hid (∀ k, 0 < k → k < n → (k - 1) / 2 = i → bef dk[k]! dk[i]! = false) := Lib.hid fun k h0 hk hp => by omega
      go_wp2
      go_ret
      exact ⟨decide (i0 < i), dk, i, ret_bool rfl, rfl, HQ.out, HP.out, HD.out, ch.out, hii, HO.out⟩

/-- What Fix and Remove leave of a permutation. -/
theorem permIn_toList {n : Nat} {d d' : Array It} (h : PermIn 0 n d d') (hn : n ≤ d.size) : d'.toList.Perm d.toList ∧ d'.size = d.size ∧ ∀ k, n ≤ k → d'[k]! = d[k]! := by
  have h1 := permIn_mono d d' 0 n 0 d.size (Nat.le_refl _) hn (Nat.le_refl _) h
  obtain ⟨hs, _, hp⟩ := h1
  have e1 : (d'.extract 0 d.size).toList = d'.toList := by rw [← hs]; simp
  have e2 : (d.extract 0 d.size).toList = d.toList := by simp
  rw [e1, e2] at hp
  exact ⟨hp, hs, fun k hk => h.2.1 k (.inr hk)⟩
set_option maxHeartbeats 1000000 in
/-- Fix: a heap of which the element at i was changed. -/
theorem fix_any (q i : Nat) (d d0 : Array It) (I : Int) (w : World) (h : Que w q d) (hI : I = (i : Int)) (hi : i < d.size) (hsz : d.size ≤ 1000000) (hd : HeapN d0 d.size) (hdd : ∀ k, k < d.size → k ≠ i → d[k]! = d0[k]!) :
    Calls Try.prog 32 #[hv q, .int .i64 I] w fun e w' => e = .returned (.tuple #[]) ∧ ∃ d', Que w' q d' ∧ d'.toList.Perm d.toList ∧ HeapN d' d'.size ∧ Off w.heap.size q w w' := by
  subst hI
  have HQ := Lib.hid h
  have HD := Lib.hid (DnI.start hd hdd hi)
  have HH := Lib.hid (And.intro hd hdd)
  clear h hd hdd
  have hmLen : ∀ w, (method 228 70 (.pointer (some ⟨q, 0, none⟩)) "Len").run Try.prog w = .ok (29, .pointer (some ⟨q, 0, none⟩)) w := meth_Len q
  go_enter Try.func32, Try.ntmps32
  go_wp2_with (first | (go_at_call 29; (with_reducible refine (lenQ _ _ _ HQ.out).mono ?_); rintro e _ ⟨rfl, rfl⟩) | fail)
  (with_reducible refine (down_any q d.size i d _ _ _ HQ.out rfl rfl (Nat.le_refl _) hsz (by omega) HD.out).mono ?_)
  rintro e w1 ⟨b, d1, i1, rfl, hb, q1, p1, D1, ch1, hle, o1⟩
  have P1 := Lib.hid p1
  have Q1 := Lib.hid q1
  have O1 := Lib.hid o1
  have hs1 := p1.1
  cases b with
  | true =>
    have hh : Hid (HeapN d1 d.size) := Lib.hid (DnI.heap (by rw [← hb] at D1; exact D1) ch1)
    clear hb D1 ch1 hle p1 q1 o1
    go_wp2
    go_end0
    exact ⟨rfl, d1, Q1.out, (permIn_toList P1.out (Nat.le_refl _)).1, by rw [hs1]; exact hh.out, O1.out⟩
  | false =>
    have e1 : i1 = i := by have := of_decide_eq_false hb.symm; omega
    subst e1
    have hu : Hid (UpI d1 d.size i1) := Lib.hid (DnI.up (by rw [← hb] at D1; exact D1) ch1)
    clear hb D1 ch1 hle p1 q1 o1
    go_wp2_with fail
    (with_reducible refine (up_any q d.size i1 d1 _ _ Q1.out rfl hi (by omega) (by omega) hu.out).mono ?_)
    rintro e w2 ⟨rfl, d2, q2, p2, h2, o2⟩
    have R := Lib.hid (show ∃ d', Que w2 q d' ∧ d'.toList.Perm d.toList ∧ HeapN d' d'.size ∧ Off w.heap.size q w w2 from ⟨d2, q2, (permIn_toList p2 (by omega)).1.trans (permIn_toList P1.out (Nat.le_refl _)).1, by rw [p2.1, hs1]; exact h2, O1.out.trans (o2.mono O1.out.size)⟩)
    clear q2 p2 h2 o2
    go_wp2
    go_end0
    exact ⟨rfl, R.out⟩
set_option maxHeartbeats 1000000 in
/-- Push. -/
theorem heapPush_any (q : Nat) (d : Array It) (x : It) (w : World) (h : Que w q d) (hx : hasId x.1 d.toList = false) (hin : In64 x.1) (hsz : d.size < 1000000) (hd : HeapN d d.size) :
    Calls Try.prog 31 #[hv q, .iface 32 (itv x)] w fun e w' => e = .returned (.tuple #[]) ∧ ∃ d', Que w' q d' ∧ d'.toList.Perm (d.toList ++ [x]) ∧ HeapN d' d'.size ∧ Off w.heap.size q w w' := by
  have HQ := Lib.hid h
  have HD := Lib.hid hd
  have hin' := Lib.hid hin
  have hx' := Lib.hid hx
  clear h hd hin hx
  have hmPush : ∀ w, (method 228 70 (.pointer (some ⟨q, 0, none⟩)) "Push").run Try.prog w = .ok (84, .pointer (some ⟨q, 0, none⟩)) w := meth_Push q
  have hmLen : ∀ w, (method 228 70 (.pointer (some ⟨q, 0, none⟩)) "Len").run Try.prog w = .ok (29, .pointer (some ⟨q, 0, none⟩)) w := meth_Len q
  go_enter Try.func31, Try.ntmps31
  go_wp2_with (go_at_call 84; (with_reducible refine (pushQ _ _ _ _ HQ.out hx'.out hin'.out (by omega)).mono ?_); rintro e w1 ⟨rfl, q1, o1⟩; have Q1 := Lib.hid q1; have O1 := Lib.hid o1; clear q1 o1; go_wp2_with ((go_at_call 29; (with_reducible refine (lenQ _ _ _ Q1.out).mono ?_); rintro e _ ⟨rfl, rfl⟩; rw [Array.size_push])))
  have hU : UpI (d.push x) (d.size + 1) d.size := UpI.start HD.out fun k hk => by simp [hk, Array.getElem_push, show k < d.size + 1 by omega]
  (with_reducible refine (up_any q (d.size + 1) d.size (d.push x) _ _ Q1.out (by omega) (by omega) (by simp) (by simp; omega) hU).mono ?_)
  rintro e w2 ⟨rfl, d2, q2, p2, h2, o2⟩
  have R := Lib.hid (show ∃ d', Que w2 q d' ∧ d'.toList.Perm (d.toList ++ [x]) ∧ HeapN d' d'.size ∧ Off w.heap.size q w w2 from ⟨d2, q2, by have := (permIn_toList p2 (by simp)).1; rwa [Array.toList_push] at this, by rw [p2.1, Array.size_push]; exact h2, O1.out.trans (o2.mono O1.out.size)⟩)
  clear q2 p2 h2 o2 hU
  go_wp2
  go_end0
  exact ⟨rfl, R.out⟩
end Go.Proofs.Ytjcoghjkjnhljaa
