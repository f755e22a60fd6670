/-
  LAYER 6 (deadlinequeue): lists turned from one type to the other; the reference's Sorted.
-/
import Derived.Test.YtjcoghjkjnhljaaDqRef2
namespace Go.Proofs.Ytjcoghjkjnhljaa
open Go Go.RowKit Go.IntWalk Go.Sort
set_option maxRecDepth 8000
set_option linter.unusedSimpArgs false

set_option maxHeartbeats 2000000 in
theorem toref_any (p : Option Addr) (n c : Nat) (xs : List It) (w : World) (hl : xs.length = n) (hn : n ≤ 1000000) (h : RdI w p c xs) :
    Calls Try.prog 16 #[.slice p n c] w fun e w' => ∃ p' c', e = .returned (.slice p' n c') ∧ OwI w' w.heap.size 36 (.slice p' n c') xs ∧ Grew w w' := by
  subst hl
  have HI := Lib.hid h
  clear h
  go_enter Try.func16, Try.ntmps16
  go_wp2_with fail
  go_loopg [3, 8] xs.length (fun g ov iv wr => ∃ (k : Nat) (p1 : Option Addr) (n1 c1 : Nat) (zs : List It), ov = .slice p1 n1 c1 ∧ iv = .int .i64 (k : Int) ∧ k ≤ xs.length ∧ g = xs.length - k ∧ Hid (n1 = k) ∧ Hid (zs = xs.take k) ∧ Hid (OwI wr w.heap.size 36 (.slice p1 n1 c1) zs) ∧ Hid (Grew w wr))
  case atStart => exact ⟨0, none, 0, 0, [], rfl, rfl, Nat.zero_le _, rfl, rfl, rfl, OwI.nil _ _ _, Grew.refl _⟩
  case round =>
    obtain ⟨k, p1, n1, c1, zs, rfl, rfl, hk, rfl, hnk, hz, ho, hg⟩ := hrel
    have hzl : Hid (zs.length = k) := Lib.hid (by rw [hz.out]; simp; omega)
    by_cases hlt : k < xs.length
    · obtain ⟨b, o, rfl, -⟩ := HI.out.cells (by omega)
      obtain ⟨hx0, hx1⟩ := (HI.out.kept hg.out).at hlt
      have hts := take_snocI xs k hlt
      generalize xs.getD k (0, 0) = x at hx0 hx1 hts
      obtain ⟨x1, x2⟩ := x
      have Hts := Lib.hid hts
      have hgs : w.heap.size ≤ wr.heap.size := Below.size hg.out
      clear hts
      go_wp2_with (at_builtin; refine wpList_appendJ rfl _ _ rfl w.heap.size _ zs rfl ((ho.out.alloc _).alloc _) _ _ _ [(x1, x2)] rfl rfl (made1 _ _ _ _ _ _ (by simp) rfl) (by have := hzl.out; simp; omega) (by simp; omega) ?_; intro p2 c2 zs2 w2 hz2 ho2 hb2)
      have hl2 : zs2.length = k + 1 := by rw [hz2.out]; simp [hzl.out]
      rw [hl2] at ho2 ⊢
      go_roundg (xs.length - (k + 1))
      case measure => omega
      case rel => exact ⟨k + 1, p2, k + 1, c2, zs2, rfl, by go_num, by omega, rfl, rfl, by rw [Hts.out, ← hz.out]; exact hz2.out, ho2, Below.trans ((hg.out.alloc _).alloc _) hb2⟩
    · obtain rfl : k = xs.length := by omega
      rw [List.take_length] at hz
      go_wp2
      go_ret
      have e1 := hnk.out
      have e2 := hz.out
      subst e1 e2
      exact ⟨p1, c1, rfl, ho.out, hg.out⟩
set_option maxHeartbeats 2000000 in
theorem back_any (p : Option Addr) (n c : Nat) (xs : List It) (w : World) (hl : xs.length = n) (hn : n ≤ 1000000) (h : RdI w p c xs) :
    Calls Try.prog 27 #[.slice p n c] w fun e w' => ∃ p' c', e = .returned (.slice p' n c') ∧ OwI w' w.heap.size 32 (.slice p' n c') xs ∧ Grew w w' := by
  subst hl
  have HI := Lib.hid h
  clear h
  go_enter Try.func27, Try.ntmps27
  go_wp2_with fail
  go_loopg [3, 8] xs.length (fun g ov iv wr => ∃ (k : Nat) (p1 : Option Addr) (n1 c1 : Nat) (zs : List It), ov = .slice p1 n1 c1 ∧ iv = .int .i64 (k : Int) ∧ k ≤ xs.length ∧ g = xs.length - k ∧ Hid (n1 = k) ∧ Hid (zs = xs.take k) ∧ Hid (OwI wr w.heap.size 32 (.slice p1 n1 c1) zs) ∧ Hid (Grew w wr))
  case atStart => exact ⟨0, none, 0, 0, [], rfl, rfl, Nat.zero_le _, rfl, rfl, rfl, OwI.nil _ _ _, Grew.refl _⟩
  case round =>
    obtain ⟨k, p1, n1, c1, zs, rfl, rfl, hk, rfl, hnk, hz, ho, hg⟩ := hrel
    have hzl : Hid (zs.length = k) := Lib.hid (by rw [hz.out]; simp; omega)
    by_cases hlt : k < xs.length
    · obtain ⟨b, o, rfl, -⟩ := HI.out.cells (by omega)
      obtain ⟨hx0, hx1⟩ := (HI.out.kept hg.out).at hlt
      have hts := take_snocI xs k hlt
      generalize xs.getD k (0, 0) = x at hx0 hx1 hts
      obtain ⟨x1, x2⟩ := x
      have Hts := Lib.hid hts
      have hgs : w.heap.size ≤ wr.heap.size := Below.size hg.out
      clear hts
      go_wp2_with (at_builtin; refine wpList_appendI rfl _ _ rfl w.heap.size _ zs rfl ((ho.out.alloc _).alloc _) _ _ _ [(x1, x2)] rfl rfl (made1 _ _ _ _ _ _ (by simp) rfl) (by have := hzl.out; simp; omega) (by simp; omega) ?_; intro p2 c2 zs2 w2 hz2 ho2 hb2)
      have hl2 : zs2.length = k + 1 := by rw [hz2.out]; simp [hzl.out]
      rw [hl2] at ho2 ⊢
      go_roundg (xs.length - (k + 1))
      case measure => omega
      case rel => exact ⟨k + 1, p2, k + 1, c2, zs2, rfl, by go_num, by omega, rfl, rfl, by rw [Hts.out, ← hz.out]; exact hz2.out, ho2, Below.trans ((hg.out.alloc _).alloc _) hb2⟩
    · obtain rfl : k = xs.length := by omega
      rw [List.take_length] at hz
      go_wp2
      go_ret
      have e1 := hnk.out
      have e2 := hz.out
      subst e1 e2
      exact ⟨p1, c1, rfl, ho.out, hg.out⟩

theorem isort_len (l : List It) : (isort l).length = l.length := (isort_perm l).length_eq
theorem isort_push {l : List It} {x : It} (h : hasId x.1 l = false) : pushL (isort l) x = isort (l ++ [x]) := by
  unfold pushL
  rw [rem_none (by rw [hasId_perm (isort_perm l)]; exact h)]
  refine isort_of ?_ (ins_srt x _ (isort_srt l))
  exact ((ins_perm x _).trans ((isort_perm l).cons x)).trans (List.perm_append_singleton x l).symm
theorem push_same {l : List It} {x : It} (hl : Ids l) (h : hasId x.1 l = true) : (pushL (isort l) x).length = l.length := by
  rw [pushL_len]
  have := rem_len (ids_perm (isort_perm l).symm hl) x.1
  rw [hasId_perm (isort_perm l), h, isort_len] at this
  simpa using this
theorem ids_snoc {l : List It} {x : It} : Ids (l ++ [x]) ↔ Ids l ∧ hasId x.1 l = false := by
  unfold Ids
  rw [List.pairwise_append, ← Bool.not_eq_true, hasId_iff]
  constructor
  · rintro ⟨h1, _, h3⟩
    exact ⟨h1, fun ⟨y, hy, e⟩ => h3 y hy x (by simp) e⟩
  · rintro ⟨h1, h2⟩
    refine ⟨h1, List.pairwise_singleton _ _, fun y hy z hz e => ?_⟩
    obtain rfl : z = x := by simpa using hz
    exact h2 ⟨y, hy, e⟩
theorem ids_take {l : List It} (h : Ids l) (k : Nat) : Ids (l.take k) := List.Pairwise.sublist (List.take_sublist k l) h
/-- What Sorted returns. -/
def SortedPost (xs : List It) (w : World) (e : Ending) (w' : World) : Prop :=
  (∃ p' c', e = .returned (.tuple #[.slice p' xs.length c', .bool true]) ∧ idsB xs = true ∧ RdI w' p' c' (isort xs) ∧ Grew w w') ∨ (e = .returned (.tuple #[.slice none 0 0, .bool false]) ∧ idsB xs = false ∧ Grew w w')
set_option maxHeartbeats 2000000 in
theorem sorted_any (p : Option Addr) (n c : Nat) (xs : List It) (w : World) (hl : xs.length = n) (hn : n ≤ 999999) (h : RdI w p c xs) :
    Calls Try.prog 36 #[.slice p n c] w (SortedPost xs w) := by
  subst hl
  have HI := Lib.hid h
  clear h
  go_enter Try.func36, Try.ntmps36
  go_wp2_with fail
  go_loopg [4, 10] xs.length (fun g ov iv wr => ∃ (k : Nat) (p1 : Option Addr) (c1 : Nat), ov = .slice p1 k c1 ∧ iv = .int .i64 (k : Int) ∧ k ≤ xs.length ∧ g = xs.length - k ∧ Hid (Ids (xs.take k)) ∧ Hid (RdI wr p1 c1 (isort (xs.take k))) ∧ Hid (Grew w wr))
  case atStart => exact ⟨0, none, 0, rfl, rfl, Nat.zero_le _, rfl, by simp [Hid, Ids], RdI.nil _, Grew.refl _⟩
  case round =>
    obtain ⟨k, p1, c1, rfl, rfl, hk, rfl, hi, ho, hg⟩ := hrel
    by_cases hlt : k < xs.length
    · obtain ⟨b, o, rfl, -⟩ := HI.out.cells (by omega)
      obtain ⟨hx0, hx1⟩ := (HI.out.kept hg.out).at hlt
      have hts := take_snocI xs k hlt
      have htl : (xs.take k).length = k := by simp; omega
      generalize xs.getD k (0, 0) = x at hx0 hx1 hts
      have HP : Hid (∀ W, Grew wr W → Calls Try.prog 28 #[.slice p1 k c1, itv x] W fun e w' => ∃ p' c', e = .returned (.slice p' (pushL (isort (xs.take k)) x).length c') ∧ OwI w' W.heap.size 36 (.slice p' (pushL (isort (xs.take k)) x).length c') (pushL (isort (xs.take k)) x) ∧ Grew W w') :=
        Lib.hid fun W hW => rpush_any p1 k c1 (isort (xs.take k)) x W (by rw [isort_len, htl]) (by omega) (ho.out.kept hW)
      cases hh : hasId x.1 (xs.take k) with
      | false =>
        have hnext := Lib.hid (show pushL (isort (xs.take k)) x = isort (xs.take (k + 1)) by rw [hts, isort_push hh])
        have hids := Lib.hid (show Ids (xs.take (k + 1)) by rw [hts]; exact ids_snoc.2 ⟨hi.out, hh⟩)
        have hlen : (pushL (isort (xs.take k)) x).length = k + 1 := by rw [hnext.out, isort_len]; simp; omega
        rw [hlen] at HP
        clear hts hh hlen htl
        have tk1 := Lib.hid trivial
        go_wp2_with (go_at_call 28; clear tk1; (with_reducible refine (HP.out _ ((Grew.refl wr).alloc _)).mono ?_); rintro e w2 ⟨p2, c2, rfl, o2, g2⟩; have O2 := Lib.hid o2; have G2 := Lib.hid ((hg.out.alloc _).trans g2); clear o2 g2)
        go_roundg (xs.length - (k + 1))
        case measure => omega
        case rel => exact ⟨k + 1, p2, c2, rfl, by go_num, by omega, rfl, hids, by rw [← hnext.out]; exact O2.out.rd.2, G2⟩
      | true =>
        have hlen : (pushL (isort (xs.take k)) x).length = k := by rw [push_same hi.out hh, htl]
        have hno := Lib.hid (show idsB xs = false by
          rw [← Bool.not_eq_true, idsB_iff]
          intro hx
          have := ids_take hx (k + 1)
          rw [hts, ids_snoc, hh] at this
          cases this.2)
        rw [hlen] at HP
        clear hts hh hlen htl
        have tk1 := Lib.hid trivial
        go_wp2_with (go_at_call 28; clear tk1; (with_reducible refine (HP.out _ ((Grew.refl wr).alloc _)).mono ?_); rintro e w2 ⟨p2, c2, rfl, o2, g2⟩; have G2 := Lib.hid ((hg.out.alloc _).trans g2); clear o2 g2)
        go_ret2
        exact .inr ⟨rfl, hno.out, G2.out⟩
    · obtain rfl : k = xs.length := by omega
      rw [List.take_length] at hi ho
      go_wp2
      go_ret2
      exact .inl ⟨p1, c1, rfl, idsB_iff.2 hi.out, ho.out, hg.out⟩
end Go.Proofs.Ytjcoghjkjnhljaa
