/-
  LAYER 6 (deadlinequeue): container/heap's Pop and Remove on the queue's heap.
-/
import Derived.Test.YtjcoghjkjnhljaaDqHeap
namespace Go.Proofs.Ytjcoghjkjnhljaa
open Go Go.RowKit Go.IntWalk Go.Sort
set_option maxRecDepth 8000
set_option linter.unusedSimpArgs false

theorem pop_last {d : Array It} {k : Nat} (h : d.size = k + 1) : d.toList = d.pop.toList ++ [d[k]!] ∧ (HeapN d k → HeapN d.pop d.pop.size) ∧ d.pop.size = k := by
  have hs : d.pop.size = k := by rw [Array.size_pop]; omega
  refine ⟨?_, fun hh => ?_, hs⟩
  · rw [Array.toList_pop]
    have hne : d.toList ≠ [] := fun e => by
      have h0 : d.size = 0 := by rw [← Array.length_toList, e]; rfl
      omega
    have hl : d.toList.getLast hne = d[k]! := by
      rw [List.getLast_eq_getElem]
      have : d.toList.length - 1 = k := by simp; omega
      simp only [this]
      simp [show k < d.size by omega]
    rw [← hl, List.dropLast_concat_getLast]
  · rw [hs]
    exact hh.congr fun j hj => by simp [hs, hj, show j < d.size by omega, Array.getElem_pop]
/-- What Pop and Remove have done: the element at i is gone. -/
def GonePost (q i : Nat) (d : Array It) (w : World) (e : Ending) (w' : World) : Prop := ∃ d', e = .returned (.iface 32 (itv d[i]!)) ∧ Que w' q d' ∧ (d'.toList ++ [d[i]!]).Perm d.toList ∧ HeapN d' d'.size ∧ Off w.heap.size q w w'
set_option maxHeartbeats 1000000 in
theorem heapPop_any (q k : Nat) (d : Array It) (w : World) (h : Que w q d) (hk : d.size = k + 1) (hsz : d.size ≤ 1000000) (hd : HeapN d d.size) :
    Calls Try.prog 33 #[hv q] w (GonePost q 0 d w) := by
  have hlen := lenQ q d w h
  rw [hk] at hlen
  have HL := Lib.hid hlen
  have HQ := Lib.hid h
  have HD := Lib.hid hd
  have Hk := Lib.hid hk
  have hk1 : k + 1 ≤ 1000000 := by omega
  clear h hd hk hlen hsz
  have hmLen : ∀ w, (method 228 70 (.pointer (some ⟨q, 0, none⟩)) "Len").run Try.prog w = .ok (29, .pointer (some ⟨q, 0, none⟩)) w := meth_Len q
  have hmSwap : ∀ w, (method 228 70 (.pointer (some ⟨q, 0, none⟩)) "Swap").run Try.prog w = .ok (85, .pointer (some ⟨q, 0, none⟩)) w := meth_Swap q
  have hmPop : ∀ w, (method 228 70 (.pointer (some ⟨q, 0, none⟩)) "Pop").run Try.prog w = .ok (83, .pointer (some ⟨q, 0, none⟩)) w := meth_Pop q
  go_enter Try.func33, Try.ntmps33
  have tk0 := Lib.hid trivial
  go_wp2_with (first
    | (go_at_call 29; clear tk0; (with_reducible refine HL.out.mono ?_); rintro e _ ⟨rfl, rfl⟩)
    | (go_at_call 85; (with_reducible refine (swapQ q d _ _ 0 k _ HQ.out (by omega) (by omega) (by rw [Hk.out]; omega) (by rw [Hk.out]; omega) (by rw [Hk.out]; omega)).mono ?_); rintro e w1 ⟨rfl, q1, o1⟩; have Q1 := Lib.hid q1; have O1 := Lib.hid o1; clear q1 o1))
  have s1 : (swp d 0 k).size = k + 1 := by rw [swp_size, Hk.out]
  have D1 : DnI (swp d 0 k) k 0 false := by
    rcases Nat.eq_zero_or_pos k with rfl | hp
    · exact ⟨fun j _ hj => by omega, fun j _ hj => by omega⟩
    · refine DnI.start (d := d) (HD.out.mono (by rw [Hk.out]; omega)) (fun j hj hne => ?_) hp
      rw [swp_get d (by rw [Hk.out]; omega) (by rw [Hk.out]; omega), if_neg (by omega), if_neg hne]
  (with_reducible refine (down_any q k 0 (swp d 0 k) _ _ _ Q1.out (by omega) (by omega) (by omega) (by omega) (by omega) D1).mono ?_)
  rintro e w2 ⟨b, d2, i2, rfl, hb, q2, p2, D2, ch2, hle, o2⟩
  have h2 : HeapN d2 k := by
    cases b with
    | true => exact DnI.heap (by rw [← hb] at D2; exact D2) ch2
    | false =>
      have e1 : i2 = 0 := by have := of_decide_eq_false hb.symm; omega
      subst e1
      exact (DnI.up (by rw [← hb] at D2; exact D2) ch2).done (.inl rfl)
  obtain ⟨pp, ps, pg⟩ := permIn_toList p2 (by omega)
  have s2 : d2.size = k + 1 := by omega
  have e2 : d2[k]! = d[0]! := by rw [pg k (Nat.le_refl _), swp_get d (by rw [Hk.out]; omega) (by rw [Hk.out]; omega), if_pos rfl]
  have pd : d2.toList.Perm d.toList := pp.trans (swp_perm d (by rw [Hk.out]; omega) (by rw [Hk.out]; omega))
  obtain ⟨l1, l2, l3⟩ := pop_last s2
  rw [e2] at l1
  have R := Lib.hid (show (d2.pop.toList ++ [d[0]!]).Perm d.toList ∧ HeapN d2.pop d2.pop.size ∧ Off w.heap.size q w w2 from ⟨l1 ▸ pd, l2 h2, O1.out.trans (o2.mono O1.out.size)⟩)
  have HP := popQ q k d2 w2 q2 s2 (by omega)
  rw [e2] at HP
  have HPh := Lib.hid HP
  clear hb q2 p2 D2 ch2 hle o2 h2 pp ps pg s2 e2 pd l1 l2 l3 HP D1 s1
  go_wp2_with (go_at_call 83; (with_reducible refine HPh.out.mono ?_); rintro e w3 ⟨rfl, q3, o3⟩; have Q3 := Lib.hid q3; have O3 := Lib.hid o3; clear q3 o3)
  go_ret
  exact ⟨d2.pop, rfl, Q3.out, R.out.1, R.out.2.1, R.out.2.2.trans (O3.out.mono R.out.2.2.size)⟩

set_option maxHeartbeats 2000000 in
theorem heapRemove_any (q i k : Nat) (d : Array It) (w : World) (h : Que w q d) (hk : d.size = k + 1) (hi : i < d.size) (hsz : d.size ≤ 1000000) (hd : HeapN d d.size) :
    Calls Try.prog 34 #[hv q, .int .i64 (i : Int)] w (GonePost q i d w) := by
  have hlen := lenQ q d w h
  rw [hk] at hlen
  have HL := Lib.hid hlen
  have HQ := Lib.hid h
  have HD := Lib.hid hd
  have Hk := Lib.hid hk
  have hk1 : k + 1 ≤ 1000000 := by omega
  have hik : i ≤ k := by omega
  clear h hd hk hlen hsz hi
  have hmLen : ∀ w, (method 228 70 (.pointer (some ⟨q, 0, none⟩)) "Len").run Try.prog w = .ok (29, .pointer (some ⟨q, 0, none⟩)) w := meth_Len q
  have hmSwap : ∀ w, (method 228 70 (.pointer (some ⟨q, 0, none⟩)) "Swap").run Try.prog w = .ok (85, .pointer (some ⟨q, 0, none⟩)) w := meth_Swap q
  have hmPop : ∀ w, (method 228 70 (.pointer (some ⟨q, 0, none⟩)) "Pop").run Try.prog w = .ok (83, .pointer (some ⟨q, 0, none⟩)) w := meth_Pop q
  by_cases e : i = k
  · subst e
    have b1 : ((i : Int) == (i : Int)) = true := by simp
    have b2 : ((i : Int) != (i : Int)) = false := by simp
    obtain ⟨l1, l2, l3⟩ := pop_last Hk.out
    have R := Lib.hid (show (d.pop.toList ++ [d[i]!]).Perm d.toList ∧ HeapN d.pop d.pop.size ∧ Off w.heap.size q w w from ⟨l1 ▸ List.Perm.refl _, l2 (HD.out.mono (by rw [Hk.out]; omega)), Off.refl _ _ _⟩)
    have HPh := Lib.hid (popQ q i d w HQ.out Hk.out (by rw [Hk.out]; omega))
    clear l1 l2 l3
    go_enter Try.func34, Try.ntmps34
    go_wp2_with (first
      | (go_at_call 29; (with_reducible refine HL.out.mono ?_); rintro e _ ⟨rfl, rfl⟩)
      | (go_at_call 83; (with_reducible refine HPh.out.mono ?_); rintro e w9 ⟨rfl, q9, o9⟩; have Q9 := Lib.hid q9; have O9 := Lib.hid o9; clear q9 o9))
    go_ret
    exact ⟨_, rfl, Q9.out, R.out.1, R.out.2.1, R.out.2.2.trans (O9.out.mono R.out.2.2.size)⟩
  · have b1 : ((k : Int) == (i : Int)) = false := beq_eq_false_iff_ne.2 (by omega)
    have b2 : ((k : Int) != (i : Int)) = true := by rw [bne_iff_ne]; omega
    have hlt : i < k := by omega
    clear e
    go_enter Try.func34, Try.ntmps34
    have tk0 := Lib.hid trivial
    go_wp2_with (first
      | (go_at_call 29; clear tk0; (with_reducible refine HL.out.mono ?_); rintro e _ ⟨rfl, rfl⟩)
      | (go_at_call 85; (with_reducible refine (swapQ q d _ _ i k _ HQ.out rfl rfl (by rw [Hk.out]; omega) (by rw [Hk.out]; omega) (by rw [Hk.out]; omega)).mono ?_); rintro e w1 ⟨rfl, q1, o1⟩; have Q1 := Lib.hid q1; have O1 := Lib.hid o1; clear q1 o1))
    have s1 : (swp d i k).size = k + 1 := by rw [swp_size, Hk.out]
    have D1 : DnI (swp d i k) k i false := by
      refine DnI.start (d := d) (HD.out.mono (by rw [Hk.out]; omega)) (fun j hj hne => ?_) hlt
      rw [swp_get d (by rw [Hk.out]; omega) (by rw [Hk.out]; omega), if_neg (by omega), if_neg hne]
    (with_reducible refine (down_any q k i (swp d i k) _ _ _ Q1.out rfl rfl (by omega) (by omega) (by omega) D1).mono ?_)
    rintro e w2 ⟨b, d2, i2, rfl, hb, q2, p2, D2, ch2, hle, o2⟩
    obtain ⟨pp, ps, pg⟩ := permIn_toList p2 (by omega)
    have s2 : d2.size = k + 1 := by omega
    have e2 : d2[k]! = d[i]! := by rw [pg k (Nat.le_refl _), swp_get d (by rw [Hk.out]; omega) (by rw [Hk.out]; omega), if_pos rfl]
    have pd : d2.toList.Perm d.toList := pp.trans (swp_perm d (by rw [Hk.out]; omega) (by rw [Hk.out]; omega))
    have o2' := O1.out.trans (o2.mono O1.out.size)
    cases b with
    | true =>
      have h2 : HeapN d2 k := DnI.heap (by rw [← hb] at D2; exact D2) ch2
      obtain ⟨l1, l2, l3⟩ := pop_last s2
      rw [e2] at l1
      have R := Lib.hid (show (d2.pop.toList ++ [d[i]!]).Perm d.toList ∧ HeapN d2.pop d2.pop.size ∧ Off w.heap.size q w w2 from ⟨l1 ▸ pd, l2 h2, o2'⟩)
      have HP := popQ q k d2 w2 q2 s2 (by omega)
      rw [e2] at HP
      have HPh := Lib.hid HP
      clear hb q2 p2 D2 ch2 hle o2 o2' h2 pp ps pg s2 e2 pd l1 l2 l3 HP D1 s1
      go_wp2_with (go_at_call 83; (with_reducible refine HPh.out.mono ?_); rintro e w9 ⟨rfl, q9, o9⟩; have Q9 := Lib.hid q9; have O9 := Lib.hid o9; clear q9 o9)
      go_ret
      exact ⟨_, rfl, Q9.out, R.out.1, R.out.2.1, R.out.2.2.trans (O9.out.mono R.out.2.2.size)⟩
    | false =>
      have e1 : i2 = i := by have := of_decide_eq_false hb.symm; omega
      subst e1
      have hu : Hid (UpI d2 k i2) := Lib.hid (DnI.up (by rw [← hb] at D2; exact D2) ch2)
      have Q2 := Lib.hid q2
      have O2 := Lib.hid o2'
      have S2 := Lib.hid s2
      have E2 := Lib.hid e2
      have PD := Lib.hid pd
      clear hb q2 p2 D2 ch2 hle o2 o2' pp ps pg s2 e2 pd D1 s1
      go_wp2_with fail
      (with_reducible refine (up_any q k i2 d2 _ _ Q2.out rfl hlt (by rw [S2.out]; omega) (by rw [S2.out]; omega) hu.out).mono ?_)
      rintro e w3 ⟨rfl, d3, q3, p3, h3, o3⟩
      obtain ⟨pp, ps, pg⟩ := permIn_toList p3 (by rw [S2.out]; omega)
      have s3 : d3.size = k + 1 := ps.trans S2.out
      have e3 : d3[k]! = d[i2]! := by rw [pg k (Nat.le_refl _), E2.out]
      obtain ⟨l1, l2, l3⟩ := pop_last s3
      rw [e3] at l1
      have R := Lib.hid (show (d3.pop.toList ++ [d[i2]!]).Perm d.toList ∧ HeapN d3.pop d3.pop.size ∧ Off w.heap.size q w w3 from ⟨l1 ▸ (pp.trans PD.out), l2 h3, O2.out.trans (o3.mono O2.out.size)⟩)
      have HP := popQ q k d3 w3 q3 s3 (by omega)
      rw [e3] at HP
      have HPh := Lib.hid HP
      clear q3 p3 h3 o3 pp ps pg s3 e3 l1 l2 l3 HP
      go_wp2_with (go_at_call 83; (with_reducible refine HPh.out.mono ?_); rintro e w9 ⟨rfl, q9, o9⟩; have Q9 := Lib.hid q9; have O9 := Lib.hid o9; clear q9 o9)
      go_ret
      exact ⟨_, rfl, Q9.out, R.out.1, R.out.2.1, R.out.2.2.trans (O9.out.mono R.out.2.2.size)⟩
end Go.Proofs.Ytjcoghjkjnhljaa
