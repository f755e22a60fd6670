/-
  CONTRACTS OF LAYER 4 (bitset), FURTHER: Equal, Subset, Of, With, Without, Range.
-/
import Derived.Test.YtgkjkchhepmakaaDoorBitsetSets2
namespace Go.Proofs.YtgkjkchhepmakaaDoor
open Go.RowKit Go.IntWalk

theorem eq_any (p : Option Addr) (n c : Nat) (q : Option Addr) (m d : Nat) (f g : Nat → Bool) (w : World) (h : St w p n c f) (h2 : St w q m d g) :
    Calls Tryd.prog 29 #[.agg #[.slice p n c], .agg #[.slice q m d]] w fun e w' => ∃ b : Bool, e = .returned (.bool b) ∧ Hid (b = true ↔ ∀ x, f x = g x) ∧ Below w.heap.size w w' := by
  obtain ⟨ws, rfl, hr, hs⟩ := h
  obtain ⟨vs, rfl, hq, ht⟩ := h2
  have hiff := Lib.hid (hs.eq_iff ht)
  go_enter Tryd.func29, Tryd.ntmps29
  go_wp2_with (go_at_call 42; (with_reducible refine (equal_any _ _ _ ws _ _ _ vs _ rfl rfl (hr.kept (below2 w _ _)) (hq.kept (below2 w _ _))).mono ?_); rintro e w1 ⟨b, rfl, hb, hb1⟩)
  go_ret
  exact ⟨b, rfl, Lib.hid (hb.out.trans hiff.out), (below2 w _ _).trans (hb1.mono (below2 w _ _).size)⟩

theorem subset_any (p : Option Addr) (n c : Nat) (q : Option Addr) (m d : Nat) (f g : Nat → Bool) (w : World) (h : St w p n c f) (h2 : St w q m d g) :
    Calls Tryd.prog 31 #[.agg #[.slice p n c], .agg #[.slice q m d]] w fun e w' => ∃ b : Bool, e = .returned (.bool b) ∧ Hid (b = true ↔ ∀ x, f x = true → g x = true) ∧ Below w.heap.size w w' := by
  obtain ⟨ws, rfl, hr, hs⟩ := h
  obtain ⟨vs, rfl, hq, ht⟩ := h2
  have hiff := Lib.hid (hs.sub_iff ht)
  have hsl := hs.len
  have htl := ht.len
  go_enter Tryd.func31, Tryd.ntmps31
  go_wp2
  · go_ret
    exact ⟨false, rfl, Lib.hid ⟨fun e => (by cases e), fun e => absurd (hiff.out.2 e).1 (by omega)⟩, below2 w _ _⟩
  · go_loopw [17] (fun v wr => ∃ k : Nat, v = .int .i64 (k : Int) ∧ k ≤ ws.length ∧ Hid (∀ i, i < k → ws.getD i 0#64 &&& ~~~ (vs.getD i 0#64) = 0#64) ∧ Hid (Below w.heap.size w wr) ∧ Hid (wr.cell? ⟨w.heap.size + 1, 0, none⟩ = some (.slice q vs.length d))) (fun v _ => ws.length - (intOf v).toNat)
    case atStart => exact ⟨0, rfl, Nat.zero_le _, fun i hi => by omega, below2 w _ _, new_at _ _ _ _ (by simp)⟩
    case round =>
      obtain ⟨k, rfl, hk, h0, hb, hx⟩ := hrel
      have hxx := hx.out
      rcases Nat.lt_or_ge k ws.length with hlt | hge
      · obtain ⟨b, o, rfl, _⟩ := hq.cells (by omega)
        obtain ⟨b2, o2, rfl, _⟩ := hr.cells (by omega)
        have hsc := (hq.kept hb.out).word k (by omega)
        have htc := (hr.kept hb.out).word k (by omega)
        have hkv : k < vs.length := by omega
        obtain ⟨x, hx0⟩ : ∃ x, ws.getD k 0#64 &&& ~~~ (vs.getD k 0#64) = x := ⟨_, rfl⟩
        have hor := andNot_num (ws.getD k 0#64) (vs.getD k 0#64)
        rw [hx0] at hor
        have hx0 := Lib.hid hx0
        obtain ⟨u, hu⟩ : ∃ u, ws.getD k 0#64 = u := ⟨_, rfl⟩
        obtain ⟨v, hv⟩ : ∃ u, vs.getD k 0#64 = u := ⟨_, rfl⟩
        rw [hu] at htc
        rw [hv] at hsc
        rw [hu, hv] at hor
        clear hu hv
        go_wp2
        · rename_i hne
          go_ret
          refine ⟨false, rfl, Lib.hid ⟨fun e => (by cases e), fun e => ?_⟩, hb.out⟩
          have h1 := (hiff.out.2 e).2 k hlt
          rw [hx0.out] at h1
          rw [h1] at hne
          simp at hne
        · rename_i heq
          have hx1 : x = 0#64 := BitVec.eq_of_toNat_eq (by simpa using heq)
          refine ⟨⟨k + 1, by simp, hlt, Lib.hid fun i hi => ?_, hb, hx⟩, by simp [intOf]; omega⟩
          rcases Nat.lt_or_ge i k with h1 | h1
          · exact h0.out i h1
          · obtain rfl : i = k := by omega
            rw [hx0.out, hx1]
      · obtain rfl : k = ws.length := by omega
        go_wp2
        go_ret
        exact ⟨true, rfl, Lib.hid ⟨fun _ => hiff.out.1 ⟨by omega, h0.out⟩, fun _ => rfl⟩, hb.out⟩

/-! ### Of -/
/-- The elements among some integers. -/
def ofl (l : List Int) (n : Nat) : Bool := decide (n < 65536) && l.contains (n : Int)
theorem ofl_nil : ∀ n, false = ofl [] n := fun n => by simp [ofl]
theorem ofl_step (l : List Int) (k : Nat) (z : Int) (hz : l[k]? = some z) (n : Nat) : ofl (l.take (k + 1)) n = (decide (n < 65536) && ((l.take k).contains (n : Int) || ((n : Int) == z))) := by
  obtain ⟨hk, hzk⟩ := List.getElem?_eq_some_iff.1 hz
  unfold ofl
  rw [List.take_succ_eq_append_getElem hk, hzk, List.contains_append]
  have e : [z].contains (n : Int) = ((n : Int) == z) := by rw [List.contains_cons]; simp
  rw [e]
theorem ofl_skip (l : List Int) (k : Nat) (z : Int) (hz : l[k]? = some z) (hb : z < 0 ∨ 65536 ≤ z) (n : Nat) : ofl (l.take k) n = ofl (l.take (k + 1)) n := by
  rw [ofl_step l k z hz]
  unfold ofl
  by_cases h : n < 65536
  · have : ((n : Int) == z) = false := by simp; omega
    rw [this, Bool.or_false]
  · rw [decide_eq_false h, Bool.false_and, Bool.false_and]
theorem ofl_add (l : List Int) (k e : Nat) (hz : l[k]? = some (e : Int)) (he : e < 65536) (n : Nat) : (ofl (l.take k) n || n == e) = ofl (l.take (k + 1)) n := by
  rw [ofl_step l k _ hz]
  unfold ofl
  have h2 : ((n : Int) == (e : Int)) = (n == e) := by rw [Bool.eq_iff_iff, beq_iff_eq, beq_iff_eq]; omega
  rw [h2]
  by_cases h : n < 65536
  · rw [decide_eq_true h, Bool.true_and, Bool.true_and]
  · have h3 : (n == e) = false := by simp; omega
    rw [decide_eq_false h, h3]
    rfl
theorem shl_num (r : Nat) (h : r < 64) : IntKind.u64.wrap ((2 : Int) ^ r) = ((BitVec.ofNat 64 (2 ^ r)).toNat : Int) := by
  have h1 : 2 ^ r < 2 ^ 64 := Nat.pow_lt_pow_right (by omega) h
  have e : ((2 : Int) ^ r) = ((2 ^ r : Nat) : Int) := by simp
  rw [e, IntKind.wrap_u64, BitVec.toNat_ofNat]
  omega
theorem under_ints : Tryd.prog.underlying 22 = some (.slice (Tryd.prog.elem 22)) := by kernel_rfl
theorem info_int : (Tryd.prog.info? 3).map (fun i => (i.zero, i.size, i.bytes)) = some (some (.int .i64 0), 1, 8) := by kernel_rfl
abbrev iv : Int → Value := Value.int .i64
theorem iv_one (z : Int) : (iv z).oneCell' = true := rfl

set_option maxRecDepth 20000 in
theorem of_any (p : Option Addr) (n c : Nat) (l : List Int) (w : World) (hl : l.length = n) (h : Rd iv w p c l) (hwf : ∀ z ∈ l, -9223372036854775808 ≤ z ∧ z ≤ 9223372036854775807) :
    Calls Tryd.prog 13 #[.slice p n c] w fun e w' => ∃ r k j, e = .returned (.agg #[.slice r k j]) ∧ New w r ∧ St w' r k j (ofl l) ∧ Below w.heap.size w w' := by
  subst hl
  have hcap := h.cap
  have hmax := h.max
  go_enter Tryd.func13, Tryd.ntmps13
  go_wp2
  go_loopw [3, 9] (fun v i wr => ∃ (k : Nat) (p2 : Option Addr) (c2 : Nat) (zs : List W64), v = .slice p2 zs.length c2 ∧ i = .int .i64 (k : Int) ∧ k ≤ l.length ∧ Hid (Ow wv wr (w.heap.size + 1) 56 (.slice p2 zs.length c2) zs) ∧ Hid (Sets zs (ofl (l.take k))) ∧ Hid (Below w.heap.size w wr) ∧ Hid (wr.cell? ⟨w.heap.size, 0, none⟩ = some (.slice none 0 0)) ∧ Hid (wr.frozen? ⟨w.heap.size, 0, none⟩ = false)) (fun _ i _ => l.length - (intOf i).toNat)
  case atStart => exact ⟨0, none, 0, [], rfl, rfl, Nat.zero_le _, Ow.nil _ _ _, Sets.nil.congr ofl_nil, (Below.refl _ _).alloc (Nat.le_refl _) _, new_cell w _ _, new_free w _ _⟩
  case round =>
    obtain ⟨k, p2, c2, zs, rfl, rfl, hk, ho, hs, hb, hc1, hc2⟩ := hrel
    have hcc := hc1.out
    have hcf := hc2.out
    have hzl := hs.out.len
    have hoc := ho.out.rd.2.cap
    have hom := ho.out.rd.2.max
    rcases Nat.lt_or_ge k l.length with hlt | hge
    · obtain ⟨b, o, rfl, _⟩ := h.cells (by omega)
      obtain ⟨z, hz⟩ : ∃ z, l[k]? = some z := ⟨_, List.getElem?_eq_getElem hlt⟩
      have hzw := hwf z (List.mem_of_getElem? hz)
      have hcell : wr.cell? ⟨b, o + k, none⟩ = some (.int .i64 z) := (h.kept hb.out).cell k z hz
      have hz := Lib.hid hz
      by_cases hbad : z < 0 ∨ 65536 ≤ z
      · go_wp2
        all_goals exact ⟨⟨k + 1, p2, c2, zs, rfl, by simp, hlt, ho, Lib.hid (hs.out.congr (ofl_skip l k z hz.out (by omega))), hb, hc1, hc2⟩, by simp [intOf]; omega⟩
      · obtain ⟨e, rfl⟩ := Int.eq_ofNat_of_zero_le (show 0 ≤ z by omega)
        have he : e < 65536 := by omega
        obtain ⟨q, hq⟩ : ∃ q, e / 64 = q := ⟨_, rfl⟩
        obtain ⟨r, hr⟩ : ∃ r, e % 64 = r := ⟨_, rfl⟩
        have e1 : (e : Int) / 64 = (q : Int) := by omega
        have e2 : (e : Int) % 64 = (r : Int) := by omega
        have e3 : (r : Int) ≤ 64 := by omega
        have d1 : decide ((e : Int) < 0) = false := by simp
        have d2 : decide ((65536 : Int) ≤ (e : Int)) = false := by simp; omega
        clear hbad
        rcases Nat.lt_or_ge q zs.length with hq1 | hq1
        · obtain ⟨g1, rfl, hg1, hg2⟩ := ho.out.at (by omega)
          have hrc := ho.out.rd.2.word q hq1
          have hrf := (ho.out.free q).2
          rw [Nat.zero_add] at hrc
          have hadd := hs.out.add e q 0 he hq (by omega)
          rw [List.replicate_zero, List.append_nil] at hadd
          have hst := ho.out.set q (zs.getD q 0#64 ||| BitVec.ofNat 64 (2 ^ r))
          have hor := or_num (zs.getD q 0#64) (BitVec.ofNat 64 (2 ^ r))
          have hsh := shl_num r (by omega)
          rw [hr] at hadd
          have hadd := Lib.hid hadd
          generalize zs.getD q 0#64 ||| BitVec.ofNat 64 (2 ^ r) = x at hst hadd hor
          have hst := Lib.hid hst
          have hlen : (zs.set q x).length = zs.length := List.length_set
          generalize zs.getD q 0#64 = u at hrc hor
          generalize BitVec.ofNat 64 (2 ^ r) = t at hor hsh
          go_wp2
          go_region
          all_goals go_wp2
          all_goals exact ⟨⟨k + 1, _, c2, zs.set q x, by rw [hlen], by simp, hlt, by rw [hlen]; exact hst.out.drew, Lib.hid (hadd.out.congr (ofl_add l k e hz.out he)), (set_below hb.out g1 q _ (by omega)).drew, (cell_off q _ (by omega)).trans hcc, (free_off q _ (by omega)).trans hcf⟩, by simp [intOf]; omega⟩
        · obtain ⟨m, hm⟩ : ∃ m, q + 1 - zs.length = m := ⟨_, rfl⟩
          have hadd := hs.out.add e q m he hq hm.symm
          have hbase : w.heap.size + 1 ≤ wr.heap.size := World.block_lt_of_cell? _ _ hcc
          have hsh := shl_num r (by omega)
          rw [hr] at hadd
          have hadd := Lib.hid hadd
          go_wp2_with (at_builtin; refine wpList_append_zeros rfl (.tmp 27) (.tmp 28) 25 3 rfl wv_one (w.heap.size + 1) 56 0#64 8 Tryd.underlying25 Tryd.underlying3 info_u64 _ zs rfl ho.out _ m rfl (by omega) (by omega) (by omega) hbase ?_; intro p3 c3 ys w3 hy ho3 hb3)
          have hyl : ys.length = q + 1 := by rw [hy.out]; simp; omega
          rw [← hy.out] at hadd
          obtain ⟨g1, rfl, hg1, hg2⟩ := ho3.at (by omega)
          have hrc := ho3.rd.2.word q (by omega)
          have hrf := (ho3.free q).2
          rw [Nat.zero_add] at hrc
          have hst := ho3.set q (ys.getD q 0#64 ||| BitVec.ofNat 64 (2 ^ r))
          have hor := or_num (ys.getD q 0#64) (BitVec.ofNat 64 (2 ^ r))
          generalize ys.getD q 0#64 ||| BitVec.ofNat 64 (2 ^ r) = x at hst hadd hor
          have hst := Lib.hid hst
          have hlen : (ys.set q x).length = ys.length := List.length_set
          have hqy : q < ys.length := by omega
          generalize ys.getD q 0#64 = u at hrc hor
          generalize BitVec.ofNat 64 (2 ^ r) = t at hor hsh
          have hcc3 := (hb3.cell (p := ⟨w.heap.size, 0, none⟩) (by simp)).trans hcc
          have hcf3 := (below_frozen hb3 (p := ⟨w.heap.size, 0, none⟩) (by simp)).trans hcf
          have hb4 := hb.out.trans (hb3.mono (Nat.le_succ _))
          clear hyl hb3
          go_region
          all_goals go_wp2
          all_goals exact ⟨⟨k + 1, _, c3, ys.set q x, by rw [hlen], by simp, hlt, by rw [hlen]; exact hst.out.drew, Lib.hid (hadd.out.congr (ofl_add l k e hz.out he)), (set_below hb4 g1 q _ (by omega)).drew, (cell_off q _ (by omega)).trans hcc3, (free_off q _ (by omega)).trans hcf3⟩, by simp [intOf]; omega⟩
    · obtain rfl : k = l.length := by omega
      go_wp2
      try simp only [Exit.inBlock, Exit.then]
      refine ret_set rfl rfl hcc ?_
      have hs2 := hs.out
      rw [List.take_length] at hs2
      exact ⟨p2, _, c2, rfl, ho.out.isNew (by omega), ⟨zs, rfl, ho.out.apart _ 0 _ (by omega), hs2⟩, set_below hb.out _ 0 _ (by omega)⟩
end Go.Proofs.YtgkjkchhepmakaaDoor
