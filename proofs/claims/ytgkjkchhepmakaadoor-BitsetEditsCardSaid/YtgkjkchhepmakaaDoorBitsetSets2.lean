/-
  CONTRACTS OF LAYER 4 (bitset), FURTHER: Minus, Intersect, With, Without, Equal, Subset.
-/
import Derived.Test.YtgkjkchhepmakaaDoorBitsetSets
import Derived.Deep.RegionWith
namespace Go.Proofs.YtgkjkchhepmakaaDoor
open Go.RowKit Go.IntWalk

theorem St.apart {w : World} {p : Option Addr} {n c : Nat} {f : Nat → Bool} (h : St w p n c f) (B j : Nat) (v : Value) (hB : ∀ a, p = some a → a.block ≠ B) : St (w.setCell ⟨B, j, none⟩ v) p n c f := by
  obtain ⟨ws, h1, h2, h3⟩ := h
  exact ⟨ws, h1, h2.keep fun b o hp _ => Go.Deep.blk_setCell_other w ⟨B, j, none⟩ v b (hB _ hp), h3⟩

theorem minus_any (p : Option Addr) (n c : Nat) (q : Option Addr) (m d : Nat) (f g : Nat → Bool) (w : World) (h : St w p n c f) (h2 : St w q m d g) :
    Calls Tryd.prog 24 #[.agg #[.slice p n c], .agg #[.slice q m d]] w fun e w' => ∃ r k j, e = .returned (.agg #[.slice r k j]) ∧ New w r ∧ St w' r k j (fun x => f x && !g x) ∧ Below w.heap.size w w' := by
  obtain ⟨ws, rfl, hr, hs⟩ := h
  obtain ⟨vs, rfl, hq, ht⟩ := h2
  have hsl := hs.len
  have htl := ht.len
  obtain ⟨m, hm⟩ : ∃ m, m = min ws.length vs.length := ⟨_, rfl⟩
  have hmi : min (ws.length : Int) (vs.length : Int) = (m : Int) := by omega
  have hbits := minus_bits hs ht m hm
  go_enter Tryd.func24, Tryd.ntmps24
  go_wp2_with (go_at_call 39; generalize hW : World.alloc _ _ = W0; have hsz := Lib.hid (show W0.heap.size = w.heap.size + 3 by rw [← hW]; simp); have hb0 := Lib.hid (show Below w.heap.size w W0 by rw [← hW]; exact below3 w _ _ _); have hc0 := Lib.hid (show W0.cell? ⟨w.heap.size + 1 + 1, 0, none⟩ = some (.slice none 0 0) by rw [← hW]; exact new_at _ _ _ _ (by simp)); have hf0 := Lib.hid (show W0.frozen? ⟨w.heap.size + 1 + 1, 0, none⟩ = false by rw [← hW]; exact World.frozen?_alloc_at _ _ _ _ (by simp)); have hx0 := Lib.hid (show W0.cell? ⟨w.heap.size + 1, 0, none⟩ = some (.slice q vs.length d) by rw [← hW]; simp [go_sem]); clear hW; (with_reducible refine (clone_any _ _ _ ws _ rfl hs.len (hr.kept hb0.out)).mono ?_); rintro e w1 ⟨r, j, rfl, ho1, hb1⟩; rw [hsz.out] at ho1; have hx1 := (hb1.cell (p := ⟨w.heap.size + 1, 0, none⟩) (by rw [hsz.out]; simp)).trans hx0.out)
  go_loopw [16] (fun v wr => ∃ k : Nat, v = .int .i64 (k : Int) ∧ k ≤ m ∧ Hid (Ow wv wr (w.heap.size + 3) 56 (.slice r ws.length j) (upTo k ws fun i u => u &&& ~~~ vs.getD i 0#64)) ∧ Hid (Below w.heap.size w wr) ∧ Hid (wr.cell? ⟨w.heap.size + 1 + 1, 0, none⟩ = some (.slice none 0 0)) ∧ Hid (wr.frozen? ⟨w.heap.size + 1 + 1, 0, none⟩ = false) ∧ Hid (wr.cell? ⟨w.heap.size + 1, 0, none⟩ = some (.slice q vs.length d))) (fun v _ => m - (intOf v).toNat)
  case atStart =>
    refine ⟨0, rfl, Nat.zero_le _, ?_, hb0.out.trans (hb1.mono hb0.out.size), (hb1.cell (p := ⟨w.heap.size + 1 + 1, 0, none⟩) (by rw [hsz.out]; simp)).trans hc0.out, ?_, hx1⟩
    · rw [upTo_zero]; exact ho1
    · exact (below_frozen hb1 (p := ⟨w.heap.size + 1 + 1, 0, none⟩) (by rw [hsz.out]; simp)).trans hf0.out
  case round =>
    obtain ⟨k, rfl, hk, ho, hb, hc1, hc2, hx⟩ := hrel
    have hcc := hc1.out
    have hcf := hc2.out
    have hxx := hx.out
    rcases Nat.lt_or_ge k m with hlt | hge
    · obtain ⟨b, o, rfl, _⟩ := hq.cells (by omega)
      obtain ⟨g1, rfl, hg1, hg2⟩ := ho.out.at (by omega)
      have hsc := (hq.kept hb.out).word k (by omega)
      have hrc := ho.out.rd.2.word k (by rw [upTo_length]; omega)
      have hrf := (ho.out.free k).2
      rw [upTo_here _ _ _ (by omega)] at hrc
      rw [Nat.zero_add] at hrc
      have hst := ho.out.set k (ws.getD k 0#64 &&& ~~~ vs.getD k 0#64)
      rw [upTo_set k ws (fun i u => u &&& ~~~ vs.getD i 0#64) (by omega)] at hst
      have hst := Lib.hid hst
      have hkw : k < ws.length := by omega
      have hkv : k < vs.length := by omega
      generalize ws.getD k 0#64 = u at hrc hst
      generalize vs.getD k 0#64 = v at hsc hst
      have hor := andNot_num u v
      generalize u &&& ~~~ v = x at hst hor
      go_wp2
      go_region
      all_goals go_wp2
      exact ⟨⟨k + 1, by simp, hlt, hst.out.drew, (set_below hb.out g1 k _ (by omega)).drew, (cell_off k _ (by omega)).trans hcc, (free_off k _ (by omega)).trans hcf, (cell_off k _ (by omega)).trans hxx⟩, by simp [intOf]; omega⟩
    · obtain rfl : k = m := by omega
      go_wp2_with (go_at_call 40; (with_reducible refine (trim_any _ _ _ (upTo k ws fun i u => u &&& ~~~ vs.getD i 0#64) (fun x => f x && !g x) _ (upTo_length _ _ _) (by omega) ho.out.rd.2 hbits).mono ?_); rintro e w2 ⟨k2, rfl, hk2, hst2, hb2⟩; have hlt2 := World.block_lt_of_cell? _ _ hcc; have hcc2 := (hb2.cell (p := ⟨w.heap.size + 1 + 1, 0, none⟩) hlt2).trans hcc; have hcf2 := (below_frozen hb2 (p := ⟨w.heap.size + 1 + 1, 0, none⟩) hlt2).trans hcf)
      try simp only [Exit.inBlock, Exit.then]
      refine ret_set rfl rfl hcc2 ?_
      exact ⟨r, k2, j, rfl, ho.out.isNew (by omega), hst2.apart _ 0 _ (fun a ha => by have := (ho.out.place a ha).1; omega), set_below (hb.out.trans (hb2.mono hb.out.size)) _ 0 _ (by omega)⟩
theorem inter_any (p : Option Addr) (n c : Nat) (q : Option Addr) (m d : Nat) (f g : Nat → Bool) (w : World) (h : St w p n c f) (h2 : St w q m d g) :
    Calls Tryd.prog 22 #[.agg #[.slice p n c], .agg #[.slice q m d]] w fun e w' => ∃ r k j, e = .returned (.agg #[.slice r k j]) ∧ New w r ∧ St w' r k j (fun x => f x && g x) ∧ Below w.heap.size w w' := by
  obtain ⟨ws, rfl, hr, hs⟩ := h
  obtain ⟨vs, rfl, hq, ht⟩ := h2
  have hsl := hs.len
  have htl := ht.len
  obtain ⟨m, hm⟩ : ∃ m, min ws.length vs.length = m := ⟨_, rfl⟩
  have hmi : min (ws.length : Int) (vs.length : Int) = (m : Int) := by omega
  have hbits := and_bits hs ht m hm.symm
  go_enter Tryd.func22, Tryd.ntmps22
  go_wp2_with (at_make; generalize hW : World.alloc _ _ = W0; have hsz := Lib.hid (show W0.heap.size = w.heap.size + 3 by rw [← hW]; simp); have hb0 := Lib.hid (show Below w.heap.size w W0 by rw [← hW]; exact below3 w _ _ _); have hc0 := Lib.hid (show W0.cell? ⟨w.heap.size + 1 + 1, 0, none⟩ = some (.slice none 0 0) by rw [← hW]; exact new_at _ _ _ _ (by simp)); have hf0 := Lib.hid (show W0.frozen? ⟨w.heap.size + 1 + 1, 0, none⟩ = false by rw [← hW]; exact World.frozen?_alloc_at _ _ _ _ (by simp)); have hx0 := Lib.hid (show W0.cell? ⟨w.heap.size + 1, 0, none⟩ = some (.slice q vs.length d) by rw [← hW]; simp [go_sem]); have hy0 := Lib.hid (show W0.cell? ⟨w.heap.size, 0, none⟩ = some (.slice p ws.length c) by rw [← hW]; simp [go_sem]); clear hW; refine wpList_make_encs rfl _ _ 25 rfl wv_one (w.heap.size + 3) 56 0#64 8 Tryd.underlying25 info_u64 _ _ _ _ m rfl rfl (by omega) (by omega) (by omega) (by omega) (by rw [hsz.out]; exact Nat.le_refl _) ?_; intro w1 ho1 hb1'; have hb1 := Lib.hid (show Below W0.heap.size W0 w1 by rw [hsz.out]; exact hb1'); rw [hsz.out] at ho1 ⊢; obtain ⟨r, hr3⟩ : ∃ r, r = some (Addr.mk (w.heap.size + 3) 0 none) := ⟨_, rfl⟩; rw [← hr3] at ho1 ⊢; clear hr3; have hx1 := (hb1.out.cell (p := ⟨w.heap.size + 1, 0, none⟩) (by rw [hsz.out]; simp)).trans hx0.out; have hy1 := (hb1.out.cell (p := ⟨w.heap.size, 0, none⟩) (by rw [hsz.out]; simp)).trans hy0.out; clear hb1')
  go_loopw [17] (fun v wr => ∃ k : Nat, v = .int .i64 (k : Int) ∧ k ≤ m ∧ Hid (Ow wv wr (w.heap.size + 3) 56 (.slice r m m) (upTo k (List.replicate m 0#64) fun i _ => ws.getD i 0#64 &&& vs.getD i 0#64)) ∧ Hid (Below w.heap.size w wr) ∧ Hid (wr.cell? ⟨w.heap.size + 1 + 1, 0, none⟩ = some (.slice none 0 0)) ∧ Hid (wr.frozen? ⟨w.heap.size + 1 + 1, 0, none⟩ = false) ∧ Hid (wr.cell? ⟨w.heap.size + 1, 0, none⟩ = some (.slice q vs.length d)) ∧ Hid (wr.cell? ⟨w.heap.size, 0, none⟩ = some (.slice p ws.length c))) (fun v _ => m - (intOf v).toNat)
  case atStart =>
    refine ⟨0, rfl, Nat.zero_le _, ?_, hb0.out.trans (hb1.out.mono hb0.out.size), (hb1.out.cell (p := ⟨w.heap.size + 1 + 1, 0, none⟩) (by rw [hsz.out]; simp)).trans hc0.out, ?_, hx1, hy1⟩
    · rw [upTo_zero]; exact ho1
    · exact (below_frozen hb1.out (p := ⟨w.heap.size + 1 + 1, 0, none⟩) (by rw [hsz.out]; simp)).trans hf0.out
  case round =>
    obtain ⟨k, rfl, hk, ho, hb, hc1, hc2, hx, hy⟩ := hrel
    have hcc := hc1.out
    have hcf := hc2.out
    have hxx := hx.out
    have hyy := hy.out
    rcases Nat.lt_or_ge k m with hlt | hge
    · obtain ⟨b, o, rfl, _⟩ := hq.cells (by omega)
      obtain ⟨b2, o2, rfl, _⟩ := hr.cells (by omega)
      obtain ⟨g1, rfl, hg1, hg2⟩ := ho.out.at (by omega)
      have hsc := (hq.kept hb.out).word k (by omega)
      have hrc := ho.out.rd.2.word k (by rw [upTo_length]; simpa using hlt)
      have htc := (hr.kept hb.out).word k (by omega)
      have hrf := (ho.out.free k).2
      rw [Nat.zero_add] at hrc
      have hst := ho.out.set k (ws.getD k 0#64 &&& vs.getD k 0#64)
      rw [upTo_set k (List.replicate m 0#64) (fun i _ => ws.getD i 0#64 &&& vs.getD i 0#64) (by simpa using hlt)] at hst
      have hst := Lib.hid hst
      have hkw : k < ws.length := by omega
      have hkv : k < vs.length := by omega
      generalize (upTo k (List.replicate m 0#64) fun i _ => ws.getD i 0#64 &&& vs.getD i 0#64).getD k 0#64 = y at hrc
      generalize ws.getD k 0#64 = u at htc hst
      generalize vs.getD k 0#64 = v at hsc hst
      have hor := and_num u v
      generalize u &&& v = x at hst hor
      go_wp2
      go_region
      all_goals go_wp2
      exact ⟨⟨k + 1, by simp, hlt, hst.out.drew, (set_below hb.out g1 k _ (by omega)).drew, (cell_off k _ (by omega)).trans hcc, (free_off k _ (by omega)).trans hcf, (cell_off k _ (by omega)).trans hxx, (cell_off k _ (by omega)).trans hyy⟩, by simp [intOf]; omega⟩
    · obtain rfl : k = m := by omega
      have hzl : (upTo k (List.replicate k 0#64) fun i _ => ws.getD i 0#64 &&& vs.getD i 0#64).length = k := by rw [upTo_length]; simp
      have hzr := ho.out.rd.2
      have hk1024 : k ≤ 1024 := by omega
      generalize (upTo k (List.replicate k 0#64) fun i _ => ws.getD i 0#64 &&& vs.getD i 0#64) = zs at hzl hzr hbits
      go_wp2_with (go_at_call 40; (with_reducible refine (trim_any _ _ _ zs (fun x => f x && g x) _ hzl hk1024 hzr hbits).mono ?_); rintro e w2 ⟨k2, rfl, hk2, hst2, hb2⟩; have hlt2 := World.block_lt_of_cell? _ _ hcc; have hcc2 := (hb2.cell (p := ⟨w.heap.size + 1 + 1, 0, none⟩) hlt2).trans hcc; have hcf2 := (below_frozen hb2 (p := ⟨w.heap.size + 1 + 1, 0, none⟩) hlt2).trans hcf)
      try simp only [Exit.inBlock, Exit.then]
      refine ret_set rfl rfl hcc2 ?_
      exact ⟨r, k2, _, rfl, ho.out.isNew (by omega), hst2.apart _ 0 _ (fun a ha => by have := (ho.out.place a ha).1; omega), set_below (hb.out.trans (hb2.mono hb.out.size)) _ 0 _ (by omega)⟩
end Go.Proofs.YtgkjkchhepmakaaDoor
