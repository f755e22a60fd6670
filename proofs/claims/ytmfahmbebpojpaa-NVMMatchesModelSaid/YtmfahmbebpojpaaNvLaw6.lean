/-
  LAYER 7 (nvm): the statements' MatchesModel.
-/
import Derived.Test.YtmfahmbebpojpaaNvAll
namespace Go.Proofs.Ytmfahmbebpojpaa
open Go Go.RowKit Go.IntWalk
set_option linter.unusedSimpArgs false
set_option maxRecDepth 8000

theorem BoxR.notNvb {w : World} {g q S : Nat} {s : NV} {x : RM} {p : Option Addr} {c : Nat} (hb : BoxR S x p c w) (h : NvS w g q s) : ¬ Nvb g q s.mt S := fun hk => by
  have hb' : w.heap[S]? = some (.cells (rmc x p c) 31) := hb
  have ne : ∀ {cs : Array Value} {e : TypeId}, w.heap[S]? = some (.cells cs e) → e = 31 := fun hk => by
    rw [hb'] at hk
    simp only [Option.some.injEq, Obj.cells.injEq] at hk
    exact hk.2.1.symm
  rcases hk with rfl | rfl | hk
  · exact absurd (ne h.row) (by decide)
  · exact absurd (ne h.record) (by decide)
  · have hm := h.mt
    cases hs : s.mt with
    | no => rw [hs] at hk; exact hk.elim
    | down b n => rw [hs] at hk hm; obtain rfl : S = b := hk; exact absurd (ne hm) (by decide)
    | up b kb k1 k2 => rw [hs] at hk hm; obtain rfl : S = b := hk; exact absurd (ne hm.1) (by decide)
theorem nvb_new2 {g q N : Nat} (hg : N ≤ g) (hq : N ≤ q) : ∀ k, Nvb g q .no k → N ≤ k := fun k hk => by
  rcases hk with rfl | rfl | hk
  · exact hg
  · exact hq
  · exact hk.elim
theorem sim_start (n : Nat) : Sim 0 (nv0 n) (rm0 n) := ⟨rfl, rfl, rfl, .inr ⟨rfl, rfl⟩, .inl ⟨rfl, rfl⟩⟩
theorem do_step {w w' : World} {g q S : Nat} {s : NV} {x : RM} {p : Option Addr} {c : Nat} {ob : Obj} (hb : BoxR S x p c w) (h : NvS w g q s) (hC : Chg (w.alloc ob) w' (Nvb g q s.mt)) : BoxR S x p c w' ∧ w'.heap[w.heap.size]? = some ob := by
  have hb' : BoxR S x p c (w.alloc ob) := hb.grew ((Grew.refl w).al ob)
  have h' : NvS (w.alloc ob) g q s := h.alloc ob
  refine ⟨hb'.chg hC (hb'.notNvb h'), (hC.block w.heap.size (by simp) (fun hk => ?_)).trans (heap_alloc_new w ob)⟩
  have := h.blk_lt (k := w.heap.size) hk
  omega
theorem after_do {w : World} {g q S : Nat} {s : NV} {x x1 : RM} {p p1 : Option Addr} {c c1 : Nat} (hb : BoxR S x p c w) (h : NvS w g q s) (hB : Bin w p1 c1 x1.B) (ob : Obj) : NvS ((set7 w S x1 p1 c1).alloc ob) g q s ∧ Bin ((set7 w S x1 p1 c1).alloc ob) p1 c1 x1.B :=
  ⟨(h.boxed hb (set7_chg w S x1 p1 c1)).alloc ob, (Bin.boxed hb hB (set7_chg w S x1 p1 c1)).gr ((Grew.refl _).al ob)⟩
/-- What a round keeps. -/
structure St (w0 : World) (g q S : Nat) (s : NV) (x : RM) (p : Option Addr) (c : Nat) (L : Int) (w : World) : Prop where
  box : BoxR S x p c w
  inn : DoIn g q s x p c L w
  grew : Grew w0 w
  far : ∀ j, Nvb g q s.mt j → w0.heap.size ≤ j
theorem St.next {w0 w w5 w6 : World} {g q S : Nat} {s s1 : NV} {x x1 : RM} {p p1 : Option Addr} {c c1 : Nat} {L : Int} {ob oc : Obj} (h : St w0 g q S s x p c L w) (hS7 : w0.heap.size ≤ S) (hb : BoxR S x p c w5) (hS : NvS w5 g q s1) (hB : Bin w5 p1 c1 x1.B) (hM : Sim (L - 1) s1 x1) (hC : Chg (w.alloc ob) w5 (Nvb g q s.mt)) (hm : ∀ j, s1.mt.blk j → s.mt.blk j ∨ (w.alloc ob).heap.size ≤ j) (hA : Away (Nvb g q s1.mt) p1) (hl : x1.B.length = x.B.length) (hg : Grew ((set7 w5 S x1 p1 c1).alloc oc) w6) : St w0 g q S s1 x1 p1 c1 (L - 1) w6 := by
  obtain ⟨h1, h2⟩ := after_do (x1 := x1) (p1 := p1) (c1 := c1) hb hS hB oc
  have h5 : Grew w0 w5 := grew_lift (h.grew.al ob) hC h.far
  have h6 : Grew w0 (set7 w5 S x1 p1 c1) := grew_lift h5 (set7_chg w5 S x1 p1 c1) fun k hk => hk ▸ hS7
  have h7 : Grew w0 ((set7 w5 S x1 p1 c1).alloc oc) := h6.al oc
  refine ⟨BoxR.grew (BoxR.grew (hb.set7 x1 p1 c1) ((Grew.refl _).al oc)) hg, ⟨h1.grew hg, h2.gr hg, hA, hM, by rw [hl]; exact h.inn.pos⟩, h7.trans hg, fun j hj => ?_⟩
  rcases hj with hj | hj | hj
  · exact h.far j (.inl hj)
  · exact h.far j (.inr (.inl hj))
  · rcases hm j hj with hj | hj
    · exact h.far j (.inr (.inr hj))
    · have := Below.size h.grew
      have : (w.alloc ob).heap.size = w.heap.size + 1 := by simp
      omega
set_option maxHeartbeats 8000000 in
theorem matches_law (z : Int) (p : Option Addr) (n c : Nat) (xs : List OpM) (w0 : World) (hl : xs.length = n) (hx : RdM w0 p c xs) (hz : -9223372036854775808 ≤ z ∧ z ≤ 9223372036854775807) :
    Calls Try.prog 3 #[.int .i64 z, .slice p n c] w0 fun e w' => e = .returned (.bool true) ∧ Below w0.heap.size w0 w' := by
  subst hl
  have HX := Lib.hid hx
  have hcap := hx.cap
  have hmax := hx.max
  clear hx
  by_cases hzz : 1 ≤ z ∧ z ≤ 65536
  · obtain ⟨m, rfl⟩ : ∃ m : Nat, z = (m : Int) := ⟨z.toNat, by omega⟩
    have hm1 : 1 ≤ m ∧ m ≤ 65536 := by omega
    have HNew : Hid (∀ W : World, Calls Try.prog 11 #[.int .i64 m] W fun e w' => ∃ g q, e = .returned (.tuple #[.pointer (some ⟨q, 0, none⟩), .int .i64 0]) ∧ NvS w' g q (nv0 m) ∧ Grew W w' ∧ W.heap.size ≤ g ∧ W.heap.size ≤ q) := Lib.hid fun W => by
      have := new_any m W (by omega)
      rwa [Int.toNat_natCast] at this
    clear hz hzz
    go_enter Try.func3, Try.ntmps3
    go_wp2_with (first
      | (go_at_call 9; (with_reducible refine (wakes_any _).mono ?_); rintro e w1 ⟨rfl, g0⟩; have HB0 := Lib.hid g0; clear g0)
      | (go_at_call 10; (with_reducible refine (small_any m p xs.length c xs _ rfl (HX.out.kept HB0.out)).mono ?_); rintro e w2 ⟨bs, rfl, g1⟩; have HB1 := Lib.hid (Grew.trans HB0.out g1); clear g1)
      | (go_at_call 11; (with_reducible refine (HNew.out _).mono ?_); rintro e w3 ⟨g, q, rfl, s1, g1, hg, hq⟩; have HS := Lib.hid s1; have HB2 := Lib.hid (Grew.trans HB1.out g1); have HN := Lib.hid (nvb_new2 (Nat.le_trans (Below.size HB1.out) hg) (Nat.le_trans (Below.size HB1.out) hq)); clear s1 g1 hg hq HNew)
      | (go_at_call 12; (with_reducible refine (rnew_any m _ hm1).mono ?_); rintro e w4 ⟨p1, c1, rfl, b1, n1, g1⟩; have HR := Lib.hid b1; have HR2 := Lib.hid n1; have HG := Lib.hid g1; clear b1 n1 g1))
    · go_ret
      exact ⟨rfl, HB1.out⟩
    obtain ⟨S7, hS7⟩ : ∃ S7, S7 = w4.heap.size := ⟨_, rfl⟩
    rw [← hS7]
    have hS7N : w0.heap.size ≤ S7 := by
      have := Below.size (Grew.trans HB2.out HG.out)
      omega
    refine wp_at2 (fun W => BoxR S7 (rm0 m) p1 c1 W ∧ NvS W g q (nv0 m) ∧ Bin W p1 c1 (rm0 m).B ∧ Grew w0 W) ⟨by rw [hS7]; exact heap_alloc_new w4 _, (HS.out.grew HG.out).alloc _, HR.out.gr ((Grew.refl w4).al _), (Grew.trans HB2.out HG.out).al _⟩ ?_
    intro W hW
    have HA0 : Hid (Away (Nvb g q .no) p1) := Lib.hid fun ad had hk => by
      have h1 := HR2.out ad had
      have h2 := HS.out.blk_lt (k := ad.block) hk
      omega
    have HW := Lib.hid hW
    clear hS7 hW HS HR HR2 HG HB0 HB1 HB2
    go_loopg [45] xs.length (fun gg iv wr => ∃ (k : Nat) (sk : NV) (xk : RM) (pk : Option Addr) (ck : Nat), iv = .int .i64 (k : Int) ∧ k ≤ xs.length ∧ gg = xs.length - k ∧ Hid (St w0 g q S7 sk xk pk ck (-(k : Int)) wr))
    case atStart => exact ⟨0, nv0 m, rm0 m, p1, c1, rfl, Nat.zero_le _, rfl, Lib.hid ⟨HW.out.1, ⟨HW.out.2.1, HW.out.2.2.1, HA0.out, sim_start m, by simp [rm0]; omega⟩, HW.out.2.2.2, HN.out⟩⟩
    clear HW HA0 HN
    case round =>
      obtain ⟨k, sk, xk, pk, ck, rfl, hk, rfl, hSt⟩ := hrel
      have hX7 := Lib.hid hSt.out.box
      have hI := Lib.hid hSt.out.inn
      have hG := Lib.hid hSt.out.grew
      have hN := Lib.hid hSt.out.far
      obtain ⟨a0, a1, a2, a3, a4, a5, a6, af⟩ := box7 hX7.out
      have hs7 := lt_of_heap hX7.out
      by_cases hlt : k < xs.length
      · obtain ⟨b, o, rfl, hcc⟩ := (HX.out.kept hG.out).cells (by omega)
        obtain ⟨d0, d1, d2, d3⟩ := hcc k xs[k] (by simp [hlt])
        have hlb : b < wr.heap.size := World.block_lt_of_cell? _ _ d0
        have HLT := Lib.hid (Nat.succ_le_of_lt hlt)
        have HE := Lib.hid ((HX.out.kept hG.out).bytes xs[k] (List.getElem_mem hlt))
        have HE0 := Lib.hid (HX.out.bytes xs[k] (List.getElem_mem hlt))
        have HK := Lib.hid (HX.out.good xs[k] (List.getElem_mem hlt))
        generalize xs[k] = e at d0 d1 d2 d3 HE HE0 HK
        obtain ⟨kd, ad, nn, bp, bc, ys⟩ := e
        simp only at d0 d1 d2 d3 HE HE0
        have HIo : ∀ o : Obj, DoIn g q sk xk pk ck (-(k : Int)) (wr.alloc o) := fun o => ⟨hI.out.S.alloc o, hI.out.B.gr ((Grew.refl wr).al o), hI.out.A, hI.out.M, hI.out.pos⟩
        have HDo : Hid (∀ ob, Calls Try.prog 13 #[.pointer (some ⟨q, 0, none⟩), rmv xk pk ck, opv kd ad nn bp ys.length bc] (wr.alloc ob) fun e w' => ∃ x' p' c' s', e = .returned (.tuple #[rmv x' p' c', .bool true]) ∧ (NvS w' g q s' ∧ Bin w' p' c' x'.B ∧ Near (wr.alloc ob) pk p' ∧ Sim (-(k : Int) - 1) s' x' ∧ Chg (wr.alloc ob) w' (Nvb g q sk.mt) ∧ (∀ j, s'.mt.blk j → sk.mt.blk j ∨ (wr.alloc ob).heap.size ≤ j) ∧ Away (Nvb g q s'.mt) p' ∧ x'.B.length = xk.B.length)) := Lib.hid fun ob => do_any g q sk xk pk ck (-(k : Int)) kd ad nn bp ys.length bc ys (wr.alloc ob) (HIo ob) (by omega) HK.out.1 HK.out.2.2 rfl (HE.out.gr ((Grew.refl wr).al ob)) (fun h => HE0.out.sub hN.out h)
        have HL : Hid (-(k : Int) - 1 = -((k + 1 : Nat) : Int)) := Lib.hid (by omega)
        have HNN : Hid (nn ≤ 9223372036854775807) := Lib.hid HK.out.2.2.2
        clear hcc HIo
        go_wp2_with (first
          | (go_at_call 13; (with_reducible refine (HDo.out _).mono ?_); rintro e w5 ⟨x5, p5, c5, s5, rfl, hS5, hB5, hN5, hM5, hC5, hm5, hA5, hl5⟩; obtain ⟨h75, hO5⟩ := do_step hX7.out hI.out.S hC5; obtain ⟨f0, f1, f2, f3, f4, f5, f6, ff⟩ := box7 h75; obtain ⟨g0, g1, g2, g3⟩ := box4 hO5; have hs75 := lt_of_heap h75; have hso5 := lt_of_heap hO5; have H75 := Lib.hid h75; have HS5 := Lib.hid hS5; have HB5 := Lib.hid hB5; have HM5 := Lib.hid hM5; have HC5 := Lib.hid hC5; have Hm5 := Lib.hid hm5; have HA5 := Lib.hid hA5; have Hl5 := Lib.hid hl5; have HAD := Lib.hid (after_do (x1 := x5) (p1 := p5) (c1 := c5) h75 hS5 hB5); clear h75 hO5 hS5 hB5 hN5 hM5 hC5 hm5 hA5 hl5 HDo)
          | (go_at_call 14; (with_reducible refine (same_any g q s5 x5 p5 c5 ad nn _ (HAD.out _).1 (HAD.out _).2 HM5.out.B HM5.out.off HM5.out.wr HNN.out).mono ?_); rintro e w6 ⟨rfl, g6⟩; have H6 := Lib.hid (hSt.out.next hS7N H75.out HS5.out HB5.out HM5.out HC5.out Hm5.out HA5.out Hl5.out g6); clear g6))
        go_roundg (xs.length - (k + 1))
        case measure => have := HLT.out; omega
        case rel => exact ⟨k + 1, s5, x5, p5, c5, by go_num, HLT.out, rfl, HL.out ▸ H6⟩
      · obtain rfl : k = xs.length := by omega
        go_wp2_with (go_at_call 14; (with_reducible refine (same_any g q sk xk pk ck 0 m _ hI.out.S hI.out.B hI.out.M.B hI.out.M.off hI.out.M.wr (by omega)).mono ?_); rintro e w6 ⟨rfl, g6⟩; have H6 := Lib.hid (Grew.trans hG.out g6); clear g6)
        go_ret
        exact ⟨rfl, H6.out⟩
  · have HNew : Hid (∀ W : World, Calls Try.prog 11 #[.int .i64 z] W fun e w' => e = .returned (.tuple #[.pointer none, .int .i64 1]) ∧ W = w') := Lib.hid fun W => new_bad z W hzz
    have HRN : Hid (∀ W : World, Calls Try.prog 12 #[.int .i64 z] W fun e w' => e = .returned (.tuple #[rmv ⟨[], false, false, 0, false, 0, 0⟩ none 0, .int .i64 1]) ∧ Grew W w') := Lib.hid fun W => rnew_bad z W hzz
    clear hzz
    go_enter Try.func3, Try.ntmps3
    go_wp2_with (first
      | (go_at_call 9; (with_reducible refine (wakes_any _).mono ?_); rintro e w1 ⟨rfl, g0⟩; have HB0 := Lib.hid g0; clear g0)
      | (go_at_call 10; (with_reducible refine (small_any z p xs.length c xs _ rfl (HX.out.kept HB0.out)).mono ?_); rintro e w2 ⟨bs, rfl, g1⟩; have HB1 := Lib.hid (Grew.trans HB0.out g1); clear g1)
      | (go_at_call 11; (with_reducible refine (HNew.out _).mono ?_); rintro e _ ⟨rfl, rfl⟩)
      | (go_at_call 12; (with_reducible refine (HRN.out _).mono ?_); rintro e w4 ⟨rfl, g1⟩; have HB2 := Lib.hid (Grew.trans HB1.out g1); clear g1))
    · go_ret
      exact ⟨rfl, HB1.out⟩
    · go_ret
      exact ⟨rfl, HB2.out.al _⟩
end Go.Proofs.Ytmfahmbebpojpaa
