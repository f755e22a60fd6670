/-
  THE STATEMENT DiagCopies OF LAYER 14 (diag), WALKED.
-/
import Derived.Test.YtmnncildkomagaaDoorDiLaws3
namespace Go.Proofs.YtmnncildkomagaaDoor
open Go Go.RowKit Go.IntWalk
set_option linter.unusedSimpArgs false
set_option linter.unusedVariables false
set_option maxRecDepth 8000

theorem Its.set {w : World} {N g c i : Nat} {ys : List It} (h : Its w N (some ⟨g, 0, none⟩) c ys) (hi : i < ys.length) (x : It) :
    Its ((w.setCell ⟨g, i * 2, none⟩ (.int .i64 x.1)).setCell ⟨g, i * 2 + 1, none⟩ (.string ⟨x.2.toArray⟩)) N (some ⟨g, 0, none⟩) c (ys.set i x) := by
  have hl : (ys.set i x).length = ys.length := List.length_set
  obtain ⟨g', hg, hN, hf⟩ := h.own (by omega)
  obtain rfl : g = g' := by simpa using hg
  have a0 := h.rd.cell (List.getElem?_eq_getElem hi) (j := 0) rfl
  have a1 := h.rd.cell (List.getElem?_eq_getElem hi) (j := 1) rfl
  rw [show 0 + i * 2 + 0 = i * 2 by omega] at a0
  rw [show 0 + i * 2 + 1 = i * 2 + 1 by omega] at a1
  have ne : ∀ j k : Nat, j ≠ k → (⟨g, j, none⟩ : Addr) ≠ ⟨g, k, none⟩ := fun j k hjk e => hjk (by injection e)
  refine ⟨⟨⟨by rw [hl]; exact h.rd.cap, h.rd.max, fun _ => ⟨g, 0, rfl, fun j y hy k v hv => ?_⟩⟩, fun e => (by cases e)⟩, fun _ => ⟨g, rfl, hN, fun k hk => ?_⟩⟩
  · rw [List.getElem?_set] at hy
    rcases hi' : decide (i = j) with _ | _
    · have hij : ¬ i = j := of_decide_eq_false hi'
      rw [if_neg hij] at hy
      have hk2 : k < 2 := by have := (List.getElem?_eq_some_iff.1 hv).1; simpa using this
      have h1 := h.rd.cell hy hv
      rw [World.cell?_setCell_other _ _ _ _ (ne _ _ (by omega)), World.cell?_setCell_other _ _ _ _ (ne _ _ (by omega))]
      exact h1
    · have hij : i = j := of_decide_eq_true hi'
      subst hij
      rw [if_pos rfl, if_pos hi] at hy
      obtain rfl := Option.some.inj hy
      match k, hv with
      | 0, hv =>
        obtain rfl := Option.some.inj hv
        rw [show 0 + i * 2 + 0 = i * 2 by omega, World.cell?_setCell_other _ _ _ _ (ne _ _ (by omega))]
        exact World.cell?_setCell_same _ _ _ a0
      | 1, hv =>
        obtain rfl := Option.some.inj hv
        rw [show 0 + i * 2 + 1 = i * 2 + 1 by omega]
        exact World.cell?_setCell_same _ _ _ ((World.cell?_setCell_other _ _ _ _ (ne _ _ (by omega))).trans a1)
  · rw [hl] at hk
    have := hf k hk
    simpa using this
set_option maxHeartbeats 4000000 in
theorem copies_law (a0 : Option Addr) (len0 cap0 : Nat) (x0 : List It) (W : World) (e0 : x0.length = len0) (w0 : Rw 2 itc W a0 cap0 x0) (f0 : ∀ x ∈ x0, OkI x) (he : Env W) :
    Calls Tryd.prog 10 #[.slice a0 len0 cap0] W fun e w' => e = .returned (.bool true) ∧ Grew W w' := by
  have HE := Lib.hid (fun w (h : Grew W w) => examples_any w (he.grew h))
  have HGR := Lib.hid (great_any a0 len0 cap0 x0 W w0 e0 (fun x hx => (f0 x hx).2))
  cases hgr : great x0 with
  | true =>
    rw [hgr] at HGR
    go_enter Tryd.func10, Tryd.ntmps10
    go_wp2_with (first
      | (go_at_call 18; (with_reducible refine (HGR.out).mono ?_); rintro e w1 ⟨rfl, g1⟩; have HG1 := Lib.hid g1; clear g1)
      | (go_at_call 11; (with_reducible refine (HE.out _ HG1.out).mono ?_); rintro e w2 ⟨rfl, g2⟩; have HG2 := Lib.hid (HG1.out.trans g2); clear g2))
    go_ret
    exact ⟨rfl, HG2.out⟩
  | false =>
    rw [hgr] at HGR
    have hl40 := (not_great hgr).1
    have HX := Lib.hid w0
    have hcap := w0.cap
    have hmax := w0.max
    have HOK := Lib.hid f0
    subst e0
    clear he w0 f0
    go_enter Tryd.func10, Tryd.ntmps10
    go_wp2_with (go_at_call 18; (with_reducible refine (HGR.out).mono ?_); rintro e w1 ⟨rfl, g1⟩; have HG1 := Lib.hid g1; clear g1)
    have HN : Hid (W.heap.size = W.heap.size) := Lib.hid rfl
    have HK1 := Lib.hid (Kp.new W w1 HG1.out)
    have HGA : Hid (Grew W (w1.alloc (.cells #[.map none] 35))) := Lib.hid (HG1.out.alloc _)
    obtain ⟨D, hD⟩ : ∃ D, w1.heap.size = D := ⟨_, rfl⟩
    rw [hD] at HK1 ⊢
    clear hD
    go_loopg [4, 14] x0.length (fun gg wv iv wr => ∃ (k n c : Nat) (p : Option Addr) (mo : Option Nat) (K : List It), wv = .slice p n c ∧ iv = .int .i64 (k : Int) ∧ k ≤ x0.length ∧ gg = x0.length - k ∧ n ≤ k ∧ Hid ((setL (x0.take k)).length = n) ∧ Hid (Kp W.heap.size D mo K (x0.take k) wr) ∧ Hid (Rw 2 itc wr p c (setL (x0.take k))) ∧ Hid (Grew W wr))
    case atStart => exact ⟨0, 0, 0, none, none, [], rfl, rfl, Nat.zero_le _, rfl, Nat.le_refl _, Lib.hid rfl, HK1, Lib.hid (Rw.nil 2 itc _), HGA⟩
    case round =>
      obtain ⟨k, n, c, p, mo, K, rfl, rfl, hk, rfl, hn, HNL, HK, HW, HG⟩ := hrel
      by_cases hlt : k < x0.length
      · have hk40 : k < 40 := by omega
        obtain ⟨b', o', rfl, hcc⟩ := (HX.out.kept HG.out).rd.cells (by omega)
        have hx : x0[k]? = some x0[k] := by simp [hlt]
        have hc1 := hcc k x0[k] hx
        have hlb : b' < wr.heap.size := World.block_lt_of_cell? _ _ (hc1 0 _ rfl)
        have HLT := Lib.hid (Nat.succ_le_of_lt hlt)
        have HTK := Lib.hid (List.take_succ_eq_append_getElem hlt)
        have HXO := Lib.hid (HOK.out x0[k] (List.getElem_mem hlt))
        generalize x0[k] = x at hc1 hx HTK HXO
        have q0 : wr.cell? ⟨b', o' + k * 2, none⟩ = some (.int .i64 x.1) := by simpa using hc1 0 _ rfl
        have q1 : wr.cell? ⟨b', o' + k * 2 + 1, none⟩ = some (.string ⟨x.2.toArray⟩) := hc1 1 _ rfl
        clear hcc hc1 hx
        have HSA : Hid (setL (x0.take (k + 1)) = addL (setL (x0.take k)) x) := Lib.hid (by rw [HTK.out, setL_snoc])
        go_wp2_with (first
          | (go_at_call 19; generalize hV : World.alloc _ _ = V; have hbx : Blk wr.heap.size (itc x) 37 V := (by subst hV; exact Blk.new wr (itc x) _); have hgV : Grew wr V := (by subst hV; exact (Grew.refl _).alloc _); clear hV; have hkV := HK.out.grew hgV; have hwV := HW.out.kept hgV; refine (add_any D mo K x V hkV.ls HXO.out).mono ?_; rintro e w2 ⟨rfl, b2, K2, hl2, hm2, hb2, hc2⟩; have hgW := HG.out.trans hgV; have HK2 := Lib.hid (hkV.added HN.out hgW hl2 hm2 hb2); have HG2 := Lib.hid (hkV.lift HN.out hgW hc2); have HW2 := Lib.hid (hwV.ofLs hkV.ls hc2); have hx2 := hbx.chg hc2 HK.out.apart; have x0c := hx2.cell 0; have x1c := hx2.cell 1; have xl := hx2.lt; simp only [List.getElem?_cons_zero, List.getElem?_cons_succ] at x0c x1c; clear hbx hgV hkV hwV hgW hl2 hm2 hb2 hc2 hx2)
          | (go_at_call 20; refine (radd_any p n c (setL (x0.take k)) x w2 HW2.out HNL.out (by omega)).mono ?_; rintro e w3 ⟨p3, c3, rfl, hr3, g3⟩; have HK3 := Lib.hid (HK2.out.grew g3); have HW3 := Lib.hid hr3; have HG3 := Lib.hid (HG2.out.trans g3); clear hr3 g3))
        have hle := (length_add (setL (x0.take k)) x).2
        rw [HNL.out] at hle
        go_roundg (x0.length - (k + 1))
        case measure => have := HLT.out; omega
        case rel => exact ⟨k + 1, (addL (setL (x0.take k)) x).length, c3, p3, some b2, K2, rfl, by go_num, HLT.out, rfl, by omega, Lib.hid (by rw [HSA.out]), Lib.hid (by rw [HTK.out]; exact HK3.out), Lib.hid (by rw [HSA.out]; exact HW3.out), HG3⟩
      · obtain rfl : k = x0.length := by omega
        rw [List.take_length] at HNL HK HW
        have HKL := Lib.hid (Nat.le_trans (len_of HK.out.ls.nodup HK.out.mem) (show x0.length ≤ 1000000 by omega))
        have HSK := Lib.hid (setL_of HK.out.mem)
        obtain rfl := HNL.out
        rename World => wA
        go_wp2_with (go_at_call 23; refine (all_any D mo K wA HK.out.ls HKL.out).mono ?_; rintro e w5 hs5; obtain ⟨p5, c5, rfl, hi5, g5⟩ := sortedL_of HSK.out hs5; have HI5 := Lib.hid hi5; have HG5 := Lib.hid g5; clear hs5 hi5 g5)
        have hns : (setL x0).length ≤ 40 := by omega
        obtain ⟨m, hm⟩ : ∃ m, (setL x0).length = m := ⟨_, rfl⟩
        have hcap5 := HI5.out.rd.cap
        have hmax5 := HI5.out.rd.max
        rw [hm] at hns hcap5 ⊢
        have HM := Lib.hid hm
        clear hm
        go_loopg [30] m (fun gg iv wr => ∃ (k : Nat) (ys : List It), iv = .int .i64 (k : Int) ∧ k ≤ m ∧ gg = m - k ∧ Hid (ys.length = m) ∧ Hid (Its wr wA.heap.size p5 c5 ys) ∧ Hid (Chg w5 wr (fun j => wA.heap.size ≤ j)))
        case atStart => exact ⟨0, setL x0, rfl, Nat.zero_le _, rfl, HM, HI5, Lib.hid (Chg.of_grew (Grew.refl _) _)⟩
        case round =>
          obtain ⟨k2, ys, rfl, hk2, rfl, HYL, HIY, HCY⟩ := hrel
          by_cases hlt2 : k2 < m
          · have hyl : k2 < ys.length := by rw [HYL.out]; exact hlt2
            obtain ⟨g, hpg, hNg, hfz⟩ := HIY.out.own (by omega)
            subst hpg
            have a0 := HIY.out.rd.cell (List.getElem?_eq_getElem hyl) (j := 0) rfl
            have a1 := HIY.out.rd.cell (List.getElem?_eq_getElem hyl) (j := 1) rfl
            rw [show 0 + k2 * 2 + 0 = k2 * 2 by omega] at a0
            rw [show 0 + k2 * 2 + 1 = k2 * 2 + 1 by omega] at a1
            have z0 := hfz (k2 * 2) (by omega)
            have z1 := hfz (k2 * 2 + 1) (by omega)
            have HST := Lib.hid (HIY.out.set hyl (-7, [99, 104, 97, 110, 103, 101, 100]))
            have HCS : Hid (Chg w5 ((wr.setCell ⟨g, k2 * 2, none⟩ (.int .i64 (-7))).setCell ⟨g, k2 * 2 + 1, none⟩ (.string ⟨#[99, 104, 97, 110, 103, 101, 100]⟩)) (fun j => wA.heap.size ≤ j)) := Lib.hid ((HCY.out.trans ((Chg.set wr ⟨g, k2 * 2, none⟩ _).mono fun j hj => by rw [show j = g from hj]; exact hNg)).trans ((Chg.set _ ⟨g, k2 * 2 + 1, none⟩ _).mono fun j hj => by rw [show j = g from hj]; exact hNg))
            have HLT2 := Lib.hid (Nat.succ_le_of_lt hlt2)
            clear hfz hNg
            go_wp2
            go_roundg (m - (k2 + 1))
            case measure => have := HLT2.out; omega
            case rel => exact ⟨k2 + 1, ys.set k2 (-7, [99, 104, 97, 110, 103, 101, 100]), by go_num, HLT2.out, rfl, Lib.hid (by rw [List.length_set]; exact HYL.out), HST, HCS⟩
          · obtain rfl : k2 = m := by omega
            have HGY : Hid (Grew wA wr) := Lib.hid (grew_lift HG5.out HCY.out (fun j hj => hj))
            have HWM : Hid (Rw 2 itc wA p c (setL x0)) := HW
            have HSY := Lib.hid (fun p6 c6 w6 (hi : Rw 2 itc w6 p6 c6 (setL x0)) (hg : Grew wA w6) => same_yes p6 p c6 c (setL x0) w6 hi (HWM.out.kept hg))
            rw [HM.out] at HSY
            go_wp2_with (first
              | (go_at_call 23; refine (all_any D mo K wr (HK.out.ls.grew HGY.out) HKL.out).mono ?_; rintro e w6 hs6; obtain ⟨p6, c6, rfl, hi6, g6⟩ := sortedL_of HSK.out hs6; have HI6 := Lib.hid hi6.rd; have HG6 := Lib.hid (HGY.out.trans g6); rw [HM.out]; clear hs6 hi6 g6)
              | (go_at_call 22; refine (HSY.out p6 c6 w6 HI6.out HG6.out).mono ?_; rintro e w7 ⟨rfl, g7⟩; have HG7 := Lib.hid (HG6.out.trans g7); clear g7)
              | (go_at_call 11; refine (HE.out _ (HG.out.trans HG7.out)).mono ?_; rintro e w8 ⟨rfl, g8⟩; have HG8 := Lib.hid ((HG.out.trans HG7.out).trans g8); clear g8))
            go_ret
            exact ⟨rfl, HG8.out⟩
end Go.Proofs.YtmnncildkomagaaDoor
