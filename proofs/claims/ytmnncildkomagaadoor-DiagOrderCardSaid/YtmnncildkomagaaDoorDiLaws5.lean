/-
  THE STATEMENT DiagOrder OF LAYER 14 (diag), WALKED.
-/
import Derived.Test.YtmnncildkomagaaDoorDiLaws3
namespace Go.Proofs.YtmnncildkomagaaDoor
open Go Go.RowKit Go.IntWalk
set_option linter.unusedSimpArgs false
set_option linter.unusedVariables false
set_option maxRecDepth 8000

theorem Kp.other {N D1 D2 : Nat} {mo1 mo2 : Option Nat} {K1 K2 l1 l2 : List It} {w w' : World} (h2 : Kp N D2 mo2 K2 l2 w) (h1 : Kp N D1 mo1 K1 l1 w) (hD : D1 ≠ D2) (hne : ∀ b1 b2, mo1 = some b1 → mo2 = some b2 → b1 ≠ b2) (hc : Chg w w' (fun k => k = D1 ∨ mo1 = some k)) : Kp N D2 mo2 K2 l2 w' := by
  have key : ∀ {D mo K mo' K' D'} (_ : Ls D mo K w) (_ : Ls D' mo' K' w), mo' ≠ some D := fun {D mo K mo' K' D'} g g' e => by
    obtain ⟨es, c, hb, _⟩ := g'.2.2 D e
    have h1 : w.heap[D]? = _ := g.1
    rw [hb] at h1
    simp at h1
  refine ⟨h2.ls.chg hc ?_ fun b hb => ?_, h2.mem, h2.lo, h2.map⟩
  · rintro (e | e)
    · exact hD e.symm
    · exact key h2.ls h1.ls e
  · rintro (e | e)
    · exact key h1.ls h2.ls (e ▸ hb)
    · exact hne b b e hb rfl
theorem ne_added {D2 : Nat} {mo1 mo2 : Option Nat} {K2 : List It} {w : World} (h2 : Ls D2 mo2 K2 w) (hne : ∀ b1 b2, mo1 = some b1 → mo2 = some b2 → b1 ≠ b2) {b : Nat} (hb : mo1 = some b ∨ (mo1 = none ∧ w.heap.size ≤ b)) : ∀ b1 b2, some b = some b1 → mo2 = some b2 → b1 ≠ b2 := by
  intro b1 b2 e1 e2 e
  obtain rfl := Option.some.inj e1
  rcases hb with hb | ⟨_, hb⟩
  · exact hne _ _ hb e2 e
  · have := (h2.2.2 _ e2).lt
    omega
theorem rev_take (x0 : List It) {k j : Nat} (hk : k < x0.length) (hj : j = x0.length - 1 - k) (hjl : j < x0.length) : x0.reverse.take (k + 1) = x0.reverse.take k ++ [x0[j]] := by
  have h1 : k < x0.reverse.length := by rw [List.length_reverse]; exact hk
  rw [List.take_succ_eq_append_getElem h1, List.getElem_reverse]
  subst hj
  rfl
set_option maxHeartbeats 4000000 in
theorem order_law (a0 : Option Addr) (len0 cap0 : Nat) (x0 : List It) (z1 : Nat) (W : World) (e0 : x0.length = len0) (w0 : Rw 2 itc W a0 cap0 x0) (f0 : ∀ x ∈ x0, OkI x) (b1 : z1 ≤ 255) (he : Env W) :
    Calls Tryd.prog 7 #[.slice a0 len0 cap0, .int .u8 (z1 : Int)] W fun e w' => e = .returned (.bool true) ∧ Grew W w' := by
  have HE := Lib.hid (fun w (h : Grew W w) => examples_any w (he.grew h))
  have HGR := Lib.hid (great_any a0 len0 cap0 x0 W w0 e0 (fun x hx => (f0 x hx).2))
  cases hgr : great x0 with
  | true =>
    rw [hgr] at HGR
    go_enter Tryd.func7, Tryd.ntmps7
    go_wp2_with (first
      | (go_at_call 18; (with_reducible refine (HGR.out).mono ?_); rintro e w1 ⟨rfl, g1⟩; have HG1 := Lib.hid g1; clear g1)
      | (go_at_call 11; (with_reducible refine (HE.out _ HG1.out).mono ?_); rintro e w2 ⟨rfl, g2⟩; have HG2 := Lib.hid (HG1.out.trans g2); clear g2))
    go_ret
    exact ⟨rfl, HG2.out⟩
  | false =>
    rw [hgr] at HGR
    have hl40 := (not_great hgr).1
    have HX := Lib.hid w0
    have hcap := w0.cap
    have hmax := w0.max
    have HOK := Lib.hid f0
    subst e0
    clear he w0 f0
    go_enter Tryd.func7, Tryd.ntmps7
    go_wp2_with (go_at_call 18; (with_reducible refine (HGR.out).mono ?_); rintro e w1 ⟨rfl, g1⟩; have HG1 := Lib.hid g1; clear g1)
    have HN : Hid (W.heap.size = W.heap.size) := Lib.hid rfl
    have HK1 := Lib.hid ((Kp.new W w1 HG1.out).grew ((Grew.refl _).alloc (.cells #[.map none] 35)))
    have hk2 := Kp.new W (w1.alloc (.cells #[.map none] 35)) (HG1.out.alloc _)
    have HGA : Hid (Grew W ((w1.alloc (.cells #[.map none] 35)).alloc (.cells #[.map none] 35))) := Lib.hid ((HG1.out.alloc _).alloc _)
    rw [World.size_alloc] at hk2
    have HK2 := Lib.hid hk2
    clear hk2
    obtain ⟨D, hD⟩ : ∃ D, w1.heap.size = D := ⟨_, rfl⟩
    rw [hD] at HK1 HK2 ⊢
    obtain ⟨D2, hD2⟩ : ∃ D2, D + 1 = D2 := ⟨_, rfl⟩
    rw [hD2] at HK2 ⊢
    have HDD : Hid (D ≠ D2) := Lib.hid (by omega)
    clear hD hD2
    go_loopg [16] x0.length (fun gg iv wr => ∃ (k : Nat) (mo mo2 : Option Nat) (K K2l : List It), iv = .int .i64 (k : Int) ∧ k ≤ x0.length ∧ gg = x0.length - k ∧ Hid (Kp W.heap.size D mo K (x0.take k) wr) ∧ Hid (Kp W.heap.size D2 mo2 K2l (x0.reverse.take k) wr) ∧ Hid (∀ b1 b2, mo = some b1 → mo2 = some b2 → b1 ≠ b2) ∧ Hid (Grew W wr))
    case atStart => exact ⟨0, none, none, [], [], rfl, Nat.zero_le _, rfl, HK1, HK2, Lib.hid (fun b1 b2 e => by cases e), HGA⟩
    case round =>
      obtain ⟨k, mo, mo2, K, K2l, rfl, hk, rfl, HKA, HKB, HNE, HG⟩ := hrel
      by_cases hlt : k < x0.length
      · obtain ⟨j, hj⟩ : ∃ j, j = x0.length - 1 - k := ⟨_, rfl⟩
        have hjl : j < x0.length := by omega
        have hix : (x0.length : Int) - 1 - (k : Int) = (j : Int) := by omega
        have HRT := Lib.hid (rev_take x0 hlt hj hjl)
        have HY := Lib.hid (List.getElem?_eq_getElem hjl)
        have yok := Lib.hid (HOK.out x0[j] (List.getElem_mem hjl))
        generalize x0[j] = y at HRT HY yok
        obtain ⟨b', o', rfl, hcc⟩ := (HX.out.kept HG.out).rd.cells (by omega)
        have hx : x0[k]? = some x0[k] := by simp [hlt]
        have hc1 := hcc k x0[k] hx
        have hlb : b' < wr.heap.size := World.block_lt_of_cell? _ _ (hc1 0 _ rfl)
        have HLT := Lib.hid (Nat.succ_le_of_lt hlt)
        have HTK := Lib.hid (List.take_succ_eq_append_getElem hlt)
        have xok := Lib.hid (HOK.out x0[k] (List.getElem_mem hlt))
        generalize x0[k] = x at hc1 hx HTK xok
        have q0 : wr.cell? ⟨b', o' + k * 2, none⟩ = some (.int .i64 x.1) := by simpa using hc1 0 _ rfl
        have q1 : wr.cell? ⟨b', o' + k * 2 + 1, none⟩ = some (.string ⟨x.2.toArray⟩) := hc1 1 _ rfl
        clear hcc hc1 hx
        clear hj
        have tk := Lib.hid trivial
        go_wp2_with (first
          | (go_at_call 19; clear tk; generalize hV : World.alloc _ _ = V; have hgV : Grew wr V := (by subst hV; exact (Grew.refl _).alloc _); clear hV; have hkV := HKA.out.grew hgV; have hoV := HKB.out.grew hgV; refine (add_any D mo K x V hkV.ls xok.out).mono ?_; rintro e w2 ⟨rfl, b2, K2, hl2, hm2, hb2, hc2⟩; have hgW := HG.out.trans hgV; have HKA2 := Lib.hid (hkV.added rfl hgW hl2 hm2 hb2); have HG2 := Lib.hid (hkV.lift rfl hgW hc2); have HKB2 := Lib.hid (hoV.other hkV HDD.out HNE.out hc2); have HNE2 := Lib.hid (ne_added hoV.ls HNE.out hb2); have hyr := HX.out.kept HG2.out; have y0 := hyr.cell HY.out (j := 0) rfl; have y1 := hyr.cell HY.out (j := 1) rfl; rw [Nat.add_zero] at y0; clear hyr; clear hgV hkV hoV hgW hl2 hm2 hb2 hc2)
          | (go_at_call 19; generalize hV : World.alloc _ _ = V; have hgV : Grew w2 V := (by subst hV; exact (Grew.refl _).alloc _); clear hV; have hkV := HKB2.out.grew hgV; have hoV := HKA2.out.grew hgV; refine (add_any D2 mo2 K2l y V hkV.ls yok.out).mono ?_; rintro e w4 ⟨rfl, b4, K4, hl2, hm2, hb2, hc2⟩; have hgW := HG2.out.trans hgV; have HKB4 := Lib.hid (hkV.added rfl hgW hl2 hm2 hb2); have HG4 := Lib.hid (hkV.lift rfl hgW hc2); have HKA4 := Lib.hid (hoV.other hkV HDD.out.symm (fun b1 b2 e1 e2 e => HNE2.out b2 b1 e2 e1 e.symm) hc2); have HNE4 := Lib.hid (ne_added hoV.ls (fun b1 b2 e1 e2 e => HNE2.out b2 b1 e2 e1 e.symm) hb2); clear hgV hkV hoV hgW hl2 hm2 hb2 hc2))
        go_roundg (x0.length - (k + 1))
        case measure => have := HLT.out; omega
        case rel => exact ⟨k + 1, some b2, some b4, K2, K4, by go_num, HLT.out, rfl, Lib.hid (by rw [HTK.out]; exact HKA4.out), Lib.hid (by rw [HRT.out]; exact HKB4.out), Lib.hid (fun b1 b2 e1 e2 e => HNE4.out b2 b1 e2 e1 e.symm), HG4⟩
      · obtain rfl : k = x0.length := by omega
        rw [List.take_length] at HKA
        have hrl : x0.reverse.take x0.length = x0.reverse := by rw [← List.length_reverse, List.take_length]
        rw [hrl] at HKB
        have HKL := Lib.hid (Nat.le_trans (len_of HKA.out.ls.nodup HKA.out.mem) (show x0.length ≤ 1000000 by omega))
        have HSK := Lib.hid (setL_of HKA.out.mem)
        clear hrl
        have tk3 := Lib.hid trivial
        by_cases h0 : 0 < x0.length
        · obtain ⟨j, hj⟩ : ∃ j, j = z1 % x0.length := ⟨_, rfl⟩
          have hjl : j < x0.length := by rw [hj]; exact Nat.mod_lt _ h0
          have hr1 : ((z1 : Nat) : Int).tmod (x0.length : Int) = (j : Int) := by rw [Int.tmod_eq_emod_of_nonneg (by omega), hj]; omega
          have hr2 : ((z1 : Nat) : Int) % (x0.length : Int) = (j : Int) := by rw [hj]; omega
          have HY := Lib.hid (List.getElem?_eq_getElem hjl)
          have HYM := Lib.hid (List.getElem_mem hjl)
          have yok := Lib.hid (HOK.out x0[j] (List.getElem_mem hjl))
          generalize x0[j] = y at HY HYM yok
          obtain ⟨b', o', rfl, hcc⟩ := (HX.out.kept HG.out).rd.cells (by omega)
          have hc1 := hcc j y HY.out
          have hlb : b' < wr.heap.size := World.block_lt_of_cell? _ _ (hc1 0 _ rfl)
          have q0 : wr.cell? ⟨b', o' + j * 2, none⟩ = some (.int .i64 y.1) := by simpa using hc1 0 _ rfl
          have q1 : wr.cell? ⟨b', o' + j * 2 + 1, none⟩ = some (.string ⟨y.2.toArray⟩) := hc1 1 _ rfl
          have h0n : ¬ (x0.length : Int) = 0 := by omega
          have h0' : (0 : Int) < (x0.length : Int) := by omega
          clear hcc hc1 hj h0
          go_wp2_with (go_at_call 19; generalize hV : World.alloc _ _ = V; have hgV : Grew wr V := (by subst hV; exact (Grew.refl _).alloc _); clear hV; have hkV := HKB.out.grew hgV; have hoV := HKA.out.grew hgV; refine (add_any D2 mo2 K2l y V hkV.ls yok.out).mono ?_; rintro e w4 ⟨rfl, b4, K4, hl2, hm2, hb2, hc2⟩; have hgW := HG.out.trans hgV; have HKB4 := Lib.hid (hkV.added rfl hgW hl2 hm2 hb2); have HG4 := Lib.hid (hkV.lift rfl hgW hc2); have HKA4 := Lib.hid (hoV.other hkV HDD.out.symm (fun b1 b2 e1 e2 e => HNE.out b2 b1 e2 e1 e.symm) hc2); clear hgV hkV hoV hgW hl2 hm2 hb2 hc2)
          have hmb : ∀ z, z ∈ K4 ↔ z ∈ x0 := fun z => by
            rw [HKB4.out.mem, List.mem_append, List.mem_reverse, List.mem_singleton]
            constructor
            · rintro (h | rfl)
              · exact h
              · exact HYM.out
            · exact .inl
          have HSB := Lib.hid (setL_of hmb)
          have HLB := Lib.hid (Nat.le_trans (len_of HKB4.out.ls.nodup hmb) (show x0.length ≤ 1000000 by omega))
          clear hmb
          go_wp2_with (first
            | (go_at_call 23; refine (all_any D mo K w4 HKA4.out.ls HKL.out).mono ?_; clear tk3; rintro e w5 hs5; obtain ⟨p5, c5, rfl, hi5, g5⟩ := sortedL_of HSK.out hs5; have HI5 := Lib.hid hi5.rd; have HG5 := Lib.hid g5; clear hs5 hi5 g5)
            | (go_at_call 23; refine (all_any D2 (some b4) K4 w5 (HKB4.out.ls.grew HG5.out) HLB.out).mono ?_; rintro e w6 hs6; obtain ⟨p6, c6, rfl, hi6, g6⟩ := sortedL_of HSB.out hs6; have HI6 := Lib.hid hi6.rd; have HG6 := Lib.hid (HG5.out.trans g6); have HJ5 := Lib.hid (HI5.out.kept g6); clear hs6 hi6 g6)
            | (go_at_call 22; refine (same_yes p5 p6 c5 c6 (setL x0) w6 HJ5.out HI6.out).mono ?_; rintro e w7 ⟨rfl, g7⟩; have HG7 := Lib.hid (HG6.out.trans g7); clear g7)
            | (go_at_call 11; refine (HE.out _ (HG4.out.trans HG7.out)).mono ?_; rintro e w8 ⟨rfl, g8⟩; have HG8 := Lib.hid ((HG4.out.trans HG7.out).trans g8); clear g8))
          go_ret
          exact ⟨rfl, HG8.out⟩
        · have hmb : ∀ z, z ∈ K2l ↔ z ∈ x0 := fun z => by rw [HKB.out.mem, List.mem_reverse]
          have HSB := Lib.hid (setL_of hmb)
          have HLB := Lib.hid (Nat.le_trans (len_of HKB.out.ls.nodup hmb) (show x0.length ≤ 1000000 by omega))
          have h0' : ¬ (0 : Int) < (x0.length : Int) := by omega
          clear hmb
          go_wp2_with (first
            | (go_at_call 23; refine (all_any D mo K wr HKA.out.ls HKL.out).mono ?_; clear tk3; rintro e w5 hs5; obtain ⟨p5, c5, rfl, hi5, g5⟩ := sortedL_of HSK.out hs5; have HI5 := Lib.hid hi5.rd; have HG5 := Lib.hid g5; clear hs5 hi5 g5)
            | (go_at_call 23; refine (all_any D2 mo2 K2l w5 (HKB.out.ls.grew HG5.out) HLB.out).mono ?_; rintro e w6 hs6; obtain ⟨p6, c6, rfl, hi6, g6⟩ := sortedL_of HSB.out hs6; have HI6 := Lib.hid hi6.rd; have HG6 := Lib.hid (HG5.out.trans g6); have HJ5 := Lib.hid (HI5.out.kept g6); clear hs6 hi6 g6)
            | (go_at_call 22; refine (same_yes p5 p6 c5 c6 (setL x0) w6 HJ5.out HI6.out).mono ?_; rintro e w7 ⟨rfl, g7⟩; have HG7 := Lib.hid (HG6.out.trans g7); clear g7)
            | (go_at_call 11; refine (HE.out _ (HG.out.trans HG7.out)).mono ?_; rintro e w8 ⟨rfl, g8⟩; have HG8 := Lib.hid ((HG.out.trans HG7.out).trans g8); clear g8))
          go_ret
          exact ⟨rfl, HG8.out⟩
end Go.Proofs.YtmnncildkomagaaDoor
