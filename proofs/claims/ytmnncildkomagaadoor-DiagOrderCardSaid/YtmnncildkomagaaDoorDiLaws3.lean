/-
  THE STATEMENT DiagList OF LAYER 14 (diag), WALKED.
-/
import Derived.Test.YtmnncildkomagaaDoorDiLaws1
import Derived.Test.YtmnncildkomagaaDoorDiSame
import Derived.Test.YtmnncildkomagaaDoorDiAll
namespace Go.Proofs.YtmnncildkomagaaDoor
open Go Go.RowKit Go.IntWalk
set_option linter.unusedSimpArgs false
set_option linter.unusedVariables false
set_option maxRecDepth 8000

theorem Rw.ofLs {D : Nat} {mo : Option Nat} {K : List It} {p : Option Addr} {c : Nat} {xs : List It} {w w' : World} (h : Rw 2 itc w p c xs) (hL : Ls D mo K w) (hc : Chg w w' (fun k => k = D ∨ mo = some k)) : Rw 2 itc w' p c xs := by
  refine h.keep fun hn b o hp hl => hc.block b hl fun hs => ?_
  subst hp
  have h0 := h.cell (List.getElem?_eq_getElem hn) (j := 0) rfl
  rcases hs with rfl | hs
  · have h1 : w.heap[b]? = _ := hL.1
    simp only [World.cell?, h1] at h0
    cases ho : o + 0 * 2 + 0 with
    | zero => rw [ho] at h0; simp at h0
    | succ z => rw [ho] at h0; simp at h0
  · obtain ⟨es, cl, h1, _⟩ := hL.2.2 b hs
    simp [World.cell?, h1] at h0
theorem sortedL_of {K l : List It} (h : setL K = setL l) {w : World} {e : Ending} {w' : World} (hs : SortedL K w e w') : SortedL l w e w' := by
  unfold SortedL at *
  rw [h] at hs
  exact hs
theorem setL_of {K l : List It} (h : ∀ z, z ∈ K ↔ z ∈ l) : setL K = setL l := setL_uniq (setL_srt K) fun z => (mem_setL K z).trans (h z)
theorem len_of {K l : List It} (hn : K.Nodup) (h : ∀ z, z ∈ K ↔ z ∈ l) : K.length ≤ l.length := by
  have h1 : K.Perm (setL l) := (List.perm_ext_iff_of_nodup hn (setL_srt l).nodup).2 fun z => (h z).trans (mem_setL l z).symm
  rw [h1.length_eq]
  exact setL_len l
/-- What a loop that adds keeps of a list: what it holds, and that it lies in new memory. -/
structure Kp (N D : Nat) (mo : Option Nat) (K l : List It) (w : World) : Prop where
  ls : Ls D mo K w
  mem : ∀ z, z ∈ K ↔ z ∈ l
  lo : N ≤ D
  map : ∀ b, mo = some b → N ≤ b
theorem Kp.grew {N D : Nat} {mo : Option Nat} {K l : List It} {w w' : World} (h : Kp N D mo K l w) (hg : Grew w w') : Kp N D mo K l w' := ⟨h.ls.grew hg, h.mem, h.lo, h.map⟩
theorem Kp.lift {N D : Nat} {mo : Option Nat} {K l : List It} {W w w' : World} (h : Kp N D mo K l w) (hN : N = W.heap.size) (hg : Grew W w) (hc : Chg w w' (fun k => k = D ∨ mo = some k)) : Grew W w' :=
  grew_lift hg hc fun k hk => by
    rw [← hN]
    rcases hk with rfl | hk
    · exact h.lo
    · exact h.map k hk
theorem Kp.added {N D : Nat} {mo : Option Nat} {K l : List It} {x : It} {W w w' : World} (h : Kp N D mo K l w) (hN : N = W.heap.size) (hg : Grew W w) {b : Nat} {K' : List It} (hl : Ls D (some b) K' w') (hm : ∀ z, z ∈ K' ↔ z = x ∨ z ∈ K) (hb : mo = some b ∨ (mo = none ∧ w.heap.size ≤ b)) : Kp N D (some b) K' (l ++ [x]) w' :=
  ⟨hl, fun z => by
    rw [hm, List.mem_append, List.mem_singleton, h.mem]
    exact or_comm, h.lo, fun b' e => by
    obtain rfl := Option.some.inj e
    rcases hb with hb | ⟨_, hb⟩
    · exact h.map _ hb
    · have := hg.sz
      omega⟩
theorem Kp.apart {N D : Nat} {mo : Option Nat} {K l : List It} {w : World} (h : Kp N D mo K l w) : ¬ (w.heap.size = D ∨ mo = some w.heap.size) := by
  rintro (h1 | h1)
  · have := h.ls.lt
    omega
  · have := (h.ls.2.2 _ h1).lt
    omega
theorem Kp.new (W w : World) (hg : Grew W w) : Kp W.heap.size w.heap.size none [] [] (w.alloc (.cells #[.map none] 35)) := ⟨Ls.new w, fun z => Iff.rfl, hg.sz, fun b e => by cases e⟩
set_option maxHeartbeats 4000000 in
theorem list_law (a0 : Option Addr) (len0 cap0 : Nat) (x0 : List It) (W : World) (e0 : x0.length = len0) (w0 : Rw 2 itc W a0 cap0 x0) (f0 : ∀ x ∈ x0, OkI x) (he : Env W) :
    Calls Tryd.prog 6 #[.slice a0 len0 cap0] W fun e w' => e = .returned (.bool true) ∧ Grew W w' := by
  have HE := Lib.hid (fun w (h : Grew W w) => examples_any w (he.grew h))
  have HGR := Lib.hid (great_any a0 len0 cap0 x0 W w0 e0 (fun x hx => (f0 x hx).2))
  cases hgr : great x0 with
  | true =>
    rw [hgr] at HGR
    go_enter Tryd.func6, Tryd.ntmps6
    go_wp2_with (first
      | (go_at_call 18; (with_reducible refine (HGR.out).mono ?_); rintro e w1 ⟨rfl, g1⟩; have HG1 := Lib.hid g1; clear g1)
      | (go_at_call 11; (with_reducible refine (HE.out _ HG1.out).mono ?_); rintro e w2 ⟨rfl, g2⟩; have HG2 := Lib.hid (HG1.out.trans g2); clear g2))
    go_ret
    exact ⟨rfl, HG2.out⟩
  | false =>
    rw [hgr] at HGR
    have hl40 := (not_great hgr).1
    have HX := Lib.hid w0
    have hcap := w0.cap
    have hmax := w0.max
    have HOK := Lib.hid f0
    subst e0
    clear he w0 f0
    go_enter Tryd.func6, Tryd.ntmps6
    go_wp2_with (go_at_call 18; (with_reducible refine (HGR.out).mono ?_); rintro e w1 ⟨rfl, g1⟩; have HG1 := Lib.hid g1; clear g1)
    have HN : Hid (W.heap.size = W.heap.size) := Lib.hid rfl
    have HK1 := Lib.hid (Kp.new W w1 HG1.out)
    have HGA : Hid (Grew W (w1.alloc (.cells #[.map none] 35))) := Lib.hid (HG1.out.alloc _)
    obtain ⟨D, hD⟩ : ∃ D, w1.heap.size = D := ⟨_, rfl⟩
    rw [hD] at HK1 ⊢
    clear hD
    go_loopg [4, 12] x0.length (fun gg wv iv wr => ∃ (k n c : Nat) (p : Option Addr) (mo : Option Nat) (K : List It), wv = .slice p n c ∧ iv = .int .i64 (k : Int) ∧ k ≤ x0.length ∧ gg = x0.length - k ∧ n ≤ k ∧ Hid ((setL (x0.take k)).length = n) ∧ Hid (Kp W.heap.size D mo K (x0.take k) wr) ∧ Hid (Rw 2 itc wr p c (setL (x0.take k))) ∧ Hid (Grew W wr))
    case atStart => exact ⟨0, 0, 0, none, none, [], rfl, rfl, Nat.zero_le _, rfl, Nat.le_refl _, Lib.hid rfl, HK1, Lib.hid (Rw.nil 2 itc _), HGA⟩
    case round =>
      obtain ⟨k, n, c, p, mo, K, rfl, rfl, hk, rfl, hn, HNL, HK, HW, HG⟩ := hrel
      by_cases hlt : k < x0.length
      · have hk40 : k < 40 := by omega
        obtain ⟨b', o', rfl, hcc⟩ := (HX.out.kept HG.out).rd.cells (by omega)
        have hx : x0[k]? = some x0[k] := by simp [hlt]
        have hc1 := hcc k x0[k] hx
        have hlb : b' < wr.heap.size := World.block_lt_of_cell? _ _ (hc1 0 _ rfl)
        have HLT := Lib.hid (Nat.succ_le_of_lt hlt)
        have HTK := Lib.hid (List.take_succ_eq_append_getElem hlt)
        have HXO := Lib.hid (HOK.out x0[k] (List.getElem_mem hlt))
        generalize x0[k] = x at hc1 hx HTK HXO
        have q0 : wr.cell? ⟨b', o' + k * 2, none⟩ = some (.int .i64 x.1) := by simpa using hc1 0 _ rfl
        have q1 : wr.cell? ⟨b', o' + k * 2 + 1, none⟩ = some (.string ⟨x.2.toArray⟩) := hc1 1 _ rfl
        clear hcc hc1 hx
        have HSA : Hid (setL (x0.take (k + 1)) = addL (setL (x0.take k)) x) := Lib.hid (by rw [HTK.out, setL_snoc])
        go_wp2_with (first
          | (go_at_call 19; generalize hV : World.alloc _ _ = V; have hbx : Blk wr.heap.size (itc x) 37 V := (by subst hV; exact Blk.new wr (itc x) _); have hgV : Grew wr V := (by subst hV; exact (Grew.refl _).alloc _); clear hV; have hkV := HK.out.grew hgV; have hwV := HW.out.kept hgV; refine (add_any D mo K x V hkV.ls HXO.out).mono ?_; rintro e w2 ⟨rfl, b2, K2, hl2, hm2, hb2, hc2⟩; have hgW := HG.out.trans hgV; have HK2 := Lib.hid (hkV.added HN.out hgW hl2 hm2 hb2); have HG2 := Lib.hid (hkV.lift HN.out hgW hc2); have HW2 := Lib.hid (hwV.ofLs hkV.ls hc2); have hx2 := hbx.chg hc2 HK.out.apart; have x0c := hx2.cell 0; have x1c := hx2.cell 1; have xl := hx2.lt; simp only [List.getElem?_cons_zero, List.getElem?_cons_succ] at x0c x1c; clear hbx hgV hkV hwV hgW hl2 hm2 hb2 hc2 hx2)
          | (go_at_call 20; refine (radd_any p n c (setL (x0.take k)) x w2 HW2.out HNL.out (by omega)).mono ?_; rintro e w3 ⟨p3, c3, rfl, hr3, g3⟩; have HK3 := Lib.hid (HK2.out.grew g3); have HW3 := Lib.hid hr3; have HG3 := Lib.hid (HG2.out.trans g3); clear hr3 g3)
          | (go_at_call 21; have hpos : 0 < K2.length := List.length_pos_of_mem ((HK3.out.mem x).2 (List.mem_append_right _ (List.mem_singleton.2 rfl))); have her := err_any D (some b2) K2 w3 HK3.out.ls; rw [decide_eq_true hpos] at her; refine her.mono ?_; rintro e w4 ⟨rfl, rfl⟩; clear her hpos))
        have hle := (length_add (setL (x0.take k)) x).2
        rw [HNL.out] at hle
        go_roundg (x0.length - (k + 1))
        case measure => have := HLT.out; omega
        case rel => exact ⟨k + 1, (addL (setL (x0.take k)) x).length, c3, p3, some b2, K2, rfl, by go_num, HLT.out, rfl, by omega, Lib.hid (by rw [HSA.out]), Lib.hid (by rw [HTK.out]; exact HK3.out), Lib.hid (by rw [HSA.out]; exact HW3.out), HG3⟩
      · obtain rfl : k = x0.length := by omega
        rw [List.take_length] at HNL HK HW
        have HKL := Lib.hid (Nat.le_trans (len_of HK.out.ls.nodup HK.out.mem) (show x0.length ≤ 1000000 by omega))
        have HSK := Lib.hid (setL_of HK.out.mem)
        obtain rfl := HNL.out
        have HLEN : Hid (0 < x0.length ↔ 0 < K.length) := Lib.hid (by
          constructor
          · intro h
            exact List.length_pos_of_mem ((HK.out.mem _).2 (List.getElem_mem h))
          · intro h
            exact List.length_pos_of_mem ((HK.out.mem _).1 (List.getElem_mem h)))
        by_cases h0 : 0 < x0.length
        · have her := fun w5 (g : Grew wr w5) => err_any D mo K w5 (HK.out.ls.grew g)
          rw [decide_eq_true (HLEN.out.1 h0)] at her
          have HER := Lib.hid her
          have h0' : (0 : Int) < (x0.length : Int) := by omega
          clear her h0
          go_wp2_with (first
            | (go_at_call 23; refine (all_any D mo K wr HK.out.ls HKL.out).mono ?_; rintro e w5 hs5; obtain ⟨p5, c5, rfl, hi5, g5⟩ := sortedL_of HSK.out hs5; have HI5 := Lib.hid hi5.rd; have HG5 := Lib.hid g5; clear hs5 hi5 g5)
            | (go_at_call 22; refine (same_yes p5 p c5 c (setL x0) w5 HI5.out (HW.out.kept HG5.out)).mono ?_; rintro e w6 ⟨rfl, g6⟩; have HG6 := Lib.hid (HG5.out.trans g6); clear g6)
            | (go_at_call 21; refine (HER.out _ HG6.out).mono ?_; rintro e w7 ⟨rfl, rfl⟩)
            | (go_at_call 11; refine (HE.out _ (HG.out.trans HG6.out)).mono ?_; rintro e w8 ⟨rfl, g8⟩; have HG8 := Lib.hid ((HG.out.trans HG6.out).trans g8); clear g8))
          go_ret
          exact ⟨rfl, HG8.out⟩
        · have her := fun w5 (g : Grew wr w5) => err_any D mo K w5 (HK.out.ls.grew g)
          rw [decide_eq_false (fun h => h0 (HLEN.out.2 h))] at her
          have HER := Lib.hid her
          have h0' : decide (0 < x0.length) = false := decide_eq_false h0
          clear her h0
          go_wp2_with (first
            | (go_at_call 23; refine (all_any D mo K wr HK.out.ls HKL.out).mono ?_; rintro e w5 hs5; obtain ⟨p5, c5, rfl, hi5, g5⟩ := sortedL_of HSK.out hs5; have HI5 := Lib.hid hi5.rd; have HG5 := Lib.hid g5; clear hs5 hi5 g5)
            | (go_at_call 22; refine (same_yes p5 p c5 c (setL x0) w5 HI5.out (HW.out.kept HG5.out)).mono ?_; rintro e w6 ⟨rfl, g6⟩; have HG6 := Lib.hid (HG5.out.trans g6); clear g6)
            | (go_at_call 21; refine (HER.out _ HG6.out).mono ?_; rintro e w7 ⟨rfl, rfl⟩)
            | (go_at_call 11; refine (HE.out _ (HG.out.trans HG6.out)).mono ?_; rintro e w8 ⟨rfl, g8⟩; have HG8 := Lib.hid ((HG.out.trans HG6.out).trans g8); clear g8))
          go_ret
          exact ⟨rfl, HG8.out⟩
end Go.Proofs.YtmnncildkomagaaDoor
