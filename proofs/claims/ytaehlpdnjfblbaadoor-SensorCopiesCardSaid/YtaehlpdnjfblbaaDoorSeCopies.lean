/-
  THE STATEMENT Copies OF LAYER 10 (sensor), WALKED.
-/
import Derived.Test.YtaehlpdnjfblbaaDoorSeSteps
namespace Go.Proofs.YtaehlpdnjfblbaaDoor
open Go Go.RowKit Go.IntWalk
set_option linter.unusedSimpArgs false
set_option linter.unusedVariables false
set_option maxRecDepth 8000

theorem Tr.chg {base t : Nat} {xs : List It} {w w' : World} {S : Nat → Prop} (h : Tr base t xs w) (hc : Chg w w' S) (hS : ∀ k, S k → k < base) : Tr base t xs w' := by
  obtain ⟨p, c, h1, h2, h3⟩ := h
  refine ⟨p, c, h1.chg hc (fun hs => by have := hS _ hs; omega), h2.chg hc (fun a ha hs => ?_), h3⟩
  have := (h2.place encI a ha).1
  have := hS _ hs
  omega
set_option maxHeartbeats 8000000 in
theorem copies_law (p : Option Addr) (n c : Nat) (xs : List It) (w : World) (hn : xs.length = n) (hx : Rw 2 itc w p c xs) (hok : ∀ x ∈ xs, -32768 ≤ x.2 ∧ x.2 ≤ 32767) (he : Env w) :
    Calls Tryd.prog 9 #[.slice p n c] w fun e w' => e = .returned (.bool true) ∧ Grew w w' := by
  subst hn
  have HX := Lib.hid hx
  have HE := Lib.hid he
  have HX0 := Lib.hid hx
  have HE0 := Lib.hid he
  clear hx he hok
  by_cases h60 : 60 < xs.length
  · 
    have HB := Lib.hid (Grew.refl w)
    have tk0 := Lib.hid trivial
    go_enter Tryd.func9, Tryd.ntmps9
    go_wp2_with (first
      | (go_at_call 11; clear tk0; (with_reducible refine (examples_any _ HE.out).mono ?_); rintro e w1 ⟨rfl, g1⟩; replace HE := Lib.hid (HE.out.grew g1); replace HX := Lib.hid (HX.out.grew g1); replace HB := Lib.hid (HB.out.trans g1); clear g1))
    go_ret
    exact ⟨rfl, HB.out⟩
  · cases ha : asc (-1) xs with
    | false =>
      have HQ := Lib.hid ha
      have h61 : xs.length ≤ 60 := by omega
      clear ha h60
      have HB := Lib.hid (Grew.refl w)
      have tk0 := Lib.hid trivial
      have tk1 := Lib.hid trivial
      have tk2 := Lib.hid trivial
      go_enter Tryd.func9, Tryd.ntmps9
      go_wp2_with (first
        | (go_at_call 13; clear tk0; (with_reducible refine (changes_rd p _ c xs _ HX.out rfl (by omega)).mono ?_); rintro e w1 ⟨p1, c1, rfl, h1, g1⟩; replace HE := Lib.hid (HE.out.grew g1); replace HX := Lib.hid (HX.out.grew g1); replace HB := Lib.hid (HB.out.trans g1); clear g1; have H1 := Lib.hid h1; clear h1)
        | (go_at_call 24; clear tk1; (with_reducible refine (rvalid_is _ _ _ xs _ false H1.out rfl HQ.out).mono ?_); rintro e w2 ⟨rfl, g1⟩; replace HE := Lib.hid (HE.out.grew g1); replace HX := Lib.hid (HX.out.grew g1); replace H1 := Lib.hid (H1.out.grew g1); replace HB := Lib.hid (HB.out.trans g1); clear g1)
        | (go_at_call 11; clear tk2; (with_reducible refine (examples_any _ HE.out).mono ?_); rintro e w3 ⟨rfl, g1⟩; replace HE := Lib.hid (HE.out.grew g1); replace HX := Lib.hid (HX.out.grew g1); replace H1 := Lib.hid (H1.out.grew g1); replace HB := Lib.hid (HB.out.trans g1); clear g1))
      go_ret
      exact ⟨rfl, HB.out⟩
    | true =>
      have h61 : xs.length ≤ 60 := by omega
      have HQ : Hid (xs.length ≤ 60 ∧ asc (-1) xs = true) := Lib.hid ⟨h61, ha⟩
      clear ha h60
      have HB := Lib.hid (Grew.refl w)
      have tk0 := Lib.hid trivial
      have tk1 := Lib.hid trivial
      go_enter Tryd.func9, Tryd.ntmps9
      go_wp2_with (first
        | (go_at_call 13; clear tk0; (with_reducible refine (changes_rd p _ c xs _ HX.out rfl (by omega)).mono ?_); rintro e w1 ⟨p1, c1, rfl, h1, g1⟩; replace HE := Lib.hid (HE.out.grew g1); replace HX := Lib.hid (HX.out.grew g1); replace HB := Lib.hid (HB.out.trans g1); clear g1; have H1 := Lib.hid h1; clear h1)
        | (go_at_call 24; clear tk1; (with_reducible refine (rvalid_is _ _ _ xs _ true H1.out rfl HQ.out.2).mono ?_); rintro e w2 ⟨rfl, g1⟩; clear H1; replace HE := Lib.hid (HE.out.grew g1); replace HX := Lib.hid (HX.out.grew g1); replace HB := Lib.hid (HB.out.trans g1); clear g1; have HBW := Lib.hid HB.out)
        | (at_builtin; refine wpList_append_row encI rfl _ _ 22 rfl w2.heap.size 34 (itv (0, 0)) 16 Tryd.underlying22 infoC rfl _ [] rfl (OwR.lit encI w2 [] 0 _ _ _ rfl rfl (by omega) (Nat.le_refl _)) _ _ c xs rfl rfl (HX.out.kept ((Grew.refl _).alloc _)) (by simp; omega) (by simp; omega) (by simp) ?_; intro p2 c2 zs2 w3 hz2 ho2 hb2 hc2; obtain rfl : xs = zs2 := (by simpa using hz2.out.symm); have HG := Lib.hid ho2; have HPL := Lib.hid (OwR.place encI ho2); replace HB := Lib.hid (HB.out.trans (((Grew.refl w2).alloc _).below hb2)); replace HX := Lib.hid (HX.out.grew (((Grew.refl w2).alloc _).below hb2)); replace HE := Lib.hid (HE.out.grew (((Grew.refl w2).alloc _).below hb2)); have HW2 : Hid (w.heap.size ≤ w2.heap.size) := Lib.hid HBW.out.sz; clear ho2 hb2 hc2)
        | (go_at_call 25; (with_reducible refine (new_ok _ _ _ xs _ (OwR.rd encI HG.out).2 rfl (by omega) HQ.out.2).mono ?_); rintro e w4 ⟨t, rfl, ht, g4⟩; have HT := Lib.hid ht; replace HG := Lib.hid (HG.out.kept g4); replace HB := Lib.hid (HB.out.trans g4); replace HX := Lib.hid (HX.out.grew g4); replace HE := Lib.hid (HE.out.grew g4); clear ht g4))
      -- given is overwritten
      have HROW : Hid (∃ ys : List It, ys.length = xs.length ∧ OwR w4 w2.heap.size 34 2 itc (.slice p2 xs.length c2) ys) := Lib.hid ⟨xs, rfl, HG.out⟩
      have HLOW : Hid (∀ j, (∃ a, p2 = some a ∧ j = a.block) → w2.heap.size ≤ j ∧ j < w3.heap.size) := Lib.hid (fun j ⟨a, ha, hj⟩ => by
        have := HPL.out a ha
        rw [hj]; exact this)
      go_loopg [35] xs.length (fun gg iv wr => ∃ (k : Nat), iv = .int .i64 (k : Int) ∧ k ≤ xs.length ∧ gg = xs.length - k ∧ Hid (∃ ys : List It, ys.length = xs.length ∧ OwR wr w2.heap.size 34 2 itc (.slice p2 xs.length c2) ys) ∧ Hid (Chg w4 wr (fun j => ∃ a, p2 = some a ∧ j = a.block)))
      case atStart => exact ⟨0, rfl, Nat.zero_le _, rfl, HROW, Lib.hid (Chg.refl _ _)⟩
      case round =>
        obtain ⟨k, rfl, hk, rfl, HO, HC⟩ := hrel
        by_cases hlt : k < xs.length
        · obtain ⟨ys, hyl, ho⟩ := HO.out
          obtain ⟨g, rfl, hg, hgl⟩ := OwR.at ho (by omega)
          have hlk : k < ys.length := by omega
          have hyk : ys[k]? = some ys[k] := List.getElem?_eq_getElem hlk
          have HLT := Lib.hid (Nat.succ_le_of_lt hlt)
          have HO1 := Lib.hid (OwR.set2 encI ho k (-1, 77) (.int .i64 (-1)) (.int .i16 77) rfl hlk)
          have HYL := Lib.hid hyl
          have v0 : wr.cell? ⟨g, k * 2, none⟩ = some (.int .i64 ys[k].1) := by have h1 := (OwR.rd encI ho).2.cell hyk (j := 0) rfl; simpa using h1
          have v1 : wr.cell? ⟨g, k * 2 + 1, none⟩ = some (.int .i16 ys[k].2) := by have h1 := (OwR.rd encI ho).2.cell hyk (j := 1) rfl; simpa using h1
          have vf := fun j => (OwR.free encI ho j).2
          generalize ys[k] = y at v0 v1
          clear ho hyl hyk hlk HO
          go_wp2
          go_roundg (xs.length - (k + 1))
          case measure => have := HLT.out; omega
          case rel => exact ⟨k + 1, by go_num, HLT.out, rfl, Lib.hid ⟨_, by rw [List.length_set]; exact HYL.out, HO1.out⟩, Lib.hid ((HC.out.then_set ⟨g, k * 2, none⟩ _ ⟨_, rfl, rfl⟩).then_set ⟨g, k * 2 + 1, none⟩ _ ⟨_, rfl, rfl⟩)⟩
        · obtain rfl : k = xs.length := by omega
          have HTB := Lib.hid (HT.out.chg HC.out (fun j hj => (HLOW.out j hj).2))
          have HTR := Lib.hid HTB.out.rd
          have hgr : Grew w wr := grew_lift HB.out HC.out (fun j hj => Nat.le_trans HW2.out (HLOW.out j hj).1)
          have HBR := Lib.hid hgr
          have HXR := Lib.hid (HX0.out.grew hgr)
          have HER := Lib.hid (HE0.out.grew hgr)
          clear hgr HO
          go_wp2_with (go_at_call 14; (with_reducible refine (chg_any t xs _ HTR.out (by omega)).mono ?_); rintro e w6 ⟨p5, c5, rfl, ho5, g6⟩; have HG5 := Lib.hid ho5; have HG6 := Lib.hid g6; clear ho5 g6)
          have HROW : Hid (∃ ys : List It, ys.length = xs.length ∧ OwR w6 wr.heap.size 34 2 itc (.slice p5 xs.length c5) ys) := Lib.hid ⟨xs, rfl, HG5.out⟩
          have HLOW5 : Hid (∀ j, (∃ a, p5 = some a ∧ j = a.block) → wr.heap.size ≤ j) := Lib.hid (fun j ⟨a, ha, hj⟩ => by
            have := (HG5.out.place encI a ha).1
            rw [hj]; exact this)
          obtain ⟨N5, hN5⟩ : ∃ N, N = wr.heap.size := ⟨_, rfl⟩
          rw [← hN5] at HROW
          have HN5 := Lib.hid hN5
          clear hN5 HC HG5
          go_loopg [47] xs.length (fun gg iv wr => ∃ (k : Nat), iv = .int .i64 (k : Int) ∧ k ≤ xs.length ∧ gg = xs.length - k ∧ Hid (∃ ys : List It, ys.length = xs.length ∧ OwR wr N5 34 2 itc (.slice p5 xs.length c5) ys) ∧ Hid (Chg w6 wr (fun j => ∃ a, p5 = some a ∧ j = a.block)))
          case atStart => exact ⟨0, rfl, Nat.zero_le _, rfl, HROW, Lib.hid (Chg.refl _ _)⟩
          case round =>
            obtain ⟨k, rfl, hk, rfl, HO, HC⟩ := hrel
            by_cases hlt : k < xs.length
            · obtain ⟨ys, hyl, ho⟩ := HO.out
              obtain ⟨g, rfl, hg, hgl⟩ := OwR.at ho (by omega)
              have hlk : k < ys.length := by omega
              have hyk : ys[k]? = some ys[k] := List.getElem?_eq_getElem hlk
              have HLT := Lib.hid (Nat.succ_le_of_lt hlt)
              have HO1 := Lib.hid (OwR.set2 encI ho k (-1, 78) (.int .i64 (-1)) (.int .i16 78) rfl hlk)
              have HYL := Lib.hid hyl
              have v0 : wr.cell? ⟨g, k * 2, none⟩ = some (.int .i64 ys[k].1) := by have h1 := (OwR.rd encI ho).2.cell hyk (j := 0) rfl; simpa using h1
              have v1 : wr.cell? ⟨g, k * 2 + 1, none⟩ = some (.int .i16 ys[k].2) := by have h1 := (OwR.rd encI ho).2.cell hyk (j := 1) rfl; simpa using h1
              have vf := fun j => (OwR.free encI ho j).2
              generalize ys[k] = y at v0 v1
              clear ho hyl hyk hlk HO
              go_wp2
              go_roundg (xs.length - (k + 1))
              case measure => have := HLT.out; omega
              case rel => exact ⟨k + 1, by go_num, HLT.out, rfl, Lib.hid ⟨_, by rw [List.length_set]; exact HYL.out, HO1.out⟩, Lib.hid ((HC.out.then_set ⟨g, k * 2, none⟩ _ ⟨_, rfl, rfl⟩).then_set ⟨g, k * 2 + 1, none⟩ _ ⟨_, rfl, rfl⟩)⟩
            · obtain rfl : k = xs.length := by omega
              have hgr := grew_lift HG6.out HC.out HLOW5.out
              have HB := Lib.hid (HBR.out.trans hgr)
              have HX := Lib.hid (HXR.out.grew hgr)
              have HE := Lib.hid (HER.out.grew hgr)
              have HT := Lib.hid (HTR.out.grew hgr)
              clear hgr HO
              have tk0 := Lib.hid trivial
              have tk1 := Lib.hid trivial
              have tk2 := Lib.hid trivial
              have tk3 := Lib.hid trivial
              have tk4 := Lib.hid trivial
              go_wp2_with (first
                | (go_at_call 14; clear tk0; (with_reducible refine (chg_rd t xs _ HT.out (by omega)).mono ?_); rintro e w1 ⟨q1, d1, rfl, h1, g1⟩; replace HE := Lib.hid (HE.out.grew g1); replace HX := Lib.hid (HX.out.grew g1); replace HT := Lib.hid (HT.out.grew g1); replace HB := Lib.hid (HB.out.trans g1); clear g1; have H1 := Lib.hid h1; clear h1)
                | (go_at_call 13; clear tk1; (with_reducible refine (changes_rd _ _ _ xs _ H1.out rfl (by omega)).mono ?_); rintro e w2 ⟨q2, d2, rfl, h2, g1⟩; replace HE := Lib.hid (HE.out.grew g1); replace HX := Lib.hid (HX.out.grew g1); replace HT := Lib.hid (HT.out.grew g1); replace H1 := Lib.hid (H1.out.grew g1); replace HB := Lib.hid (HB.out.trans g1); clear g1; have H2 := Lib.hid h2; clear h2)
                | (go_at_call 13; clear tk2; (with_reducible refine (changes_rd _ _ _ xs _ HX.out rfl (by omega)).mono ?_); rintro e w3 ⟨q3, d3, rfl, h3, g1⟩; replace HE := Lib.hid (HE.out.grew g1); replace HX := Lib.hid (HX.out.grew g1); replace HT := Lib.hid (HT.out.grew g1); replace H1 := Lib.hid (H1.out.grew g1); replace H2 := Lib.hid (H2.out.grew g1); replace HB := Lib.hid (HB.out.trans g1); clear g1; have H3 := Lib.hid h3; clear h3)
                | (go_at_call 12; clear tk3; (with_reducible refine (same_self _ _ _ _ _ _ xs _ H2.out rfl H3.out rfl).mono ?_); rintro e w4 ⟨rfl, g1⟩; replace HE := Lib.hid (HE.out.grew g1); replace HX := Lib.hid (HX.out.grew g1); replace HT := Lib.hid (HT.out.grew g1); replace H1 := Lib.hid (H1.out.grew g1); replace H2 := Lib.hid (H2.out.grew g1); replace H3 := Lib.hid (H3.out.grew g1); replace HB := Lib.hid (HB.out.trans g1); clear g1)
                | (go_at_call 11; clear tk4; (with_reducible refine (examples_any _ HE.out).mono ?_); rintro e w5 ⟨rfl, g1⟩; replace HE := Lib.hid (HE.out.grew g1); replace HX := Lib.hid (HX.out.grew g1); replace HT := Lib.hid (HT.out.grew g1); replace H1 := Lib.hid (H1.out.grew g1); replace H2 := Lib.hid (H2.out.grew g1); replace H3 := Lib.hid (H3.out.grew g1); replace HB := Lib.hid (HB.out.trans g1); clear g1))
              go_ret
              exact ⟨rfl, HB.out⟩
end Go.Proofs.YtaehlpdnjfblbaaDoor
