/-
  CONTRACTS OF LAYER 13 (powertrace): the statement Budget.
-/
import Derived.Test.YtapgpdgbdmnkgaaDoorPtLaws2
import Derived.Test.YtapgpdgbdmnkgaaDoorPtOpen
import Derived.RangeFuncCalls
import Derived.RangeFuncBound
import Derived.Shelf.Abstract
import Derived.Shelf.AbstractIn
import Derived.OwnWalkIn
import Derived.TacticsInMore
import Derived.LoopIn
namespace Go.Proofs.YtapgpdgbdmnkgaaDoor
open Go Go.RowKit Go.IntWalk Go.Shelf
open Go.Lib (itoa)
set_option linter.unusedSimpArgs false
set_option linter.unusedVariables false
set_option maxRecDepth 8000

set_option maxHeartbeats 4000000 in
theorem copied_big (p : Option Addr) (n c : Nat) (xs : List It) (w : World) (h : Rw 2 itc w p c xs) (hn : xs.length = n) (hl : n ≤ 8796093022207) :
    Calls Tryd.prog 13 #[.slice p n c] w fun e w' => ∃ p' c', e = .returned (.slice p' n c') ∧ OwR w' w.heap.size 52 2 itc (.slice p' n c') xs ∧ Grew w w' := by
  subst hn
  have HX := Lib.hid h
  have HB0 := Lib.hid (Grew.refl w)
  clear h
  go_enter Tryd.func13, Tryd.ntmps13
  go_wp2_with (at_builtin; refine wpList_append_row encI rfl _ _ 22 rfl w.heap.size 52 (itv (0, 0)) 16 Tryd.underlying22 infoC rfl _ [] rfl (OwR.lit encI w [] 0 w.heap.size 52 _ rfl rfl (by omega) (Nat.le_refl _)) _ _ _ xs rfl rfl (HX.out.kept ((Grew.refl _).alloc _)) (by simp; omega) (by simp; omega) (by simp) ?_; intro p2 c2 zs2 w2 hz2 ho2 hb2 hc2; have HO2 := Lib.hid ho2; have HG2 := Lib.hid ((HB0.out.alloc _).below hb2); clear ho2 hb2 hc2)
  go_ret
  obtain rfl : zs2 = xs := hz2.out
  exact ⟨p2, c2, rfl, HO2.out, HG2.out⟩
set_option maxHeartbeats 4000000 in
theorem clone_big (p : Option Addr) (n c : Nat) (xs : List It) (w : World) (h : Rw 2 itc w p c xs) (hn : xs.length = n) (hl : n ≤ 8796093022207) (hp : ∀ a, p = some a → ∃ b o, a = ⟨b, o, none⟩) :
    Calls Tryd.prog 40 #[.slice p n c] w fun e w' => ∃ p' c', e = .returned (.slice p' n c') ∧ OwR w' w.heap.size 52 2 itc (.slice p' n c') xs ∧ Grew w w' := by
  subst hn
  cases p with
  | none =>
    have h0 : xs = [] := List.eq_nil_of_length_eq_zero (by have := h.cap; have := h.bare rfl; omega)
    subst h0
    refine (Tryd.slices_Clone_nil _ _ w).mono ?_
    rintro e w' ⟨rfl, rfl⟩
    exact ⟨none, 0, rfl, OwR.nil _ _ _ _ _, Grew.refl _⟩
  | some ad =>
    obtain ⟨i0, hi, hz0, hz1, hz2⟩ := info_parts infoC
    obtain ⟨b, o, rfl⟩ := hp ad rfl
    have hc : ∀ j u, (flatL itc xs)[j]? = some u → w.cell? ⟨b, o + j, none⟩ = some u := fun j u hj => by
      obtain ⟨x, hx, hu⟩ := flatL_at encI xs j u hj
      have := h.cell hx hu
      rwa [show o + j / 2 * 2 + j % 2 = o + j by omega] at this
    refine (Tryd.slices_Clone i0 (itv (0, 0)) 2 16 hi hz0 hz1 hz2 rfl (by decide) Tryd.sizeOf52 b o xs.length c (flatL itc xs) w (flatL_len encI xs) (by simp only [maxLen]; omega) (by omega) hc (flatL_mem encI)).mono ?_
    rintro e w' ⟨v', rfl, hO, _, hB⟩
    have hO' : OwR w' w.heap.size 52 2 itc v' xs := hO
    obtain ⟨p', c', rfl, _, _⟩ := hO'.parts encI
    exact ⟨p', c', rfl, hO', hB⟩

/-! ### Valid periods -/
set_option maxHeartbeats 4000000 in
theorem start_big (p : Option Addr) (n c : Nat) (xs : List It) (w : World) (h : Row w p c xs) (hn : xs.length = n) (hl : n ≤ 8796093022207) (hok : okL xs = true) :
    Calls Tryd.prog 20 #[.slice p n c] w fun e w' => ∃ q, e = .returned (.tuple #[.pointer (some ⟨q, 0, none⟩), .int .i64 0]) ∧ MtA q (Mt.start xs) w' ∧ w.heap.size ≤ q ∧ Grew w w' := by
  have HV := Lib.hid (valid_any p n c xs w h.1 hn)
  rw [hok] at HV
  have HC := Lib.hid (fun (W : World) (hg : Grew w W) => clone_big p n c xs W (h.1.kept hg) hn hl (fun a ha => (h.2 a ha).1))
  have HN := Lib.hid hn
  clear h hn
  go_enter Tryd.func20, Tryd.ntmps20
  go_wp2_with (first
    | (go_at_call 14; (with_reducible refine (HV.out).mono ?_); rintro e w1 ⟨rfl, g1⟩; have HG1 := Lib.hid g1; clear g1)
    | (go_at_call 40; (with_reducible refine (HC.out _ HG1.out).mono ?_); rintro e w2 ⟨p', c', rfl, ho, g2⟩; have HO := Lib.hid ho; have HG2 := Lib.hid (HG1.out.trans g2); clear ho g2)
    | (go_at_call 41; generalize hW : World.alloc _ _ = V; have hB : Blk w2.heap.size [.slice p' n c', .int .i64 0, .bool false, .int .i64 ((0 : Nat) : Int)] 72 V := (by subst hW; exact Blk.new w2 _ _); have hg : Grew w2 V := (by subst hW; exact (Grew.refl _).alloc _); clear hW; (with_reducible refine (begin_any w2.heap.size n c' 0 p' 0 false xs V hB ((Row.of_own HO.out).grew hg) HN.out).mono ?_); rintro e w3 ⟨⟨v3, rfl⟩, hb3, hc3⟩; have HR3 := Lib.hid (chg_q hB hc3 ((Row.of_own HO.out).grew hg)); have HB3 := Lib.hid hb3; have HG3 := Lib.hid (grew_lift (HG2.out.trans hg) hc3 (fun k hk => by have hk' : k = w2.heap.size := hk; have := HG2.out.sz; omega)); clear hB hg hb3 hc3))
  refine bodyPost_ret (v := .tuple #[.pointer (some ⟨w2.heap.size, 0, none⟩), .int .i64 0]) (by simp [results, Tryd.results20, go_sem]) rfl ?_
  have hb := HB3.out
  refine ⟨w2.heap.size, rfl, ⟨p', c', ?_, HR3.out⟩, HG2.out.sz, HG3.out⟩
  show Blk _ [.slice p' xs.length c', _, _, _] _ _
  rw [HN.out]
  exact hb
theorem copied_rowB (p : Option Addr) (n c : Nat) (xs : List It) (w : World) (h : Rw 2 itc w p c xs) (hn : xs.length = n) (hl : n ≤ 8796093022207) :
    Calls Tryd.prog 13 #[.slice p n c] w fun e w' => ∃ p' c', e = .returned (.slice p' n c') ∧ Row w' p' c' xs ∧ Grew w w' :=
  (copied_big p n c xs w h hn hl).mono fun _ _ ⟨p', c', h1, h2, h3⟩ => ⟨p', c', h1, Row.of_own h2, h3⟩
theorem start_atB (w0 : World) (p : Option Addr) (n c : Nat) (xs : List It) (w : World) (hg : Grew w0 w) (h : Row w p c xs) (hn : xs.length = n) (hl : n ≤ 8796093022207) (hok : okL xs = true) :
    Calls Tryd.prog 20 #[.slice p n c] w fun e w' => ∃ q, e = .returned (.tuple #[.pointer (some ⟨q, 0, none⟩), .int .i64 0]) ∧ MtA q (Mt.start xs) w' ∧ w0.heap.size ≤ q ∧ Grew w w' :=
  (start_big p n c xs w h hn hl hok).mono fun _ _ ⟨q, h1, h2, h3, h4⟩ => ⟨q, h1, h2, Nat.le_trans hg.sz h3, h4⟩
theorem spend_yes (q : Nat) (rest : List It) (lf y : Int) (ct : Nat) (w : World) (h : MtA q ⟨rest, lf, false, ct⟩ w) (hg : (⟨rest, lf, false, ct⟩ : Mt).good) (hy : (0 ≤ y ∧ y ≤ 1099511627776) ∧ ct ≤ 60 ∧ (rest ≠ [] → y ≤ lf)) :
    Calls Tryd.prog 23 #[.pointer (some ⟨q, 0, none⟩), .int .i64 y] w fun e w' => e = .returned (.bool true) ∧ Did q ⟨rest, (match rest with | [] => lf | _ :: _ => lf - y), false, ct⟩ w w' := by
  have hym : max y 0 = y := by omega
  refine spend_is q _ y _ true _ _ _ ⟨⟨?_, ?_⟩, rfl, rfl, rfl⟩ w h hg (by omega) (by show ct ≤ 1000000; omega)
  · unfold Mt.spend
    cases rest with
    | nil => rfl
    | cons x r =>
      have := hy.2.2 (by simp)
      simp [hym, show ¬ lf < y by omega]
  · unfold Mt.spent
    cases rest with
    | nil => rfl
    | cons x r =>
      have := hy.2.2 (by simp)
      simp [hym]
      omega
theorem spend_no (q : Nat) (x : It) (r : List It) (lf y : Int) (ct : Nat) (w : World) (h : MtA q ⟨x :: r, lf, false, ct⟩ w) (hg : (⟨x :: r, lf, false, ct⟩ : Mt).good) (hy : (0 ≤ y ∧ y ≤ 1099511627776) ∧ ct ≤ 60 ∧ lf < y) :
    Calls Tryd.prog 23 #[.pointer (some ⟨q, 0, none⟩), .int .i64 y] w fun e w' => e = .returned (.bool false) ∧ Did q ⟨x :: r, 0, true, ct + 1⟩ w w' := by
  have hym : max y 0 = y := by omega
  refine spend_is q _ y _ false _ _ _ ⟨⟨?_, ?_⟩, rfl, rfl, rfl⟩ w h hg (by omega) (by show ct ≤ 1000000; omega)
  · unfold Mt.spend
    simp [hym, hy.2.2]
  · unfold Mt.spent
    simp [hym, hy.2.2]
theorem next_no (q : Nat) (x : It) (r : List It) (ct : Nat) (w : World) (h : MtA q ⟨x :: r, 0, true, ct⟩ w) (hq : okL (x :: r) = true) :
    Calls Tryd.prog 25 #[.pointer (some ⟨q, 0, none⟩)] w fun e w' => e = .returned (.tuple #[.int .i64 x.2, .bool true]) ∧ Did q ⟨r, leftOf r 0, false, ct⟩ w w' :=
  next_any q ⟨x :: r, 0, true, ct⟩ w h ⟨hq, fun _ => by simp, fun _ => ⟨Int.le_refl _, by show (0 : Int) ≤ 1073741824; omega⟩⟩
theorem okL_drop {xs : List It} (h : okL xs = true) (k : Nat) : okL (xs.drop k) = true := okL_of fun y hy => okL_mem h y (List.mem_of_mem_drop hy)
theorem budget_good {xs : List It} (hq : okL xs = true) {per : Nat} {u lf : Int} (hu : 0 ≤ u) (h : ∀ h : per < xs.length, lf = xs[per].1 - u ∧ u ≤ xs[per].1) : (⟨xs.drop per, lf, false, per⟩ : Mt).good := by
  refine ⟨okL_drop hq per, (fun h => by cases h), fun hn => ?_⟩
  have hl : per < xs.length := by
    rcases Nat.lt_or_ge per xs.length with h | h
    · exact h
    · exact absurd (List.drop_eq_nil_of_le h) hn
  obtain ⟨h1, h2⟩ := h hl
  have := (okP_bd (okL_mem hq xs[per] (List.getElem_mem hl))).1
  show 0 ≤ lf ∧ lf ≤ 1073741824
  omega
theorem budget_after {xs : List It} (hq : okL xs = true) {per : Nat} (h : per + 1 < xs.length) : leftOf (xs.drop (per + 1)) 0 = xs[per + 1].1 - 0 ∧ 0 ≤ xs[per + 1].1 := by
  rw [List.drop_eq_getElem_cons h]
  exact ⟨by show xs[per + 1].1 = xs[per + 1].1 - 0; omega, (okP_bd (okL_mem hq xs[per + 1] (List.getElem_mem h))).1.1⟩
theorem budget_start (xs : List It) (h : 0 < xs.length) (hq : okL xs = true) : leftOf xs 0 = xs[0].1 - 0 ∧ 0 ≤ xs[0].1 := by
  cases xs with
  | nil => exact absurd h (by decide)
  | cons x r => exact ⟨by show x.1 = x.1 - 0; omega, (okP_bd (okL_mem hq x (by simp))).1.1⟩
set_option maxHeartbeats 8000000 in
theorem budget_law (p : Option Addr) (n c : Nat) (xs : List It) (pe : Option Addr) (ne ce : Nat) (es : List Int) (w : World) (hn : xs.length = n) (hne : es.length = ne) (hx : Rw 2 itc w p c xs) (hy : Rw 1 i64c w pe ce es) (hb : ∀ y ∈ es, -9223372036854775808 ≤ y ∧ y ≤ 9223372036854775807) (hbig : n ≤ 8796093022207) (he : Env w) :
    Calls Tryd.prog 6 #[.slice p n c, .slice pe ne ce] w fun e w' => e = .returned (.bool true) ∧ Grew w w' := by
  subst hn hne
  have HX := Lib.hid hx
  have HA := Lib.hid hy
  have HX0 := Lib.hid hx
  have HA0 := Lib.hid hy
  have HBD := Lib.hid hb
  have HE := Lib.hid he
  have HBG := Lib.hid hbig
  clear hx he hy hb
  by_cases h60 : xs.length ≤ 60
  · by_cases h200 : es.length ≤ 200
    · skip
      cases hq : okL xs
      · have HQ := Lib.hid hq
        clear hq
        have HB := Lib.hid (Grew.refl w)
        have tk0 := Lib.hid trivial
        have tk1 := Lib.hid trivial
        have tk2 := Lib.hid trivial
        have tk3 := Lib.hid trivial
        go_enter Tryd.func6, Tryd.ntmps6
        go_wp2_with (first
          | (go_at_call 13; clear tk0; (with_reducible refine (copied_rowB _ _ _ xs _ HX.out rfl HBG.out).mono ?_); rintro e w1 ⟨p1, c1, rfl, h1, g1⟩; replace HE := Lib.hid (HE.out.grew g1); replace HX := Lib.hid (HX.out.grew g1); replace HA := Lib.hid (HA.out.grew g1); replace HB := Lib.hid (HB.out.trans g1); clear g1; have H1 := Lib.hid h1; clear h1)
          | (go_at_call 20; clear tk1; (with_reducible refine (start_no _ _ _ xs _ H1.out rfl HQ.out).mono ?_); rintro e w2 ⟨rfl, g1⟩; replace HE := Lib.hid (HE.out.grew g1); replace HX := Lib.hid (HX.out.grew g1); replace HA := Lib.hid (HA.out.grew g1); replace H1 := Lib.hid (H1.out.grew g1); replace HB := Lib.hid (HB.out.trans g1); clear g1)
          | (go_at_call 11; clear tk2; (with_reducible refine (examples_any _ HE.out).mono ?_); rintro e w3 ⟨rfl, g1⟩; replace HE := Lib.hid (HE.out.grew g1); replace HX := Lib.hid (HX.out.grew g1); replace HA := Lib.hid (HA.out.grew g1); replace H1 := Lib.hid (H1.out.grew g1); replace HB := Lib.hid (HB.out.trans g1); clear g1)
          | (go_at_call 11; clear tk3; (with_reducible refine (examples_any _ HE.out).mono ?_); rintro e w4 ⟨rfl, g1⟩; replace HE := Lib.hid (HE.out.grew g1); replace HX := Lib.hid (HX.out.grew g1); replace HA := Lib.hid (HA.out.grew g1); replace H1 := Lib.hid (H1.out.grew g1); replace HB := Lib.hid (HB.out.trans g1); clear g1))
        go_ret
        exact ⟨rfl, HB.out⟩
      · have HQ := Lib.hid hq
        clear hq
        have HB := Lib.hid (Grew.refl w)
        have tk0 := Lib.hid trivial
        have tk1 := Lib.hid trivial
        have tk2 := Lib.hid trivial
        go_enter Tryd.func6, Tryd.ntmps6
        go_wp2_with (first
          | (go_at_call 13; clear tk0; (with_reducible refine (copied_rowB _ _ _ xs _ HX.out rfl HBG.out).mono ?_); rintro e w1 ⟨p1, c1, rfl, h1, g1⟩; replace HE := Lib.hid (HE.out.grew g1); replace HX := Lib.hid (HX.out.grew g1); replace HA := Lib.hid (HA.out.grew g1); replace HB := Lib.hid (HB.out.trans g1); clear g1; have H1 := Lib.hid h1; clear h1)
          | (go_at_call 20; clear tk1; (with_reducible refine (start_atB w _ _ _ xs _ HB.out H1.out rfl HBG.out HQ.out).mono ?_); rintro e w2 ⟨q, rfl, hm, hq, g1⟩; replace HE := Lib.hid (HE.out.grew g1); replace HX := Lib.hid (HX.out.grew g1); replace HA := Lib.hid (HA.out.grew g1); replace H1 := Lib.hid (H1.out.grew g1); replace HB := Lib.hid (HB.out.trans g1); clear g1; have HM := Lib.hid hm; clear hm; have HQG := Lib.hid hq; clear hq)
          | (go_at_call 11; clear tk2; (with_reducible refine (examples_any _ HE.out).mono ?_); rintro e w3 ⟨rfl, g1⟩; replace HE := Lib.hid (HE.out.grew g1); replace HX := Lib.hid (HX.out.grew g1); replace HA := Lib.hid (HA.out.grew g1); replace H1 := Lib.hid (H1.out.grew g1); replace HM := Lib.hid (HM.out.grew g1); replace HB := Lib.hid (HB.out.trans g1); clear g1))
        go_loopg [7, 8, 42] es.length (fun gg pv uv iv wr => ∃ (k per : Nat) (u lf : Int), pv = .int .i64 (per : Int) ∧ uv = .int .i64 u ∧ iv = .int .i64 (k : Int) ∧ k ≤ es.length ∧ gg = es.length - k ∧ per ≤ xs.length ∧ (0 ≤ u ∧ u ≤ (k : Int) * 1099511627776) ∧ Hid (MtA q ⟨xs.drop per, lf, false, per⟩ wr ∧ ∀ h : per < xs.length, lf = xs[per].1 - u ∧ u ≤ xs[per].1) ∧ Hid (Grew w wr))
        case atStart => exact ⟨0, 0, 0, leftOf xs 0, rfl, rfl, rfl, Nat.zero_le _, rfl, Nat.zero_le _, by omega, Lib.hid ⟨HM.out, fun h => budget_start xs h HQ.out⟩, Lib.hid HB.out⟩
        clear HM HB HX HA HE H1
        case round =>
          obtain ⟨k, per, u, lf, rfl, rfl, rfl, hk, rfl, hper, hu, HMM, HG⟩ := hrel
          by_cases hlt : k < es.length
          · obtain ⟨b', o', rfl, hcc⟩ := (HA0.out.kept HG.out).rd.cells (by omega)
            have hbz := HBD.out es[k] (List.getElem_mem hlt)
            have d0 : wr.cell? ⟨b', o' + k, none⟩ = some (.int .i64 es[k]) := by have := hcc k es[k] (by simp [hlt]) 0 _ rfl; simp only [Nat.mul_one, Nat.add_zero] at this; exact this
            have hlb : b' < wr.heap.size := World.block_lt_of_cell? _ _ d0
            have HK := Lib.hid (And.intro (Nat.succ_le_of_lt hlt) h200)
            generalize es[k] = z at d0 hbz
            have HZB := Lib.hid hbz
            clear hcc
            by_cases h40 : 1099511627776 < max z 0
            · go_wp2
              go_ret
              exact ⟨rfl, HG.out⟩
            · have HGD := Lib.hid (budget_good HQ.out hu.1 HMM.out.2)
              have hz0 : 0 ≤ max z 0 := by omega
              have HY := Lib.hid (And.intro hz0 (Int.not_lt.1 h40))
              have HU := Lib.hid hu
              by_cases hpl : per < xs.length
              · have HPL := Lib.hid hpl
                have hrow := HX0.out.kept HG.out
                obtain ⟨b2, o2, rfl, _⟩ := hrow.rd.cells (by omega)
                have HXC : Hid (∀ W, Grew w W → W.cell? ⟨b2, o2 + per * 2, none⟩ = some (.int .i64 (xs[per]'hpl).1) ∧ W.cell? ⟨b2, o2 + per * 2 + 1, none⟩ = some (.int .i64 (xs[per]'hpl).2)) := Lib.hid (fun W hg => ⟨by have := (HX0.out.kept hg).cell (List.getElem?_eq_getElem hpl) (j := 0) rfl; rwa [Nat.add_zero] at this, (HX0.out.kept hg).cell (List.getElem?_eq_getElem hpl) (j := 1) rfl⟩)
                have HDR : Hid (xs.drop per = (xs[per]'hpl) :: xs.drop (per + 1)) := Lib.hid (List.drop_eq_getElem_cons hpl)
                have hlf : lf = (xs[per]'hpl).1 - u ∧ u ≤ (xs[per]'hpl).1 := HMM.out.2 hpl
                have hxb : 0 ≤ (xs[per]'hpl).1 ∧ (xs[per]'hpl).1 ≤ 1073741824 := (okP_bd (okL_mem HQ.out (xs[per]'hpl) (List.getElem_mem hpl))).1
                obtain ⟨x, hx⟩ : ∃ x, (xs[per]'hpl) = x := ⟨_, rfl⟩
                rw [hx] at HXC HDR hlf hxb
                have HXP := Lib.hid hx
                clear hx hrow
                have HM1 : Hid (MtA q ⟨x :: xs.drop (per + 1), lf, false, per⟩ wr ∧ (⟨x :: xs.drop (per + 1), lf, false, per⟩ : Mt).good ∧ okL (x :: xs.drop (per + 1)) = true) := Lib.hid (by
                  rw [← HDR.out]
                  exact ⟨HMM.out.1, HGD.out, okL_drop HQ.out per⟩)
                by_cases hy : max z 0 ≤ lf
                · have hle : ¬ x.1 < u + max z 0 := by omega
                  have HYY : Hid ((0 ≤ max z 0 ∧ max z 0 ≤ 1099511627776) ∧ per ≤ 60 ∧ (x :: xs.drop (per + 1) ≠ [] → max z 0 ≤ lf)) := Lib.hid ⟨HY.out, by omega, fun _ => hy⟩
                  go_wp2_with (go_at_call 23; (with_reducible refine (spend_yes q (x :: xs.drop (per + 1)) lf (max z 0) per wr HM1.out.1 HM1.out.2.1 HYY.out).mono ?_); rintro e w3 ⟨rfl, hd⟩; have HD := Lib.hid hd.1; have HG3 := Lib.hid (grew_lift HG.out hd.2 (fun k hk => hk ▸ HQG.out)); have e0 := (HXC.out w3 HG3.out).1; have e1 := (HXC.out w3 HG3.out).2; have e2 := World.block_lt_of_cell? _ _ e0; clear hd)
                  all_goals first | (exfalso; omega) | skip
                  go_roundg (es.length - (k + 1))
                  · exact ⟨k + 1, per, u + max z 0, lf - max z 0, rfl, rfl, by first | rfl | simp, HK.out.1, rfl, by omega, by omega, Lib.hid ⟨by rw [HDR.out]; exact HD.out, fun h => ⟨by have e : xs[per]'h = x := HXP.out; rw [e]; omega, by have e : xs[per]'h = x := HXP.out; rw [e]; omega⟩⟩, HG3⟩
                  · have := HK.out; omega
                · have hgt : ¬ u + max z 0 ≤ x.1 := by omega
                  have HYY : Hid ((0 ≤ max z 0 ∧ max z 0 ≤ 1099511627776) ∧ per ≤ 60 ∧ lf < max z 0) := Lib.hid ⟨HY.out, by omega, by omega⟩
                  by_cases hp1 : per + 1 < xs.length
                  · have HXC2 : Hid (∀ W, Grew w W → W.cell? ⟨b2, o2 + (per + 1) * 2, none⟩ = some (.int .i64 (xs[per + 1]'hp1).1)) := Lib.hid (fun W hg => by have := (HX0.out.kept hg).cell (List.getElem?_eq_getElem hp1) (j := 0) rfl; rwa [Nat.add_zero] at this)
                    have hx2 := (okP_bd (okL_mem HQ.out (xs[per + 1]'hp1) (List.getElem_mem hp1))).1.1
                    have HP1 := Lib.hid hp1
                    obtain ⟨y1, hy1⟩ : ∃ y1, (xs[per + 1]'hp1) = y1 := ⟨_, rfl⟩
                    rw [hy1] at HXC2 hx2
                    have hx3 : ¬ y1.1 < 0 := by omega
                    clear hy1
                    go_wp2_with (first
                      | (go_at_call 23; (with_reducible refine (spend_no q x (xs.drop (per + 1)) lf (max z 0) per wr HM1.out.1 HM1.out.2.1 HYY.out).mono ?_); rintro e w3 ⟨rfl, hd⟩; have HD := Lib.hid hd.1; have HG3 := Lib.hid (grew_lift HG.out hd.2 (fun k hk => hk ▸ HQG.out)); have e0 := (HXC.out w3 HG3.out).1; have e1 := (HXC.out w3 HG3.out).2; have e2 := World.block_lt_of_cell? _ _ e0; clear hd)
                      | (go_at_call 25; clear e0 e1 e2; (with_reducible refine (next_no q x (xs.drop (per + 1)) (per + 1) w3 HD.out HM1.out.2.2).mono ?_); rintro e w4 ⟨rfl, hd⟩; have HD4 := Lib.hid hd.1; have HG4 := Lib.hid (grew_lift HG3.out hd.2 (fun k hk => hk ▸ HQG.out)); have e0 := (HXC.out w4 HG4.out).1; have e1 := (HXC.out w4 HG4.out).2; have e2 := World.block_lt_of_cell? _ _ e0; have e3 := HXC2.out w4 HG4.out; clear hd))
                    all_goals first | (exfalso; omega) | skip
                    go_roundg (es.length - (k + 1))
                    · exact ⟨k + 1, per + 1, 0, leftOf (xs.drop (per + 1)) 0, by first | rfl | simp, rfl, by first | rfl | simp, HK.out.1, rfl, by omega, by omega, Lib.hid ⟨HD4.out, fun h => budget_after HQ.out h⟩, HG4⟩
                    · have := HK.out; omega
                  · have hpe : xs.length = per + 1 := by omega
                    have hp2 : ¬ (per : Int) + 1 < xs.length := by omega
                    clear hpe
                    go_wp2_with (first
                      | (go_at_call 23; (with_reducible refine (spend_no q x (xs.drop (per + 1)) lf (max z 0) per wr HM1.out.1 HM1.out.2.1 HYY.out).mono ?_); rintro e w3 ⟨rfl, hd⟩; have HD := Lib.hid hd.1; have HG3 := Lib.hid (grew_lift HG.out hd.2 (fun k hk => hk ▸ HQG.out)); have e0 := (HXC.out w3 HG3.out).1; have e1 := (HXC.out w3 HG3.out).2; have e2 := World.block_lt_of_cell? _ _ e0; clear hd)
                      | (go_at_call 25; clear e0 e1 e2; (with_reducible refine (next_no q x (xs.drop (per + 1)) (per + 1) w3 HD.out HM1.out.2.2).mono ?_); rintro e w4 ⟨rfl, hd⟩; have HD4 := Lib.hid hd.1; have HG4 := Lib.hid (grew_lift HG3.out hd.2 (fun k hk => hk ▸ HQG.out)); have e0 := (HXC.out w4 HG4.out).1; have e1 := (HXC.out w4 HG4.out).2; have e2 := World.block_lt_of_cell? _ _ e0; clear hd))
                    all_goals first | (exfalso; omega) | skip
                    go_roundg (es.length - (k + 1))
                    · exact ⟨k + 1, per + 1, 0, leftOf (xs.drop (per + 1)) 0, by first | rfl | simp, rfl, by first | rfl | simp, HK.out.1, rfl, by omega, by omega, Lib.hid ⟨HD4.out, fun h => absurd h hp1⟩, HG4⟩
                    · have := HK.out; omega
              · obtain rfl : per = xs.length := by omega
                have hnil : xs.drop xs.length = [] := List.drop_length
                have HYY : Hid ((0 ≤ max z 0 ∧ max z 0 ≤ 1099511627776) ∧ xs.length ≤ 60 ∧ (([] : List It) ≠ [] → max z 0 ≤ lf)) := Lib.hid ⟨HY.out, h60, fun h => absurd rfl h⟩
                have HM0 : Hid (MtA q ⟨[], lf, false, xs.length⟩ wr ∧ (⟨[], lf, false, xs.length⟩ : Mt).good) := Lib.hid (by
                  rw [← hnil]
                  exact ⟨HMM.out.1, HGD.out⟩)
                have HNL := Lib.hid hnil
                clear hnil
                go_wp2_with (go_at_call 23; (with_reducible refine (spend_yes q [] lf (max z 0) xs.length wr HM0.out.1 HM0.out.2 HYY.out).mono ?_); rintro e w3 ⟨rfl, hd⟩; have HD := Lib.hid hd.1; have HG3 := Lib.hid (grew_lift HG.out hd.2 (fun k hk => hk ▸ HQG.out)); clear hd)
                all_goals first | (exfalso; omega) | skip
                go_roundg (es.length - (k + 1))
                · exact ⟨k + 1, xs.length, u + max z 0, lf, rfl, rfl, by first | rfl | simp, HK.out.1, rfl, Nat.le_refl _, by omega, Lib.hid ⟨by rw [HNL.out]; exact HD.out, fun h => absurd h (Nat.lt_irrefl _)⟩, HG3⟩
                · have := HK.out; omega
          · obtain rfl : k = es.length := by omega
            go_wp2_with (go_at_call 28; (with_reducible refine (periods_any q _ _ HMM.out.1).mono ?_); rintro e w3 ⟨rfl, rfl⟩)
            go_ret
            exact ⟨rfl, HG.out⟩
    · have h2 : ¬ (es.length : Int) ≤ 200 := by omega
      cases hq : okL xs
      · have HQ := Lib.hid hq
        clear hq
        have HB := Lib.hid (Grew.refl w)
        have tk0 := Lib.hid trivial
        have tk1 := Lib.hid trivial
        have tk2 := Lib.hid trivial
        have tk3 := Lib.hid trivial
        go_enter Tryd.func6, Tryd.ntmps6
        go_wp2_with (first
          | (go_at_call 13; clear tk0; (with_reducible refine (copied_rowB _ _ _ xs _ HX.out rfl HBG.out).mono ?_); rintro e w1 ⟨p1, c1, rfl, h1, g1⟩; replace HE := Lib.hid (HE.out.grew g1); replace HX := Lib.hid (HX.out.grew g1); replace HA := Lib.hid (HA.out.grew g1); replace HB := Lib.hid (HB.out.trans g1); clear g1; have H1 := Lib.hid h1; clear h1)
          | (go_at_call 20; clear tk1; (with_reducible refine (start_no _ _ _ xs _ H1.out rfl HQ.out).mono ?_); rintro e w2 ⟨rfl, g1⟩; replace HE := Lib.hid (HE.out.grew g1); replace HX := Lib.hid (HX.out.grew g1); replace HA := Lib.hid (HA.out.grew g1); replace H1 := Lib.hid (H1.out.grew g1); replace HB := Lib.hid (HB.out.trans g1); clear g1)
          | (go_at_call 11; clear tk2; (with_reducible refine (examples_any _ HE.out).mono ?_); rintro e w3 ⟨rfl, g1⟩; replace HE := Lib.hid (HE.out.grew g1); replace HX := Lib.hid (HX.out.grew g1); replace HA := Lib.hid (HA.out.grew g1); replace H1 := Lib.hid (H1.out.grew g1); replace HB := Lib.hid (HB.out.trans g1); clear g1)
          | (go_at_call 11; clear tk3; (with_reducible refine (examples_any _ HE.out).mono ?_); rintro e w4 ⟨rfl, g1⟩; replace HE := Lib.hid (HE.out.grew g1); replace HX := Lib.hid (HX.out.grew g1); replace HA := Lib.hid (HA.out.grew g1); replace H1 := Lib.hid (H1.out.grew g1); replace HB := Lib.hid (HB.out.trans g1); clear g1))
        go_ret
        exact ⟨rfl, HB.out⟩
      · have HQ := Lib.hid hq
        clear hq
        have HB := Lib.hid (Grew.refl w)
        have tk0 := Lib.hid trivial
        have tk1 := Lib.hid trivial
        have tk2 := Lib.hid trivial
        have tk3 := Lib.hid trivial
        go_enter Tryd.func6, Tryd.ntmps6
        go_wp2_with (first
          | (go_at_call 13; clear tk0; (with_reducible refine (copied_rowB _ _ _ xs _ HX.out rfl HBG.out).mono ?_); rintro e w1 ⟨p1, c1, rfl, h1, g1⟩; replace HE := Lib.hid (HE.out.grew g1); replace HX := Lib.hid (HX.out.grew g1); replace HA := Lib.hid (HA.out.grew g1); replace HB := Lib.hid (HB.out.trans g1); clear g1; have H1 := Lib.hid h1; clear h1)
          | (go_at_call 20; clear tk1; (with_reducible refine (start_atB w _ _ _ xs _ HB.out H1.out rfl HBG.out HQ.out).mono ?_); rintro e w2 ⟨q, rfl, hm, hq, g1⟩; replace HE := Lib.hid (HE.out.grew g1); replace HX := Lib.hid (HX.out.grew g1); replace HA := Lib.hid (HA.out.grew g1); replace H1 := Lib.hid (H1.out.grew g1); replace HB := Lib.hid (HB.out.trans g1); clear g1; have HM := Lib.hid hm; clear hm; have HQG := Lib.hid hq; clear hq)
          | (go_at_call 11; clear tk2; (with_reducible refine (examples_any _ HE.out).mono ?_); rintro e w3 ⟨rfl, g1⟩; replace HE := Lib.hid (HE.out.grew g1); replace HX := Lib.hid (HX.out.grew g1); replace HA := Lib.hid (HA.out.grew g1); replace H1 := Lib.hid (H1.out.grew g1); replace HM := Lib.hid (HM.out.grew g1); replace HB := Lib.hid (HB.out.trans g1); clear g1)
          | (go_at_call 11; clear tk3; (with_reducible refine (examples_any _ HE.out).mono ?_); rintro e w4 ⟨rfl, g1⟩; replace HE := Lib.hid (HE.out.grew g1); replace HX := Lib.hid (HX.out.grew g1); replace HA := Lib.hid (HA.out.grew g1); replace H1 := Lib.hid (H1.out.grew g1); replace HM := Lib.hid (HM.out.grew g1); replace HB := Lib.hid (HB.out.trans g1); clear g1))
        go_ret
        exact ⟨rfl, HB.out⟩
  · have h1 : ¬ (xs.length : Int) ≤ 60 := by omega
    cases hq : okL xs
    · have HQ := Lib.hid hq
      clear hq
      have HB := Lib.hid (Grew.refl w)
      have tk0 := Lib.hid trivial
      have tk1 := Lib.hid trivial
      have tk2 := Lib.hid trivial
      have tk3 := Lib.hid trivial
      go_enter Tryd.func6, Tryd.ntmps6
      go_wp2_with (first
        | (go_at_call 13; clear tk0; (with_reducible refine (copied_rowB _ _ _ xs _ HX.out rfl HBG.out).mono ?_); rintro e w1 ⟨p1, c1, rfl, h1, g1⟩; replace HE := Lib.hid (HE.out.grew g1); replace HX := Lib.hid (HX.out.grew g1); replace HA := Lib.hid (HA.out.grew g1); replace HB := Lib.hid (HB.out.trans g1); clear g1; have H1 := Lib.hid h1; clear h1)
        | (go_at_call 20; clear tk1; (with_reducible refine (start_no _ _ _ xs _ H1.out rfl HQ.out).mono ?_); rintro e w2 ⟨rfl, g1⟩; replace HE := Lib.hid (HE.out.grew g1); replace HX := Lib.hid (HX.out.grew g1); replace HA := Lib.hid (HA.out.grew g1); replace H1 := Lib.hid (H1.out.grew g1); replace HB := Lib.hid (HB.out.trans g1); clear g1)
        | (go_at_call 11; clear tk2; (with_reducible refine (examples_any _ HE.out).mono ?_); rintro e w3 ⟨rfl, g1⟩; replace HE := Lib.hid (HE.out.grew g1); replace HX := Lib.hid (HX.out.grew g1); replace HA := Lib.hid (HA.out.grew g1); replace H1 := Lib.hid (H1.out.grew g1); replace HB := Lib.hid (HB.out.trans g1); clear g1)
        | (go_at_call 11; clear tk3; (with_reducible refine (examples_any _ HE.out).mono ?_); rintro e w4 ⟨rfl, g1⟩; replace HE := Lib.hid (HE.out.grew g1); replace HX := Lib.hid (HX.out.grew g1); replace HA := Lib.hid (HA.out.grew g1); replace H1 := Lib.hid (H1.out.grew g1); replace HB := Lib.hid (HB.out.trans g1); clear g1))
      go_ret
      exact ⟨rfl, HB.out⟩
    · have HQ := Lib.hid hq
      clear hq
      have HB := Lib.hid (Grew.refl w)
      have tk0 := Lib.hid trivial
      have tk1 := Lib.hid trivial
      have tk2 := Lib.hid trivial
      have tk3 := Lib.hid trivial
      go_enter Tryd.func6, Tryd.ntmps6
      go_wp2_with (first
        | (go_at_call 13; clear tk0; (with_reducible refine (copied_rowB _ _ _ xs _ HX.out rfl HBG.out).mono ?_); rintro e w1 ⟨p1, c1, rfl, h1, g1⟩; replace HE := Lib.hid (HE.out.grew g1); replace HX := Lib.hid (HX.out.grew g1); replace HA := Lib.hid (HA.out.grew g1); replace HB := Lib.hid (HB.out.trans g1); clear g1; have H1 := Lib.hid h1; clear h1)
        | (go_at_call 20; clear tk1; (with_reducible refine (start_atB w _ _ _ xs _ HB.out H1.out rfl HBG.out HQ.out).mono ?_); rintro e w2 ⟨q, rfl, hm, hq, g1⟩; replace HE := Lib.hid (HE.out.grew g1); replace HX := Lib.hid (HX.out.grew g1); replace HA := Lib.hid (HA.out.grew g1); replace H1 := Lib.hid (H1.out.grew g1); replace HB := Lib.hid (HB.out.trans g1); clear g1; have HM := Lib.hid hm; clear hm; have HQG := Lib.hid hq; clear hq)
        | (go_at_call 11; clear tk2; (with_reducible refine (examples_any _ HE.out).mono ?_); rintro e w3 ⟨rfl, g1⟩; replace HE := Lib.hid (HE.out.grew g1); replace HX := Lib.hid (HX.out.grew g1); replace HA := Lib.hid (HA.out.grew g1); replace H1 := Lib.hid (H1.out.grew g1); replace HM := Lib.hid (HM.out.grew g1); replace HB := Lib.hid (HB.out.trans g1); clear g1)
        | (go_at_call 11; clear tk3; (with_reducible refine (examples_any _ HE.out).mono ?_); rintro e w4 ⟨rfl, g1⟩; replace HE := Lib.hid (HE.out.grew g1); replace HX := Lib.hid (HX.out.grew g1); replace HA := Lib.hid (HA.out.grew g1); replace H1 := Lib.hid (H1.out.grew g1); replace HM := Lib.hid (HM.out.grew g1); replace HB := Lib.hid (HB.out.trans g1); clear g1))
      go_ret
      exact ⟨rfl, HB.out⟩
end Go.Proofs.YtapgpdgbdmnkgaaDoor
