/-
  CONTRACTS OF LAYER 13 (powertrace): the statements' examples.
-/
import Derived.Test.YtapgpdgbdmnkgaaDoorPtFirst
import Derived.Test.YtapgpdgbdmnkgaaDoorPtMeter
import Derived.Test.YtapgpdgbdmnkgaaDoorPtCount
import Derived.Test.YtapgpdgbdmnkgaaDoorPtParse
import Derived.RangeFuncCalls
import Derived.RangeFuncBound
import Derived.Shelf.Abstract
import Derived.Shelf.AbstractIn
import Derived.OwnWalkIn
import Derived.TacticsInMore
import Derived.LoopIn
namespace Go.Proofs.YtapgpdgbdmnkgaaDoor
open Go Go.RowKit Go.IntWalk Go.Shelf
open Go.Lib (itoa)
set_option linter.unusedSimpArgs false
set_option linter.unusedVariables false
set_option maxRecDepth 8000

abbrev XE : List It := [(40, 100), (0, 5)]
theorem it_one (k : Nat) (h : k < 10) : itoa (k : Int) = [UInt8.ofNat (48 + k)] := by
  unfold itoa
  rw [if_neg (by omega)]
  exact Lib.decDigits_one (by simpa using h)
theorem it40 : itoa 40 = [52, 48] := Lib.decDigits_two (by decide) (by decide)
theorem it100 : itoa 100 = [49, 48, 48] := by
  show Lib.decDigits 100 = _
  rw [Lib.decDigits, dif_neg (by decide), Lib.decDigits_two (by decide) (by decide)]
  rfl
theorem it0 : itoa 0 = [48] := it_one 0 (by decide)
theorem it5 : itoa 5 = [53] := it_one 5 (by decide)
theorem xe_text : textT XE = [52, 48, 64, 49, 48, 48, 32, 48, 64, 53] := by
  simp only [XE, textT, sepT, wordT, List.flatMap_cons, List.flatMap_nil, it40, it100, it0, it5]
  rfl
theorem xf_text : fmtL [((3 : Int), (4 : Int)), (5, 6)] = [51, 64, 52, 32, 53, 64, 54] := by
  have h3 : itoa 3 = [51] := it_one 3 (by decide)
  have h4 : itoa 4 = [52] := it_one 4 (by decide)
  have h6 : itoa 6 = [54] := it_one 6 (by decide)
  unfold fmtL
  rw [if_pos (by decide)]
  simp only [textT, sepT, wordT, List.flatMap_cons, List.flatMap_nil, h3, h4, h6, it5]
  rfl
theorem parse_ex1 (w : World) (he : Env w) : Calls Tryd.prog 17 #[.string ⟨#[52, 48, 64, 49, 48, 48, 32, 48, 64, 53]⟩] w fun e w' => ∃ b o c, e = .returned (.tuple #[.slice (some ⟨b, o, none⟩) 2 c, .int .i64 0, .int .i64 0]) ∧ Rw 2 itc w' (some ⟨b, o, none⟩) c XE ∧ Grew w w' :=
  (parse_any [52, 48, 64, 49, 48, 48, 32, 48, 64, 53] (by decide) w he).mono fun e w' ⟨xs, k, er, p, c, h1, h2, h3, h4⟩ => by
    rw [← xe_text, parse_text (by decide)] at h1
    simp only [Prod.mk.injEq] at h1
    obtain ⟨rfl, rfl, rfl⟩ := h1
    have h5 := (h3.rd encI).2
    obtain ⟨b, o, rfl, _⟩ := h5.rd.cells (by decide)
    exact ⟨b, o, c, h2, h5, h4⟩
theorem xb_text : parseT [52, 48, 64, 49, 48, 48, 32, 48, 64, 48] = ([], 2, 2) := by
  have e : ([52, 48, 64, 49, 48, 48, 32, 48, 64, 48] : List UInt8) = wordT (40, 100) ++ 32 :: [48, 64, 48] := by
    simp only [wordT, it40, it100]; rfl
  have e0 : ([48, 64, 48] : List UInt8) = wordT (0, 0) := by
    simp only [wordT, it0]; rfl
  rw [e, e0, parseT_cons (by simp [wordT])]
  have h2 := words_text (40, 100) [(0, 0)]
  simp only [sepT, List.flatMap_cons, List.flatMap_nil, List.append_nil, List.map_cons, List.map_nil] at h2
  rw [h2, goP_ok (readW_some.2 ⟨(by decide : okP (40, 100) = true), rfl⟩), goP_bad]
  exact readW_none.2 fun x hx h => by
    have := wordT_inj h
    subst this
    exact absurd hx (by decide)
theorem parse_ex2 (w : World) (he : Env w) : Calls Tryd.prog 17 #[.string ⟨#[52, 48, 64, 49, 48, 48, 32, 48, 64, 48]⟩] w fun e w' => ∃ p c, e = .returned (.tuple #[.slice p 0 c, .int .i64 2, .int .i64 2]) ∧ Grew w w' :=
  (parse_any [52, 48, 64, 49, 48, 48, 32, 48, 64, 48] (by decide) w he).mono fun e w' ⟨xs, k, er, p, c, h1, h2, h3, h4⟩ => by
    rw [xb_text] at h1
    simp only [Prod.mk.injEq] at h1
    obtain ⟨rfl, rfl, rfl⟩ := h1
    exact ⟨p, c, h2, h4⟩
theorem count_ex (w : World) : Calls Tryd.prog 31 #[.int .i64 2, .int .i64 1] w fun e w' => e = .returned (.int .i64 7) ∧ Grew w w' := by
  have := count_any 2 1 (by decide) (by decide) w
  rwa [show cnt 2 1 = 7 by decide] at this
theorem format_ex (p : Option Addr) (w : World) (h : Rw 2 itc w p 2 [((3 : Int), (4 : Int)), (5, 6)]) (he : Env w) : Calls Tryd.prog 12 #[.slice p 2 2] w fun e w' => e = .returned (.string ⟨#[51, 64, 52, 32, 53, 64, 54]⟩) ∧ Grew w w' := by
  have := format_any p 2 2 _ w h rfl (by decide) he
  rwa [xf_text] at this
/-- Cells with their values, none of them the meter's. -/
def Pins (q : Nat) (L : List (Addr × Value)) (W : World) : Prop := ∀ x ∈ L, Atv x.1 x.2 W ∧ x.1.block ≠ q
theorem Pins.chg {q : Nat} {L : List (Addr × Value)} {A B : World} (h : Pins q L A) (hc : Chg A B (fun k => k = q)) : Pins q L B := fun x hx => by
  obtain ⟨h1, h2⟩ := h x hx
  refine ⟨?_, h2⟩
  have h3 := hc.block x.1.block (World.block_lt_of_cell? _ _ h1) h2
  unfold Atv at *
  rw [World.cell?, h3]
  exact h1
structure ExS (w0 : World) (q : Nat) (m : Mt) (L : List (Addr × Value)) (W : World) : Prop where
  mt : MtA q m W
  grew : Grew w0 W
  pins : Pins q L W
  ge : w0.heap.size ≤ q
  env0 : Env w0
theorem ExS.env {w0 : World} {q : Nat} {m : Mt} {L : List (Addr × Value)} {W : World} (h : ExS w0 q m L W) : Env W := h.env0.grew h.grew
theorem ExS.did {w0 : World} {q : Nat} {m m' : Mt} {L : List (Addr × Value)} {W W' : World} (h : ExS w0 q m L W) (hd : Did q m' W W') : ExS w0 q m' L W' := ⟨hd.1, grew_lift h.grew hd.2 (fun k hk => hk ▸ h.ge), h.pins.chg hd.2, h.ge, h.env0⟩
theorem ExS.grown {w0 : World} {q : Nat} {m : Mt} {L : List (Addr × Value)} {W W' : World} (h : ExS w0 q m L W) (hg : Grew W W') : ExS w0 q m L W' := ⟨h.mt.grew hg, h.grew.trans hg, h.pins.chg (Chg.of_grew hg _), h.ge, h.env0⟩
theorem ExS.more {w0 : World} {q : Nat} {m : Mt} {L K : List (Addr × Value)} {W W' : World} (h : ExS w0 q m L W) (hp : ∀ q, q < W.heap.size → Pins q K W') (hg : Grew W W') : ExS w0 q m (K ++ L) W' := by
  have h' := h.grown hg
  refine ⟨h'.mt, h'.grew, fun x hx => ?_, h'.ge, h'.env0⟩
  rcases List.mem_append.1 hx with hx | hx
  · exact hp q h.mt.lt x hx
  · exact h'.pins x hx
theorem exs_start {w w2 V w3 : World} {b o c q : Nat} (hb : Grew w w2) (hl : Rw 2 itc w2 (some ⟨b, o, none⟩) c XE) (he : Env w2) (hv : Grew w2 V) (hm : MtA q (Mt.start XE) w3) (hq : V.heap.size ≤ q) (g1 : Grew V w3) (he0 : Env w) : ExS w q (Mt.start XE) [(⟨b, o, none⟩, .int .i64 40), (⟨b, o + 1, none⟩, .int .i64 100), (⟨b, o + 2, none⟩, .int .i64 0), (⟨b, o + 3, none⟩, .int .i64 5)] w3 := by
  have hg := hv.trans g1
  have hl3 := hl.kept hg
  have key : ∀ (i j : Nat) (x : It) (v : Value), XE[i]? = some x → (itc x)[j]? = some v → Atv ⟨b, o + i * 2 + j, none⟩ v w3 ∧ b ≠ q := fun i j x v h1 h2 => by
    have h3 := World.block_lt_of_cell? _ _ (hl.cell h1 h2)
    have h4 := hv.sz
    exact ⟨hl3.cell h1 h2, fun e => by subst e; simp only at h3; omega⟩
  refine ⟨hm, hb.trans hg, ?_, Nat.le_trans (Nat.le_trans hb.sz hv.sz) hq, he0⟩
  intro x hx
  simp only [List.mem_cons, List.not_mem_nil, or_false] at hx
  rcases hx with rfl | rfl | rfl | rfl
  · exact key 0 0 _ _ rfl rfl
  · exact key 0 1 _ _ rfl rfl
  · exact key 1 0 _ _ rfl rfl
  · exact key 1 1 _ _ rfl rfl
theorem spend_ex {w0 : World} {q : Nat} {m : Mt} {L : List (Addr × Value)} {W : World} (n : Int) (m' : Mt) (b : Bool) (h : ExS w0 q m L W) (hg : m.good) (hn : -9223372036854775808 ≤ n ∧ n ≤ 9223372036854775807) (hc : m.count ≤ 10) (h1 : m.spend n = m') (h2 : m.spent n = b) :
    Calls Tryd.prog 23 #[.pointer (some ⟨q, 0, none⟩), .int .i64 n] W fun e w' => e = .returned (.bool b) ∧ ExS w0 q m' L w' :=
  (spend_any q m n W h.mt hg hn (by omega)).mono fun e w' ⟨h3, h4⟩ => ⟨h2 ▸ h3, h.did (h1 ▸ h4)⟩
theorem next_ex {w0 : World} {q : Nat} {m : Mt} {L : List (Addr × Value)} {W : World} (m' : Mt) (off : Int) (b : Bool) (h : ExS w0 q m L W) (hg : m.good) (h1 : m.next = m') (h2 : m.off = off) (h5 : m.dark = b) :
    Calls Tryd.prog 25 #[.pointer (some ⟨q, 0, none⟩)] W fun e w' => e = .returned (.tuple #[.int .i64 off, .bool b]) ∧ ExS w0 q m' L w' :=
  (next_any q m W h.mt hg).mono fun e w' ⟨h3, h4⟩ => ⟨h2 ▸ h5 ▸ h3, h.did (h1 ▸ h4)⟩
theorem first_ex (w : World) : Calls Tryd.prog 29 #[.int .i64 2, .int .i64 1, .int .i64 7, .int .i64 100] w fun e w' => ∃ bA oA cA p0 c0 b4 o4 c4, e = .returned (.tuple #[.slice (some ⟨bA, oA, none⟩) 7 cA, .bool true]) ∧ (∀ q, q < w.heap.size → Pins q [(⟨bA, oA, none⟩, .slice p0 0 c0), (⟨bA, oA + 4, none⟩, .slice (some ⟨b4, o4, none⟩) 2 c4), (⟨b4, o4 + 2, none⟩, .int .i64 1), (⟨b4, o4 + 3, none⟩, .int .i64 7)] w') ∧ Grew w w' :=
  (first_any 2 1 7 100 (by decide) (by decide) w).mono fun e w' ⟨xs, p, c, h1, ⟨h2, h3⟩, h4, h5, h6⟩ => by
    have hn : xs.length = 7 := h5.trans (by decide)
    have r := (h2.rd encS).2
    obtain ⟨bA, oA, rfl, _⟩ := r.rd.cells (by omega)
    have g : ∀ j (h : j < xs.length), Good 1 7 xs[j].xs ∧ idx 1 xs[j].xs = j := fun j h => h4 j _ (List.getElem?_eq_getElem h)
    have e0 : xs[0].xs = [] := idx_inj (g 0 (by omega)).1 (fun x hx => by cases hx) ((g 0 (by omega)).2.trans rfl)
    have g4 : Good 1 7 [((0 : Int), (7 : Int)), (1, 7)] := fun x hx => by
      simp only [List.mem_cons, List.not_mem_nil, or_false] at hx
      rcases hx with rfl | rfl <;> decide
    have e4 : xs[4].xs = [(0, 7), (1, 7)] := idx_inj (g 4 (by omega)).1 g4 ((g 4 (by omega)).2.trans (by decide))
    have o4 := h3 xs[4] (List.getElem_mem _)
    have bA' := (h2.place encS _ rfl).1
    have k0 := r.cell (i := 0) (List.getElem?_eq_getElem (by omega : 0 < xs.length)) (j := 0) rfl
    have k4 := r.cell (i := 4) (List.getElem?_eq_getElem (by omega : 4 < xs.length)) (j := 0) rfl
    have hv0 : xs[0].v = .slice xs[0].p 0 xs[0].c := by unfold Sl.v; rw [e0]; rfl
    have hv4 : xs[4].v = .slice xs[4].p 2 xs[4].c := by unfold Sl.v; rw [e4]; rfl
    rw [hv4] at o4 k4
    rw [hv0] at k0
    rw [e4] at o4
    generalize xs[4].p = p4 at o4 k4
    generalize xs[4].c = c4 at o4 k4
    have r4 := (o4.rd encI).2
    obtain ⟨b4, o4', rfl, _⟩ := r4.rd.cells (by decide)
    have b4' := (o4.place encI _ rfl).1
    refine ⟨bA, oA, c, xs[0].p, xs[0].c, b4, o4', c4, ?_, fun q hq x hx => ?_, h6⟩
    · rw [← hn]; exact h1
    simp only [List.mem_cons, List.not_mem_nil, or_false] at hx
    simp only at bA' b4'
    rcases hx with rfl | rfl | rfl | rfl
    · exact ⟨k0, by simp only; omega⟩
    · exact ⟨k4, by simp only; omega⟩
    · exact ⟨r4.cell (i := 1) (j := 0) rfl rfl, by simp only; omega⟩
    · exact ⟨r4.cell (i := 1) (j := 1) rfl rfl, by simp only; omega⟩
theorem mg0 : Mt.good (Mt.start XE) := by
  unfold Mt.good
  simp [Mt.start, XE, leftOf, okL, okP]
theorem mg1 : Mt.good (⟨XE, 0, false, 0⟩ : Mt) := by
  unfold Mt.good
  simp [Mt.start, XE, leftOf, okL, okP]
theorem mg2 : Mt.good (⟨XE, 0, true, 1⟩ : Mt) := by
  unfold Mt.good
  simp [Mt.start, XE, leftOf, okL, okP]
theorem mg3 : Mt.good (⟨[(0, 5)], 0, false, 1⟩ : Mt) := by
  unfold Mt.good
  simp [Mt.start, XE, leftOf, okL, okP]
theorem mg4 : Mt.good (⟨[(0, 5)], 0, true, 2⟩ : Mt) := by
  unfold Mt.good
  simp [Mt.start, XE, leftOf, okL, okP]
theorem mg5 : Mt.good (⟨[], 0, false, 2⟩ : Mt) := by
  unfold Mt.good
  simp [Mt.start, XE, leftOf, okL, okP]
theorem ms3 : (Mt.start XE).spend 40 = ⟨XE, 0, false, 0⟩ := rfl
theorem mt3 : (Mt.start XE).spent 40 = true := by decide
theorem ms4 : (⟨XE, 0, false, 0⟩ : Mt).spend 1 = ⟨XE, 0, true, 1⟩ := rfl
theorem mt4 : (⟨XE, 0, false, 0⟩ : Mt).spent 1 = false := by decide
theorem nx5 : (⟨XE, 0, true, 1⟩ : Mt).next = ⟨[(0, 5)], 0, false, 1⟩ := rfl
theorem no5 : (⟨XE, 0, true, 1⟩ : Mt).off = 100 := by decide
theorem ms6 : (⟨[(0, 5)], 0, false, 1⟩ : Mt).spend 1 = ⟨[(0, 5)], 0, true, 2⟩ := rfl
theorem mt6 : (⟨[(0, 5)], 0, false, 1⟩ : Mt).spent 1 = false := by decide
theorem nx7 : (⟨[(0, 5)], 0, true, 2⟩ : Mt).next = ⟨[], 0, false, 2⟩ := rfl
theorem no7 : (⟨[(0, 5)], 0, true, 2⟩ : Mt).off = 5 := by decide
theorem ms9 : (⟨[], 0, false, 2⟩ : Mt).spend 1073741824 = ⟨[], 0, false, 2⟩ := rfl
theorem mt9 : (⟨[], 0, false, 2⟩ : Mt).spent 1073741824 = true := by decide
set_option maxHeartbeats 8000000 in
theorem examples_any (w : World) (he : Env w) : Calls Tryd.prog 11 #[] w fun e w' => e = .returned (.bool true) ∧ Grew w w' := by
  have HE := Lib.hid he
  have HE0 := Lib.hid he
  clear he
  have tk0 := Lib.hid trivial
  have tk1 := Lib.hid trivial
  have tk2 := Lib.hid trivial
  have tk3 := Lib.hid trivial
  have tk4 := Lib.hid trivial
  have tk5 := Lib.hid trivial
  have tk6 := Lib.hid trivial
  have tk7 := Lib.hid trivial
  have tk8 := Lib.hid trivial
  have tk9 := Lib.hid trivial
  have tk10 := Lib.hid trivial
  have tk11 := Lib.hid trivial
  have tk12 := Lib.hid trivial
  have tk13 := Lib.hid trivial
  go_enter Tryd.func11, Tryd.ntmps11
  go_wp2_with (first
    | (go_at_call 17; clear tk0; (with_reducible refine (parse_ex1 _ HE.out).mono ?_); rintro e w1 ⟨b, o, c, rfl, hl, g1⟩; have HL := Lib.hid hl; replace HE := Lib.hid (HE.out.grew g1); have HB := Lib.hid g1; clear hl g1)
    | (go_at_call 17; clear tk1; (with_reducible refine (parse_ex2 _ HE.out).mono ?_); rintro e w2 ⟨p2, c2, rfl, g1⟩; replace HL := Lib.hid (HL.out.kept g1); replace HE := Lib.hid (HE.out.grew g1); replace HB := Lib.hid (HB.out.trans g1); clear g1)
    | (go_at_call 20; clear tk2; generalize hW : World.alloc _ _ = V; have hr : Row V (some ⟨w2.heap.size, 0, none⟩) 2 XE := (by subst hW; exact Row.of_own (OwR.lit encI w2 XE 2 w2.heap.size 52 _ rfl rfl (by decide) (Nat.le_refl _))); have hv : Grew w2 V := (by subst hW; exact (Grew.refl _).alloc _); clear hW; (with_reducible refine (start_ok _ 2 2 XE V hr rfl (by decide) (by decide)).mono ?_); rintro e w3 ⟨q, rfl, hm, hq, g1⟩; have EX := Lib.hid (exs_start HB.out HL.out HE.out hv hm hq g1 HE0.out); clear HB HL HE hr hv hm hq g1)
    | (go_at_call 23; clear tk3; (with_reducible refine (spend_ex 40 ⟨XE, 0, false, 0⟩ true EX.out mg0 (by decide) (by decide) ms3 mt3).mono ?_); rintro e W3 ⟨rfl, ex⟩; replace EX := Lib.hid ex; clear ex)
    | (go_at_call 23; clear tk4; (with_reducible refine (spend_ex 1 ⟨XE, 0, true, 1⟩ false EX.out mg1 (by decide) (by decide) ms4 mt4).mono ?_); rintro e W4 ⟨rfl, ex⟩; replace EX := Lib.hid ex; clear ex)
    | (go_at_call 25; clear tk5; (with_reducible refine (next_ex ⟨[(0, 5)], 0, false, 1⟩ 100 true EX.out mg2 nx5 no5 rfl).mono ?_); rintro e W5 ⟨rfl, ex⟩; replace EX := Lib.hid ex; clear ex)
    | (go_at_call 23; clear tk6; (with_reducible refine (spend_ex 1 ⟨[(0, 5)], 0, true, 2⟩ false EX.out mg3 (by decide) (by decide) ms6 mt6).mono ?_); rintro e W6 ⟨rfl, ex⟩; replace EX := Lib.hid ex; clear ex)
    | (go_at_call 25; clear tk7; (with_reducible refine (next_ex ⟨[], 0, false, 2⟩ 5 true EX.out mg4 nx7 no7 rfl).mono ?_); rintro e W7 ⟨rfl, ex⟩; replace EX := Lib.hid ex; clear ex)
    | (go_at_call 29; clear tk8; (with_reducible refine (first_ex _).mono ?_); rintro e w4 ⟨bA, oA, cA, p0, c0, b4, o4, c4, rfl, hp, g1⟩; replace EX := Lib.hid (EX.out.more hp g1); clear hp g1; have a1 : w4.cell? ⟨bA, oA, none⟩ = some (.slice p0 0 c0) := (EX.out.pins (⟨bA, oA, none⟩, .slice p0 0 c0) (by simp)).1; have a2 : w4.cell? ⟨bA, oA + 4, none⟩ = some (.slice (some ⟨b4, o4, none⟩) 2 c4) := (EX.out.pins (⟨bA, oA + 4, none⟩, .slice (some ⟨b4, o4, none⟩) 2 c4) (by simp)).1; have a3 : w4.cell? ⟨b4, o4 + 2, none⟩ = some (.int .i64 1) := (EX.out.pins (⟨b4, o4 + 2, none⟩, .int .i64 1) (by simp)).1; have a4 : w4.cell? ⟨b4, o4 + 3, none⟩ = some (.int .i64 7) := (EX.out.pins (⟨b4, o4 + 3, none⟩, .int .i64 7) (by simp)).1; have c1 : w4.cell? ⟨b, o, none⟩ = some (.int .i64 40) := (EX.out.pins (⟨b, o, none⟩, .int .i64 40) (by simp)).1; have c2 : w4.cell? ⟨b, o + 1, none⟩ = some (.int .i64 100) := (EX.out.pins (⟨b, o + 1, none⟩, .int .i64 100) (by simp)).1; have c3 : w4.cell? ⟨b, o + 2, none⟩ = some (.int .i64 0) := (EX.out.pins (⟨b, o + 2, none⟩, .int .i64 0) (by simp)).1; have c4 : w4.cell? ⟨b, o + 3, none⟩ = some (.int .i64 5) := (EX.out.pins (⟨b, o + 3, none⟩, .int .i64 5) (by simp)).1;)
    | (go_at_call 23; clear tk9; clear a1 a2 a3 a4 c1 c2 c3 c4; (with_reducible refine (spend_ex 1073741824 ⟨[], 0, false, 2⟩ true EX.out mg5 (by decide) (by decide) ms9 mt9).mono ?_); rintro e W9 ⟨rfl, ex⟩; replace EX := Lib.hid ex; clear ex; have a1 : W9.cell? ⟨bA, oA, none⟩ = some (.slice p0 0 c0) := (EX.out.pins (⟨bA, oA, none⟩, .slice p0 0 c0) (by simp)).1; have a2 : W9.cell? ⟨bA, oA + 4, none⟩ = some (.slice (some ⟨b4, o4, none⟩) 2 c4) := (EX.out.pins (⟨bA, oA + 4, none⟩, .slice (some ⟨b4, o4, none⟩) 2 c4) (by simp)).1; have a3 : W9.cell? ⟨b4, o4 + 2, none⟩ = some (.int .i64 1) := (EX.out.pins (⟨b4, o4 + 2, none⟩, .int .i64 1) (by simp)).1; have a4 : W9.cell? ⟨b4, o4 + 3, none⟩ = some (.int .i64 7) := (EX.out.pins (⟨b4, o4 + 3, none⟩, .int .i64 7) (by simp)).1; have c1 : W9.cell? ⟨b, o, none⟩ = some (.int .i64 40) := (EX.out.pins (⟨b, o, none⟩, .int .i64 40) (by simp)).1; have c2 : W9.cell? ⟨b, o + 1, none⟩ = some (.int .i64 100) := (EX.out.pins (⟨b, o + 1, none⟩, .int .i64 100) (by simp)).1; have c3 : W9.cell? ⟨b, o + 2, none⟩ = some (.int .i64 0) := (EX.out.pins (⟨b, o + 2, none⟩, .int .i64 0) (by simp)).1; have c4 : W9.cell? ⟨b, o + 3, none⟩ = some (.int .i64 5) := (EX.out.pins (⟨b, o + 3, none⟩, .int .i64 5) (by simp)).1;)
    | (go_at_call 27; clear tk10; (with_reducible refine (left_any q _ _ EX.out.mt).mono ?_); rintro e w5 ⟨rfl, rfl⟩)
    | (go_at_call 28; clear tk11; (with_reducible refine (periods_any q _ _ EX.out.mt).mono ?_); rintro e w6 ⟨rfl, rfl⟩)
    | (go_at_call 31; clear tk12; clear a1 a2 a3 a4 c1 c2 c3 c4; (with_reducible refine (count_ex _).mono ?_); rintro e w7 ⟨rfl, g1⟩; replace EX := Lib.hid (EX.out.grown g1); clear g1)
    | (go_at_call 12; clear tk13; generalize hW : World.alloc _ _ = V; have hv : Grew w7 V := (by subst hW; exact (Grew.refl _).alloc _); have hr : Rw 2 itc V (some ⟨w7.heap.size, 0, none⟩) 2 [((3 : Int), (4 : Int)), (5, 6)] := (by subst hW; exact Rw.made encI w7 _ 2 _ _ _ rfl rfl (by decide)); clear hW; replace EX := Lib.hid (EX.out.grown hv); clear hv; (with_reducible refine (format_ex _ _ hr EX.out.env).mono ?_); rintro e w8 ⟨rfl, g1⟩; replace EX := Lib.hid (EX.out.grown g1); clear g1 hr))
  go_ret
  exact ⟨rfl, EX.out.grew⟩
end Go.Proofs.YtapgpdgbdmnkgaaDoor
