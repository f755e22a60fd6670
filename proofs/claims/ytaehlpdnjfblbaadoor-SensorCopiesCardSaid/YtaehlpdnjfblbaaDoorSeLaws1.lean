/-
  THE STATEMENTS OF LAYER 10 (sensor), WALKED: New, At, Format, Parse.
-/
import Derived.Test.YtaehlpdnjfblbaaDoorSeEx
namespace Go.Proofs.YtaehlpdnjfblbaaDoor
open Go Go.RowKit Go.IntWalk
open Go.Lib (itoa)
set_option linter.unusedSimpArgs false
set_option linter.unusedVariables false
set_option maxRecDepth 8000

theorem same_self (p : Option Addr) (n c : Nat) (q : Option Addr) (m d : Nat) (xs : List It) (w : World) (h : Rw 2 itc w p c xs) (hn : xs.length = n) (h' : Rw 2 itc w q d xs) (hm : xs.length = m) :
    Calls Tryd.prog 12 #[.slice p n c, .slice q m d] w fun e w' => e = .returned (.bool true) ∧ Grew w w' := by
  have := same_any p n c xs q m d xs w h hn h' hm
  rwa [decide_eq_true rfl] at this
theorem next_is (t : Nat) (xs : List It) (time : Int) (y : It) (b : Bool) (hy : nxt xs time = (y, b)) (w : World) (h : TrR t xs w) (ha : asc (-1) xs = true) (hl : xs.length ≤ 100000) :
    Calls Tryd.prog 15 #[.pointer (some ⟨t, 0, none⟩), .int .i64 time] w fun e w' => e = .returned (.tuple #[itv y, .bool b]) ∧ Grew w w' := by
  have := next_any t xs time w h ha hl
  rwa [hy] at this
theorem rnext_is (p : Option Addr) (n c : Nat) (xs : List It) (time : Int) (y : It) (b : Bool) (hy : nxt xs time = (y, b)) (w : World) (h : Rw 2 itc w p c xs) (hn : xs.length = n) (ha : asc (-1) xs = true) :
    Calls Tryd.prog 16 #[.slice p n c, .int .i64 time] w fun e w' => e = .returned (.tuple #[itv y, .bool b]) ∧ Grew w w' := by
  have := rnext_any p n c xs time w h hn ha
  rwa [hy] at this
theorem at_is (t : Nat) (xs : List It) (time v : Int) (hv : valAt xs time = v) (w : World) (h : TrR t xs w) (ha : asc (-1) xs = true) (hl : xs.length ≤ 100000) :
    Calls Tryd.prog 17 #[.pointer (some ⟨t, 0, none⟩), .int .i64 time] w fun e w' => e = .returned (.int .i16 v) ∧ Grew w w' := hv ▸ at_any t xs time w h ha hl
theorem rat_is (p : Option Addr) (n c : Nat) (xs : List It) (time v : Int) (hv : valAt xs time = v) (w : World) (h : Rw 2 itc w p c xs) (hn : xs.length = n) (ha : asc (-1) xs = true) :
    Calls Tryd.prog 18 #[.slice p n c, .int .i64 time] w fun e w' => e = .returned (.int .i16 v) ∧ Grew w w' := hv ▸ rat_any p n c xs time w h hn ha
/-- Every text holds lines of changes, and then nothing or an invalid line. -/
theorem ends_from : ∀ (n : Nat) (L : List It) (r : List UInt8), r.length ≤ n → good L → ∃ L' r', Ends (fmtT L ++ r) L' r' := by
  intro n
  induction n with
  | zero =>
    intro L r hr hg
    obtain rfl : r = [] := List.eq_nil_of_length_eq_zero (by omega)
    exact ⟨L, [], rfl, hg, .inl rfl⟩
  | succ n ih =>
    intro L r hr hg
    by_cases hb : Bad L r
    · exact ⟨L, r, rfl, hg, .inr hb⟩
    · have : ∃ x t, r = lineT x ++ 10 :: t ∧ good (L ++ [x]) := Classical.byContradiction fun hc => hb fun x t e hg' => hc ⟨x, t, e, hg'⟩
      obtain ⟨x, t, rfl, hg'⟩ := this
      obtain ⟨L', r', h⟩ := ih (L ++ [x]) t (by simp at hr; omega) hg'
      refine ⟨L', r', ?_⟩
      rw [fmtT_snoc] at h
      simpa using h
theorem ends_exists (l : List UInt8) : ∃ L r, Ends l L r := by
  have := ends_from l.length [] l (Nat.le_refl _) good_nil
  simpa [fmtT] using this
theorem parse_fmt (L : List It) (hl : L.length ≤ 300) (w : World) (he : Env w) (hg : good L) :
    Calls Tryd.prog 20 #[.string ⟨(fmtT L).toArray⟩] w fun e w' => ∃ t, e = .returned (.tuple #[.pointer (some ⟨t, 0, none⟩), .int .i64 0, .int .i64 0]) ∧ TrR t L w' ∧ Grew w w' :=
  (parse_any (fmtT L) (by have := fmtT_len hg.each; omega) w he).mono fun e w' ⟨L', r, h1, h2, h3⟩ => by
    obtain ⟨rfl, rfl⟩ := h1.one (Ends.fmt hg)
    rcases h2 with ⟨_, t, h5, h6⟩ | ⟨h5, _⟩
    · exact ⟨t, h5, h6.rd, h3⟩
    · exact absurd rfl h5
theorem parse_stop (l : List UInt8) (L : List It) (r : List UInt8) (hl : l.length ≤ 300) (hr : r ≠ []) (w : World) (he : Env w) (hd : Ends l L r) :
    Calls Tryd.prog 20 #[.string ⟨l.toArray⟩] w fun e w' => e = .returned (.tuple #[.pointer none, .int .i64 ((L.length : Int) + 1), .int .i64 2]) ∧ Grew w w' :=
  (parse_any l (by omega) w he).mono fun e w' ⟨L', r', h1, h2, h3⟩ => by
    obtain ⟨rfl, rfl⟩ := h1.one hd
    rcases h2 with ⟨h5, _⟩ | ⟨_, h5⟩
    · exact absurd h5 hr
    · exact ⟨h5, h3⟩
theorem rparse_fmt (L : List It) (hl : L.length ≤ 300) (w : World) (hg : good L) :
    Calls Tryd.prog 22 #[.string ⟨(fmtT L).toArray⟩] w fun e w' => ∃ p c, e = .returned (.tuple #[.slice p L.length c, .int .i64 0, .bool true]) ∧ Rw 2 itc w' p c L ∧ Grew w w' :=
  (rparse_any ⟨(fmtT L).toArray⟩ (by have := fmtT_len hg.each; show (fmtT L).length ≤ 50000; omega) w).mono fun e w' ⟨L', r, h1, h2, h3⟩ => by
    obtain ⟨rfl, rfl⟩ := h1.one (Ends.fmt hg)
    rcases h2 with ⟨_, p, c, h5, h6⟩ | ⟨h5, _⟩
    · exact ⟨p, c, h5, (OwR.rd encI h6).2, h3⟩
    · exact absurd rfl h5
theorem rparse_stop (l : List UInt8) (L : List It) (r : List UInt8) (hl : l.length ≤ 300) (hr : r ≠ []) (w : World) (hd : Ends l L r) :
    Calls Tryd.prog 22 #[.string ⟨l.toArray⟩] w fun e w' => e = .returned (.tuple #[.slice none 0 0, .int .i64 ((L.length : Int) + 1), .bool false]) ∧ Grew w w' :=
  (rparse_any ⟨l.toArray⟩ (by show l.length ≤ 50000; omega) w).mono fun e w' ⟨L', r', h1, h2, h3⟩ => by
    obtain ⟨rfl, rfl⟩ := Ends.one (s := l) h1 hd
    rcases h2 with ⟨h5, _⟩ | ⟨_, h5⟩
    · exact absurd h5 hr
    · exact ⟨h5, h3⟩
set_option maxHeartbeats 4000000 in
theorem new_law (p : Option Addr) (n c : Nat) (xs : List It) (w : World) (hn : xs.length = n) (hx : Rw 2 itc w p c xs) (hok : ∀ x ∈ xs, -32768 ≤ x.2 ∧ x.2 ≤ 32767) (he : Env w) :
    Calls Tryd.prog 3 #[.slice p n c] w fun e w' => e = .returned (.bool true) ∧ Grew w w' := by
  subst hn
  have HX := Lib.hid hx
  have HE := Lib.hid he
  by_cases hq : 60 < xs.length ∨ asc (-1) xs = false
  · have HQ := Lib.hid hq
    clear hq hx he hok
    have HB := Lib.hid (Grew.refl w)
    have tk0 := Lib.hid trivial
    have tk1 := Lib.hid trivial
    go_enter Tryd.func3, Tryd.ntmps3
    go_wp2_with (first
      | (go_at_call 10; clear tk0; (with_reducible refine (made_none p _ c xs _ HX.out rfl HQ.out).mono ?_); rintro e w1 ⟨rfl, g1⟩; replace HE := Lib.hid (HE.out.grew g1); replace HX := Lib.hid (HX.out.grew g1); replace HB := Lib.hid (HB.out.trans g1); clear g1)
      | (go_at_call 11; clear tk1; (with_reducible refine (examples_any _ HE.out).mono ?_); rintro e w2 ⟨rfl, g1⟩; replace HE := Lib.hid (HE.out.grew g1); replace HX := Lib.hid (HX.out.grew g1); replace HB := Lib.hid (HB.out.trans g1); clear g1))
    go_ret
    exact ⟨rfl, HB.out⟩
  · have h60 : xs.length ≤ 60 := by
      rcases Nat.lt_or_ge 60 xs.length with h | h
      · exact absurd (.inl h) hq
      · exact h
    have HQ : Hid (xs.length ≤ 60 ∧ asc (-1) xs = true) := Lib.hid ⟨h60, by
      cases h : asc (-1) xs with
      | true => rfl
      | false => exact absurd (.inr h) hq⟩
    have HGD : Hid (good xs) := Lib.hid ⟨HQ.out.2, hok⟩
    clear hq hx he hok
    have HB := Lib.hid (Grew.refl w)
    have tk0 := Lib.hid trivial
    have tk1 := Lib.hid trivial
    have tk2 := Lib.hid trivial
    have tk3 := Lib.hid trivial
    have tk4 := Lib.hid trivial
    have tk5 := Lib.hid trivial
    go_enter Tryd.func3, Tryd.ntmps3
    go_wp2_with (first
      | (go_at_call 10; clear tk0; (with_reducible refine (made_ok p _ c xs _ HX.out rfl HQ.out.1 HQ.out.2).mono ?_); rintro e w1 ⟨t, rfl, ht, g1⟩; replace HE := Lib.hid (HE.out.grew g1); replace HX := Lib.hid (HX.out.grew g1); replace HB := Lib.hid (HB.out.trans g1); clear g1; have HT := Lib.hid ht; clear ht)
      | (go_at_call 14; clear tk1; (with_reducible refine (chg_rd t xs _ HT.out (by omega)).mono ?_); rintro e w2 ⟨p1, c1, rfl, h1, g1⟩; replace HE := Lib.hid (HE.out.grew g1); replace HX := Lib.hid (HX.out.grew g1); replace HT := Lib.hid (HT.out.grew g1); replace HB := Lib.hid (HB.out.trans g1); clear g1; have H1 := Lib.hid h1; clear h1)
      | (go_at_call 13; clear tk2; (with_reducible refine (changes_rd _ _ _ xs _ H1.out rfl (by omega)).mono ?_); rintro e w3 ⟨p2, c2, rfl, h2, g1⟩; replace HE := Lib.hid (HE.out.grew g1); replace HX := Lib.hid (HX.out.grew g1); replace HT := Lib.hid (HT.out.grew g1); replace H1 := Lib.hid (H1.out.grew g1); replace HB := Lib.hid (HB.out.trans g1); clear g1; have H2 := Lib.hid h2; clear h2)
      | (go_at_call 13; clear tk3; (with_reducible refine (changes_rd _ _ _ xs _ HX.out rfl (by omega)).mono ?_); rintro e w4 ⟨p3, c3, rfl, h3, g1⟩; replace HE := Lib.hid (HE.out.grew g1); replace HX := Lib.hid (HX.out.grew g1); replace HT := Lib.hid (HT.out.grew g1); replace H1 := Lib.hid (H1.out.grew g1); replace H2 := Lib.hid (H2.out.grew g1); replace HB := Lib.hid (HB.out.trans g1); clear g1; have H3 := Lib.hid h3; clear h3)
      | (go_at_call 12; clear tk4; (with_reducible refine (same_self _ _ _ _ _ _ xs _ H2.out rfl H3.out rfl).mono ?_); rintro e w5 ⟨rfl, g1⟩; replace HE := Lib.hid (HE.out.grew g1); replace HX := Lib.hid (HX.out.grew g1); replace HT := Lib.hid (HT.out.grew g1); replace H1 := Lib.hid (H1.out.grew g1); replace H2 := Lib.hid (H2.out.grew g1); replace H3 := Lib.hid (H3.out.grew g1); replace HB := Lib.hid (HB.out.trans g1); clear g1)
      | (go_at_call 11; clear tk5; (with_reducible refine (examples_any _ HE.out).mono ?_); rintro e w6 ⟨rfl, g1⟩; replace HE := Lib.hid (HE.out.grew g1); replace HX := Lib.hid (HX.out.grew g1); replace HT := Lib.hid (HT.out.grew g1); replace H1 := Lib.hid (H1.out.grew g1); replace H2 := Lib.hid (H2.out.grew g1); replace H3 := Lib.hid (H3.out.grew g1); replace HB := Lib.hid (HB.out.trans g1); clear g1))
    go_ret
    exact ⟨rfl, HB.out⟩
set_option maxHeartbeats 4000000 in
theorem at_law (p : Option Addr) (n c : Nat) (xs : List It) (time : Int) (w : World) (hn : xs.length = n) (hx : Rw 2 itc w p c xs) (hok : ∀ x ∈ xs, -32768 ≤ x.2 ∧ x.2 ≤ 32767) (he : Env w) :
    Calls Tryd.prog 4 #[.slice p n c, .int .i64 time] w fun e w' => e = .returned (.bool true) ∧ Grew w w' := by
  subst hn
  have HX := Lib.hid hx
  have HE := Lib.hid he
  by_cases hq : 60 < xs.length ∨ asc (-1) xs = false
  · have HQ := Lib.hid hq
    clear hq hx he hok
    have HB := Lib.hid (Grew.refl w)
    have tk0 := Lib.hid trivial
    have tk1 := Lib.hid trivial
    go_enter Tryd.func4, Tryd.ntmps4
    go_wp2_with (first
      | (go_at_call 10; clear tk0; (with_reducible refine (made_none p _ c xs _ HX.out rfl HQ.out).mono ?_); rintro e w1 ⟨rfl, g1⟩; replace HE := Lib.hid (HE.out.grew g1); replace HX := Lib.hid (HX.out.grew g1); replace HB := Lib.hid (HB.out.trans g1); clear g1)
      | (go_at_call 11; clear tk1; (with_reducible refine (examples_any _ HE.out).mono ?_); rintro e w2 ⟨rfl, g1⟩; replace HE := Lib.hid (HE.out.grew g1); replace HX := Lib.hid (HX.out.grew g1); replace HB := Lib.hid (HB.out.trans g1); clear g1))
    go_ret
    exact ⟨rfl, HB.out⟩
  · have h60 : xs.length ≤ 60 := by
      rcases Nat.lt_or_ge 60 xs.length with h | h
      · exact absurd (.inl h) hq
      · exact h
    have HQ : Hid (xs.length ≤ 60 ∧ asc (-1) xs = true) := Lib.hid ⟨h60, by
      cases h : asc (-1) xs with
      | true => rfl
      | false => exact absurd (.inr h) hq⟩
    have HGD : Hid (good xs) := Lib.hid ⟨HQ.out.2, hok⟩
    obtain ⟨y, b, hy⟩ : ∃ y b, nxt xs time = (y, b) := ⟨_, _, rfl⟩
    have HN := Lib.hid hy
    obtain ⟨v, hv⟩ : ∃ v, valAt xs time = v := ⟨_, rfl⟩
    have HV := Lib.hid hv
    clear hy hv
    clear hq hx he hok
    have HB := Lib.hid (Grew.refl w)
    have tk0 := Lib.hid trivial
    have tk1 := Lib.hid trivial
    have tk2 := Lib.hid trivial
    have tk3 := Lib.hid trivial
    have tk4 := Lib.hid trivial
    have tk5 := Lib.hid trivial
    have tk6 := Lib.hid trivial
    have tk7 := Lib.hid trivial
    go_enter Tryd.func4, Tryd.ntmps4
    go_wp2_with (first
      | (go_at_call 10; clear tk0; (with_reducible refine (made_ok p _ c xs _ HX.out rfl HQ.out.1 HQ.out.2).mono ?_); rintro e w1 ⟨t, rfl, ht, g1⟩; replace HE := Lib.hid (HE.out.grew g1); replace HX := Lib.hid (HX.out.grew g1); replace HB := Lib.hid (HB.out.trans g1); clear g1; have HT := Lib.hid ht; clear ht)
      | (go_at_call 15; clear tk1; (with_reducible refine (next_is t xs time y b HN.out _ HT.out HQ.out.2 (by omega)).mono ?_); rintro e w2 ⟨rfl, g1⟩; replace HE := Lib.hid (HE.out.grew g1); replace HX := Lib.hid (HX.out.grew g1); replace HT := Lib.hid (HT.out.grew g1); replace HB := Lib.hid (HB.out.trans g1); clear g1)
      | (go_at_call 13; clear tk2; generalize hW : World.alloc _ _ = V; have bx : Blk (w2.heap.size) [.int .i64 y.1, .int .i16 y.2] 34 V := (by subst hW; exact Blk.grew (w := (w2.alloc (.cells #[.int .i64 y.1, .int .i16 y.2] 34))) (by simpa using Blk.new w2 [.int .i64 y.1, .int .i16 y.2] 34) (by repeat (first | with_reducible exact Grew.refl _ | with_reducible refine Grew.alloc ?_ _ | with_reducible refine Grew.drw ?_ | with_reducible refine Grew.drwN ?_ _ | with_reducible refine Grew.sc ?_ (by first | omega | (simp <;> omega)) _ _))); have hv : Grew w2 V := (by subst hW; repeat (first | with_reducible exact Grew.refl _ | with_reducible refine Grew.alloc ?_ _ | with_reducible refine Grew.drw ?_ | with_reducible refine Grew.drwN ?_ _ | with_reducible refine Grew.sc ?_ (by first | omega | (simp <;> omega)) _ _)); clear hW; replace HE := Lib.hid (HE.out.grew hv); replace HX := Lib.hid (HX.out.grew hv); replace HT := Lib.hid (HT.out.grew hv); replace HB := Lib.hid (HB.out.trans hv); clear hv; (with_reducible refine (changes_rd _ _ _ xs _ HX.out rfl (by omega)).mono ?_); rintro e w3 ⟨p1, c1, rfl, h1, g1⟩; replace bx := bx.grew g1; replace HE := Lib.hid (HE.out.grew g1); replace HX := Lib.hid (HX.out.grew g1); replace HT := Lib.hid (HT.out.grew g1); replace HB := Lib.hid (HB.out.trans g1); clear g1; have bx0 := bx.cell 0; have bx1 := bx.cell 1; have bxf := bx.free; have bxl := bx.lt; simp only [List.getElem?_cons_zero, List.getElem?_cons_succ] at bx0 bx1 bxl; have H1 := Lib.hid h1; clear h1)
      | (go_at_call 16; clear tk3; (with_reducible refine (rnext_is _ _ _ xs time y b HN.out _ H1.out rfl HQ.out.2).mono ?_); rintro e w4 ⟨rfl, g1⟩; clear bx0 bx1 bxf bxl; replace bx := bx.grew g1; replace HE := Lib.hid (HE.out.grew g1); replace HX := Lib.hid (HX.out.grew g1); replace HT := Lib.hid (HT.out.grew g1); replace H1 := Lib.hid (H1.out.grew g1); replace HB := Lib.hid (HB.out.trans g1); clear g1; have bx0 := bx.cell 0; have bx1 := bx.cell 1; have bxf := bx.free; have bxl := bx.lt; simp only [List.getElem?_cons_zero, List.getElem?_cons_succ] at bx0 bx1 bxl)
      | (go_at_call 17; clear tk4; generalize hW : World.alloc _ _ = V; have bz : Blk (w4.heap.size) [.int .i64 y.1, .int .i16 y.2] 37 V := (by subst hW; exact Blk.grew (w := (w4.alloc (.cells #[.int .i64 y.1, .int .i16 y.2] 37))) (by simpa using Blk.new w4 [.int .i64 y.1, .int .i16 y.2] 37) (by repeat (first | with_reducible exact Grew.refl _ | with_reducible refine Grew.alloc ?_ _ | with_reducible refine Grew.drw ?_ | with_reducible refine Grew.drwN ?_ _ | with_reducible refine Grew.sc ?_ (by first | omega | (simp <;> omega)) _ _))); have hv : Grew w4 V := (by subst hW; repeat (first | with_reducible exact Grew.refl _ | with_reducible refine Grew.alloc ?_ _ | with_reducible refine Grew.drw ?_ | with_reducible refine Grew.drwN ?_ _ | with_reducible refine Grew.sc ?_ (by first | omega | (simp <;> omega)) _ _)); clear hW; clear bx0 bx1 bxf bxl; replace bx := bx.grew hv; replace HE := Lib.hid (HE.out.grew hv); replace HX := Lib.hid (HX.out.grew hv); replace HT := Lib.hid (HT.out.grew hv); replace H1 := Lib.hid (H1.out.grew hv); replace HB := Lib.hid (HB.out.trans hv); clear hv; (with_reducible refine (at_is t xs time v HV.out _ HT.out HQ.out.2 (by omega)).mono ?_); rintro e w5 ⟨rfl, g1⟩; replace bx := bx.grew g1; replace bz := bz.grew g1; replace HE := Lib.hid (HE.out.grew g1); replace HX := Lib.hid (HX.out.grew g1); replace HT := Lib.hid (HT.out.grew g1); replace H1 := Lib.hid (H1.out.grew g1); replace HB := Lib.hid (HB.out.trans g1); clear g1; have bx0 := bx.cell 0; have bx1 := bx.cell 1; have bxf := bx.free; have bxl := bx.lt; simp only [List.getElem?_cons_zero, List.getElem?_cons_succ] at bx0 bx1 bxl; have bz0 := bz.cell 0; have bz1 := bz.cell 1; have bzf := bz.free; have bzl := bz.lt; simp only [List.getElem?_cons_zero, List.getElem?_cons_succ] at bz0 bz1 bzl)
      | (go_at_call 13; clear tk5; (with_reducible refine (changes_rd _ _ _ xs _ HX.out rfl (by omega)).mono ?_); rintro e w6 ⟨p2, c2, rfl, h2, g1⟩; clear bx0 bx1 bxf bxl; replace bx := bx.grew g1; clear bz0 bz1 bzf bzl; replace bz := bz.grew g1; replace HE := Lib.hid (HE.out.grew g1); replace HX := Lib.hid (HX.out.grew g1); replace HT := Lib.hid (HT.out.grew g1); replace H1 := Lib.hid (H1.out.grew g1); replace HB := Lib.hid (HB.out.trans g1); clear g1; have bx0 := bx.cell 0; have bx1 := bx.cell 1; have bxf := bx.free; have bxl := bx.lt; simp only [List.getElem?_cons_zero, List.getElem?_cons_succ] at bx0 bx1 bxl; have bz0 := bz.cell 0; have bz1 := bz.cell 1; have bzf := bz.free; have bzl := bz.lt; simp only [List.getElem?_cons_zero, List.getElem?_cons_succ] at bz0 bz1 bzl; have H2 := Lib.hid h2; clear h2)
      | (go_at_call 18; clear tk6; (with_reducible refine (rat_is _ _ _ xs time v HV.out _ H2.out rfl HQ.out.2).mono ?_); rintro e w7 ⟨rfl, g1⟩; clear bx0 bx1 bxf bxl; replace bx := bx.grew g1; clear bz0 bz1 bzf bzl; replace bz := bz.grew g1; replace HE := Lib.hid (HE.out.grew g1); replace HX := Lib.hid (HX.out.grew g1); replace HT := Lib.hid (HT.out.grew g1); replace H1 := Lib.hid (H1.out.grew g1); replace H2 := Lib.hid (H2.out.grew g1); replace HB := Lib.hid (HB.out.trans g1); clear g1; have bx0 := bx.cell 0; have bx1 := bx.cell 1; have bxf := bx.free; have bxl := bx.lt; simp only [List.getElem?_cons_zero, List.getElem?_cons_succ] at bx0 bx1 bxl; have bz0 := bz.cell 0; have bz1 := bz.cell 1; have bzf := bz.free; have bzl := bz.lt; simp only [List.getElem?_cons_zero, List.getElem?_cons_succ] at bz0 bz1 bzl)
      | (go_at_call 11; clear tk7; (with_reducible refine (examples_any _ HE.out).mono ?_); rintro e w8 ⟨rfl, g1⟩; clear bx0 bx1 bxf bxl; replace bx := bx.grew g1; clear bz0 bz1 bzf bzl; replace bz := bz.grew g1; replace HE := Lib.hid (HE.out.grew g1); replace HX := Lib.hid (HX.out.grew g1); replace HT := Lib.hid (HT.out.grew g1); replace H1 := Lib.hid (H1.out.grew g1); replace H2 := Lib.hid (H2.out.grew g1); replace HB := Lib.hid (HB.out.trans g1); clear g1; have bx0 := bx.cell 0; have bx1 := bx.cell 1; have bxf := bx.free; have bxl := bx.lt; simp only [List.getElem?_cons_zero, List.getElem?_cons_succ] at bx0 bx1 bxl; have bz0 := bz.cell 0; have bz1 := bz.cell 1; have bzf := bz.free; have bzl := bz.lt; simp only [List.getElem?_cons_zero, List.getElem?_cons_succ] at bz0 bz1 bzl))
    go_ret
    exact ⟨rfl, HB.out⟩
set_option maxHeartbeats 4000000 in
theorem format_law (p : Option Addr) (n c : Nat) (xs : List It) (w : World) (hn : xs.length = n) (hx : Rw 2 itc w p c xs) (hok : ∀ x ∈ xs, -32768 ≤ x.2 ∧ x.2 ≤ 32767) (he : Env w) :
    Calls Tryd.prog 5 #[.slice p n c] w fun e w' => e = .returned (.bool true) ∧ Grew w w' := by
  subst hn
  have HX := Lib.hid hx
  have HE := Lib.hid he
  by_cases hq : 60 < xs.length ∨ asc (-1) xs = false
  · have HQ := Lib.hid hq
    clear hq hx he hok
    have HB := Lib.hid (Grew.refl w)
    have tk0 := Lib.hid trivial
    have tk1 := Lib.hid trivial
    go_enter Tryd.func5, Tryd.ntmps5
    go_wp2_with (first
      | (go_at_call 10; clear tk0; (with_reducible refine (made_none p _ c xs _ HX.out rfl HQ.out).mono ?_); rintro e w1 ⟨rfl, g1⟩; replace HE := Lib.hid (HE.out.grew g1); replace HX := Lib.hid (HX.out.grew g1); replace HB := Lib.hid (HB.out.trans g1); clear g1)
      | (go_at_call 11; clear tk1; (with_reducible refine (examples_any _ HE.out).mono ?_); rintro e w2 ⟨rfl, g1⟩; replace HE := Lib.hid (HE.out.grew g1); replace HX := Lib.hid (HX.out.grew g1); replace HB := Lib.hid (HB.out.trans g1); clear g1))
    go_ret
    exact ⟨rfl, HB.out⟩
  · have h60 : xs.length ≤ 60 := by
      rcases Nat.lt_or_ge 60 xs.length with h | h
      · exact absurd (.inl h) hq
      · exact h
    have HQ : Hid (xs.length ≤ 60 ∧ asc (-1) xs = true) := Lib.hid ⟨h60, by
      cases h : asc (-1) xs with
      | true => rfl
      | false => exact absurd (.inr h) hq⟩
    have HGD : Hid (good xs) := Lib.hid ⟨HQ.out.2, hok⟩
    clear hq hx he hok
    have HB := Lib.hid (Grew.refl w)
    have tk0 := Lib.hid trivial
    have tk1 := Lib.hid trivial
    have tk2 := Lib.hid trivial
    have tk3 := Lib.hid trivial
    have tk4 := Lib.hid trivial
    have tk5 := Lib.hid trivial
    have tk6 := Lib.hid trivial
    have tk7 := Lib.hid trivial
    have tk8 := Lib.hid trivial
    have tk9 := Lib.hid trivial
    go_enter Tryd.func5, Tryd.ntmps5
    go_wp2_with (first
      | (go_at_call 10; clear tk0; (with_reducible refine (made_ok p _ c xs _ HX.out rfl HQ.out.1 HQ.out.2).mono ?_); rintro e w1 ⟨t, rfl, ht, g1⟩; replace HE := Lib.hid (HE.out.grew g1); replace HX := Lib.hid (HX.out.grew g1); replace HB := Lib.hid (HB.out.trans g1); clear g1; have HT := Lib.hid ht; clear ht)
      | (go_at_call 19; clear tk1; (with_reducible refine (format_any t xs _ HT.out HGD.out (by omega) HE.out).mono ?_); rintro e w2 ⟨rfl, g1⟩; replace HE := Lib.hid (HE.out.grew g1); replace HX := Lib.hid (HX.out.grew g1); replace HT := Lib.hid (HT.out.grew g1); replace HB := Lib.hid (HB.out.trans g1); clear g1)
      | (go_at_call 20; clear tk2; (with_reducible refine (parse_fmt xs (by omega) _ HE.out HGD.out).mono ?_); rintro e w3 ⟨u, rfl, hu, g1⟩; replace HE := Lib.hid (HE.out.grew g1); replace HX := Lib.hid (HX.out.grew g1); replace HT := Lib.hid (HT.out.grew g1); replace HB := Lib.hid (HB.out.trans g1); clear g1; have HU := Lib.hid hu; clear hu)
      | (go_at_call 13; clear tk3; (with_reducible refine (changes_rd _ _ _ xs _ HX.out rfl (by omega)).mono ?_); rintro e w4 ⟨p1, c1, rfl, h1, g1⟩; replace HE := Lib.hid (HE.out.grew g1); replace HX := Lib.hid (HX.out.grew g1); replace HT := Lib.hid (HT.out.grew g1); replace HU := Lib.hid (HU.out.grew g1); replace HB := Lib.hid (HB.out.trans g1); clear g1; have H1 := Lib.hid h1; clear h1)
      | (go_at_call 21; clear tk4; (with_reducible refine (rformat_any _ _ _ xs _ H1.out rfl HGD.out (by omega)).mono ?_); rintro e w5 ⟨rfl, g1⟩; replace HE := Lib.hid (HE.out.grew g1); replace HX := Lib.hid (HX.out.grew g1); replace HT := Lib.hid (HT.out.grew g1); replace HU := Lib.hid (HU.out.grew g1); replace H1 := Lib.hid (H1.out.grew g1); replace HB := Lib.hid (HB.out.trans g1); clear g1)
      | (go_at_call 14; clear tk5; (with_reducible refine (chg_rd u xs _ HU.out (by omega)).mono ?_); rintro e w6 ⟨p2, c2, rfl, h2, g1⟩; replace HE := Lib.hid (HE.out.grew g1); replace HX := Lib.hid (HX.out.grew g1); replace HT := Lib.hid (HT.out.grew g1); replace HU := Lib.hid (HU.out.grew g1); replace H1 := Lib.hid (H1.out.grew g1); replace HB := Lib.hid (HB.out.trans g1); clear g1; have H2 := Lib.hid h2; clear h2)
      | (go_at_call 13; clear tk6; (with_reducible refine (changes_rd _ _ _ xs _ H2.out rfl (by omega)).mono ?_); rintro e w7 ⟨p3, c3, rfl, h3, g1⟩; replace HE := Lib.hid (HE.out.grew g1); replace HX := Lib.hid (HX.out.grew g1); replace HT := Lib.hid (HT.out.grew g1); replace HU := Lib.hid (HU.out.grew g1); replace H1 := Lib.hid (H1.out.grew g1); replace H2 := Lib.hid (H2.out.grew g1); replace HB := Lib.hid (HB.out.trans g1); clear g1; have H3 := Lib.hid h3; clear h3)
      | (go_at_call 13; clear tk7; (with_reducible refine (changes_rd _ _ _ xs _ HX.out rfl (by omega)).mono ?_); rintro e w8 ⟨p4, c4, rfl, h4, g1⟩; replace HE := Lib.hid (HE.out.grew g1); replace HX := Lib.hid (HX.out.grew g1); replace HT := Lib.hid (HT.out.grew g1); replace HU := Lib.hid (HU.out.grew g1); replace H1 := Lib.hid (H1.out.grew g1); replace H2 := Lib.hid (H2.out.grew g1); replace H3 := Lib.hid (H3.out.grew g1); replace HB := Lib.hid (HB.out.trans g1); clear g1; have H4 := Lib.hid h4; clear h4)
      | (go_at_call 12; clear tk8; (with_reducible refine (same_self _ _ _ _ _ _ xs _ H3.out rfl H4.out rfl).mono ?_); rintro e w9 ⟨rfl, g1⟩; replace HE := Lib.hid (HE.out.grew g1); replace HX := Lib.hid (HX.out.grew g1); replace HT := Lib.hid (HT.out.grew g1); replace HU := Lib.hid (HU.out.grew g1); replace H1 := Lib.hid (H1.out.grew g1); replace H2 := Lib.hid (H2.out.grew g1); replace H3 := Lib.hid (H3.out.grew g1); replace H4 := Lib.hid (H4.out.grew g1); replace HB := Lib.hid (HB.out.trans g1); clear g1)
      | (go_at_call 11; clear tk9; (with_reducible refine (examples_any _ HE.out).mono ?_); rintro e w10 ⟨rfl, g1⟩; replace HE := Lib.hid (HE.out.grew g1); replace HX := Lib.hid (HX.out.grew g1); replace HT := Lib.hid (HT.out.grew g1); replace HU := Lib.hid (HU.out.grew g1); replace H1 := Lib.hid (H1.out.grew g1); replace H2 := Lib.hid (H2.out.grew g1); replace H3 := Lib.hid (H3.out.grew g1); replace H4 := Lib.hid (H4.out.grew g1); replace HB := Lib.hid (HB.out.trans g1); clear g1))
    go_ret
    exact ⟨rfl, HB.out⟩
set_option maxHeartbeats 4000000 in
theorem parse_law (s : ByteArray) (w : World) (he : Env w) :
    Calls Tryd.prog 6 #[.string s] w fun e w' => e = .returned (.bool true) ∧ Grew w w' := by
  have HE := Lib.hid he
  clear he
  by_cases hb : 300 < s.size
  · 
    have HB := Lib.hid (Grew.refl w)
    have tk0 := Lib.hid trivial
    go_enter Tryd.func6, Tryd.ntmps6
    go_wp2_with (first
      | (go_at_call 11; clear tk0; (with_reducible refine (examples_any _ HE.out).mono ?_); rintro e w1 ⟨rfl, g1⟩; replace HE := Lib.hid (HE.out.grew g1); replace HB := Lib.hid (HB.out.trans g1); clear g1))
    go_ret
    exact ⟨rfl, HB.out⟩
  · obtain ⟨l, rfl⟩ : ∃ l : List UInt8, s = ⟨l.toArray⟩ := ⟨s.data.toList, rfl⟩
    have hl : l.length ≤ 300 := by
      have : (⟨l.toArray⟩ : ByteArray).size = l.length := rfl
      omega
    obtain ⟨L, r, hd⟩ := ends_exists l
    clear hb
    by_cases hr : r = []
    · subst hr
      obtain rfl : l = fmtT L := by have := hd.1; simpa using this
      have hLl : L.length ≤ 300 := Nat.le_trans (fmtT_ge L) hl
      have HS : Hid (L.length ≤ 300) := Lib.hid hLl
      have HGD := Lib.hid hd.2.1
      clear hd
      have HB := Lib.hid (Grew.refl w)
      have tk0 := Lib.hid trivial
      have tk1 := Lib.hid trivial
      have tk2 := Lib.hid trivial
      have tk3 := Lib.hid trivial
      have tk4 := Lib.hid trivial
      have tk5 := Lib.hid trivial
      have tk6 := Lib.hid trivial
      go_enter Tryd.func6, Tryd.ntmps6
      go_wp2_with (first
        | (go_at_call 20; clear tk0; (with_reducible refine (parse_fmt L HS.out _ HE.out HGD.out).mono ?_); rintro e w1 ⟨t, rfl, ht, g1⟩; replace HE := Lib.hid (HE.out.grew g1); replace HB := Lib.hid (HB.out.trans g1); clear g1; have HT := Lib.hid ht; clear ht)
        | (go_at_call 22; clear tk1; (with_reducible refine (rparse_fmt L HS.out _ HGD.out).mono ?_); rintro e w2 ⟨p1, c1, rfl, h1, g1⟩; replace HE := Lib.hid (HE.out.grew g1); replace HT := Lib.hid (HT.out.grew g1); replace HB := Lib.hid (HB.out.trans g1); clear g1; have H1 := Lib.hid h1; clear h1)
        | (go_at_call 14; clear tk2; (with_reducible refine (chg_rd t L _ HT.out (by omega)).mono ?_); rintro e w3 ⟨p2, c2, rfl, h2, g1⟩; replace HE := Lib.hid (HE.out.grew g1); replace HT := Lib.hid (HT.out.grew g1); replace H1 := Lib.hid (H1.out.grew g1); replace HB := Lib.hid (HB.out.trans g1); clear g1; have H2 := Lib.hid h2; clear h2)
        | (go_at_call 13; clear tk3; (with_reducible refine (changes_rd _ _ _ L _ H2.out rfl (by omega)).mono ?_); rintro e w4 ⟨p3, c3, rfl, h3, g1⟩; replace HE := Lib.hid (HE.out.grew g1); replace HT := Lib.hid (HT.out.grew g1); replace H1 := Lib.hid (H1.out.grew g1); replace H2 := Lib.hid (H2.out.grew g1); replace HB := Lib.hid (HB.out.trans g1); clear g1; have H3 := Lib.hid h3; clear h3)
        | (go_at_call 12; clear tk4; (with_reducible refine (same_self _ _ _ _ _ _ L _ H3.out rfl H1.out rfl).mono ?_); rintro e w5 ⟨rfl, g1⟩; replace HE := Lib.hid (HE.out.grew g1); replace HT := Lib.hid (HT.out.grew g1); replace H1 := Lib.hid (H1.out.grew g1); replace H2 := Lib.hid (H2.out.grew g1); replace H3 := Lib.hid (H3.out.grew g1); replace HB := Lib.hid (HB.out.trans g1); clear g1)
        | (go_at_call 19; clear tk5; (with_reducible refine (format_any t L _ HT.out HGD.out (by omega) HE.out).mono ?_); rintro e w6 ⟨rfl, g1⟩; replace HE := Lib.hid (HE.out.grew g1); replace HT := Lib.hid (HT.out.grew g1); replace H1 := Lib.hid (H1.out.grew g1); replace H2 := Lib.hid (H2.out.grew g1); replace H3 := Lib.hid (H3.out.grew g1); replace HB := Lib.hid (HB.out.trans g1); clear g1)
        | (go_at_call 11; clear tk6; (with_reducible refine (examples_any _ HE.out).mono ?_); rintro e w7 ⟨rfl, g1⟩; replace HE := Lib.hid (HE.out.grew g1); replace HT := Lib.hid (HT.out.grew g1); replace H1 := Lib.hid (H1.out.grew g1); replace H2 := Lib.hid (H2.out.grew g1); replace H3 := Lib.hid (H3.out.grew g1); replace HB := Lib.hid (HB.out.trans g1); clear g1))
      go_ret
      exact ⟨rfl, HB.out⟩
    · have HS := Lib.hid hl
      have HNE := Lib.hid hr
      have HD := Lib.hid hd
      clear hd hr
      have HB := Lib.hid (Grew.refl w)
      have tk0 := Lib.hid trivial
      have tk1 := Lib.hid trivial
      have tk2 := Lib.hid trivial
      go_enter Tryd.func6, Tryd.ntmps6
      go_wp2_with (first
        | (go_at_call 20; clear tk0; (with_reducible refine (parse_stop _ L r HS.out HNE.out _ HE.out HD.out).mono ?_); rintro e w1 ⟨rfl, g1⟩; replace HE := Lib.hid (HE.out.grew g1); replace HB := Lib.hid (HB.out.trans g1); clear g1)
        | (go_at_call 22; clear tk1; (with_reducible refine (rparse_stop _ L r HS.out HNE.out _ HD.out).mono ?_); rintro e w2 ⟨rfl, g1⟩; replace HE := Lib.hid (HE.out.grew g1); replace HB := Lib.hid (HB.out.trans g1); clear g1)
        | (go_at_call 11; clear tk2; (with_reducible refine (examples_any _ HE.out).mono ?_); rintro e w3 ⟨rfl, g1⟩; replace HE := Lib.hid (HE.out.grew g1); replace HB := Lib.hid (HB.out.trans g1); clear g1))
      go_ret
      exact ⟨rfl, HB.out⟩
end Go.Proofs.YtaehlpdnjfblbaaDoor
