/-
  LAYER 10 (sensor): the statements' examples; what made gives.
-/
import Derived.Test.YtaehlpdnjfblbaaDoorSeRParse
namespace Go.Proofs.YtaehlpdnjfblbaaDoor
open Go Go.RowKit Go.IntWalk
open Go.Lib (itoa)
set_option linter.unusedSimpArgs false
set_option linter.unusedVariables false
set_option maxRecDepth 8000

theorem Rw.grew {α : Type} {k : Nat} {enc : α → List Value} {w w' : World} {p : Option Addr} {c : Nat} {xs : List α} (h : Rw k enc w p c xs) (hg : Grew w w') : Rw k enc w' p c xs := h.kept hg
theorem changes_rd (p : Option Addr) (n c : Nat) (xs : List It) (w : World) (h : Rw 2 itc w p c xs) (hn : xs.length = n) (hl : n ≤ 140737488355328 / 32) :
    Calls Tryd.prog 13 #[.slice p n c] w fun e w' => ∃ p' c', e = .returned (.slice p' n c') ∧ Rw 2 itc w' p' c' xs ∧ Grew w w' :=
  (changes_any p n c xs w h hn hl).mono fun _ _ ⟨p', c', h1, h2, h3⟩ => ⟨p', c', h1, (OwR.rd encI h2).2, h3⟩
theorem chg_rd (t : Nat) (xs : List It) (w : World) (h : TrR t xs w) (hl : xs.length ≤ 100000) :
    Calls Tryd.prog 14 #[.pointer (some ⟨t, 0, none⟩)] w fun e w' => ∃ p' c', e = .returned (.slice p' xs.length c') ∧ Rw 2 itc w' p' c' xs ∧ Grew w w' :=
  (chg_any t xs w h hl).mono fun _ _ ⟨p', c', h1, h2, h3⟩ => ⟨p', c', h1, (OwR.rd encI h2).2, h3⟩
abbrev XE : List It := [(5, 20), (9, -3)]
theorem xe_text : fmtT XE = [53, 32, 50, 48, 10, 57, 32, 45, 51, 10] := by
  have h20 : Lib.decDigits 20 = [50, 48] := Lib.decDigits_two (by omega) (by omega)
  have h5 : Lib.decDigits 5 = [53] := Lib.decDigits_one (by omega)
  have h9 : Lib.decDigits 9 = [57] := Lib.decDigits_one (by omega)
  have h3 : Lib.decDigits 3 = [51] := Lib.decDigits_one (by omega)
  have e5 : itoa 5 = [53] := h5
  have e20 : itoa 20 = [50, 48] := h20
  have e9 : itoa 9 = [57] := h9
  have e3 : itoa (-3) = [45, 51] := congrArg (45 :: ·) h3
  unfold XE fmtT lineT
  simp only [List.flatMap_cons, List.flatMap_nil, e5, e20, e9, e3]
  rfl
theorem xe_good : good XE := ⟨rfl, fun x hx => by
  rcases List.mem_cons.1 hx with rfl | hx
  · decide
  · rw [List.mem_singleton.1 hx]; decide⟩
theorem parse_ex (w : World) (he : Env w) : Calls Tryd.prog 20 #[.string ⟨#[53, 32, 50, 48, 10, 57, 32, 45, 51, 10]⟩] w fun e w' => ∃ t, e = .returned (.tuple #[.pointer (some ⟨t, 0, none⟩), .int .i64 0, .int .i64 0]) ∧ TrR t XE w' ∧ Grew w w' :=
  (parse_any [53, 32, 50, 48, 10, 57, 32, 45, 51, 10] (by decide) w he).mono fun e w' ⟨L, r, h1, h2, h3⟩ => by
    have h4 := Ends.fmt xe_good
    rw [xe_text] at h4
    obtain ⟨rfl, rfl⟩ := h1.one h4
    rcases h2 with ⟨_, t, h5, h6⟩ | ⟨h5, _⟩
    · exact ⟨t, h5, h6.rd, h3⟩
    · exact absurd rfl h5
theorem next_ex (t : Nat) (w : World) (h : TrR t XE w) : Calls Tryd.prog 15 #[.pointer (some ⟨t, 0, none⟩), .int .i64 5] w fun e w' => e = .returned (.tuple #[.agg #[.int .i64 9, .int .i16 (-3)], .bool true]) ∧ Grew w w' :=
  next_any t XE 5 w h rfl (by decide)
theorem at_ex (t : Nat) (T v : Int) (hv : valAt XE T = v) (w : World) (h : TrR t XE w) : Calls Tryd.prog 17 #[.pointer (some ⟨t, 0, none⟩), .int .i64 T] w fun e w' => e = .returned (.int .i16 v) ∧ Grew w w' :=
  hv ▸ at_any t XE T w h rfl (by decide)
set_option maxHeartbeats 2000000 in
theorem examples_any (w : World) (he : Env w) : Calls Tryd.prog 11 #[] w fun e w' => e = .returned (.bool true) ∧ Grew w w' := by
  have HE := Lib.hid he
  clear he
  have HB := Lib.hid (Grew.refl w)
  have tk0 := Lib.hid trivial
  have tk1 := Lib.hid trivial
  have tk2 := Lib.hid trivial
  have tk3 := Lib.hid trivial
  have tk4 := Lib.hid trivial
  have tk5 := Lib.hid trivial
  go_enter Tryd.func11, Tryd.ntmps11
  go_wp2_with (first
    | (go_at_call 20; clear tk0; (with_reducible refine (parse_ex _ HE.out).mono ?_); rintro e w1 ⟨t, rfl, ht, g1⟩; replace HE := Lib.hid (HE.out.grew g1); replace HB := Lib.hid (HB.out.trans g1); clear g1; have HT := Lib.hid ht; clear ht)
    | (go_at_call 15; clear tk1; (with_reducible refine (next_ex t _ HT.out).mono ?_); rintro e w2 ⟨rfl, g1⟩; replace HE := Lib.hid (HE.out.grew g1); replace HT := Lib.hid (HT.out.grew g1); replace HB := Lib.hid (HB.out.trans g1); clear g1)
    | (go_at_call 17; clear tk2; generalize hW : World.alloc _ _ = V; have x : Blk (w2.heap.size) [.int .i64 9, .int .i16 (-3)] 34 V := (by subst hW; exact Blk.grew (w := (w2.alloc (.cells #[.int .i64 9, .int .i16 (-3)] 34))) (by simpa using Blk.new w2 [.int .i64 9, .int .i16 (-3)] 34) (by repeat (first | with_reducible exact Grew.refl _ | with_reducible refine Grew.alloc ?_ _ | with_reducible refine Grew.drw ?_ | with_reducible refine Grew.drwN ?_ _ | with_reducible refine Grew.sc ?_ (by first | omega | (simp <;> omega)) _ _))); have hv : Grew w2 V := (by subst hW; repeat (first | with_reducible exact Grew.refl _ | with_reducible refine Grew.alloc ?_ _ | with_reducible refine Grew.drw ?_ | with_reducible refine Grew.drwN ?_ _ | with_reducible refine Grew.sc ?_ (by first | omega | (simp <;> omega)) _ _)); clear hW; replace HE := Lib.hid (HE.out.grew hv); replace HT := Lib.hid (HT.out.grew hv); replace HB := Lib.hid (HB.out.trans hv); clear hv; (with_reducible refine (at_ex t 4 0 rfl _ HT.out).mono ?_); rintro e w3 ⟨rfl, g1⟩; replace x := x.grew g1; replace HE := Lib.hid (HE.out.grew g1); replace HT := Lib.hid (HT.out.grew g1); replace HB := Lib.hid (HB.out.trans g1); clear g1; have x0 := x.cell 0; have x1 := x.cell 1; have xf := x.free; have xl := x.lt; simp only [List.getElem?_cons_zero, List.getElem?_cons_succ] at x0 x1 xl)
    | (go_at_call 17; clear tk3; (with_reducible refine (at_ex t 5 20 rfl _ HT.out).mono ?_); rintro e w4 ⟨rfl, g1⟩; clear x0 x1 xf xl; replace x := x.grew g1; replace HE := Lib.hid (HE.out.grew g1); replace HT := Lib.hid (HT.out.grew g1); replace HB := Lib.hid (HB.out.trans g1); clear g1; have x0 := x.cell 0; have x1 := x.cell 1; have xf := x.free; have xl := x.lt; simp only [List.getElem?_cons_zero, List.getElem?_cons_succ] at x0 x1 xl)
    | (go_at_call 17; clear tk4; (with_reducible refine (at_ex t 8 20 rfl _ HT.out).mono ?_); rintro e w5 ⟨rfl, g1⟩; clear x0 x1 xf xl; replace x := x.grew g1; replace HE := Lib.hid (HE.out.grew g1); replace HT := Lib.hid (HT.out.grew g1); replace HB := Lib.hid (HB.out.trans g1); clear g1; have x0 := x.cell 0; have x1 := x.cell 1; have xf := x.free; have xl := x.lt; simp only [List.getElem?_cons_zero, List.getElem?_cons_succ] at x0 x1 xl)
    | (go_at_call 17; clear tk5; (with_reducible refine (at_ex t 9 (-3) rfl _ HT.out).mono ?_); rintro e w6 ⟨rfl, g1⟩; clear x0 x1 xf xl; replace x := x.grew g1; replace HE := Lib.hid (HE.out.grew g1); replace HT := Lib.hid (HT.out.grew g1); replace HB := Lib.hid (HB.out.trans g1); clear g1; have x0 := x.cell 0; have x1 := x.cell 1; have xf := x.free; have xl := x.lt; simp only [List.getElem?_cons_zero, List.getElem?_cons_succ] at x0 x1 xl))
  go_ret
  exact ⟨rfl, HB.out⟩
theorem new_ok (p : Option Addr) (n c : Nat) (xs : List It) (w : World) (h : Rw 2 itc w p c xs) (hn : xs.length = n) (hl : n ≤ 100000) (ha : asc (-1) xs = true) :
    Calls Tryd.prog 25 #[.slice p n c] w fun e w' => ∃ t, e = .returned (.tuple #[.pointer (some ⟨t, 0, none⟩), .int .i64 0]) ∧ Tr w.heap.size t xs w' ∧ Grew w w' :=
  (new_any p n c xs w h hn hl).mono fun _ _ ⟨h1, h2⟩ => by
    rcases h1 with ⟨_, t, h3, h4⟩ | ⟨h3, _⟩
    · exact ⟨t, h3, h4, h2⟩
    · rw [ha] at h3; cases h3
theorem new_rd (p : Option Addr) (n c : Nat) (xs : List It) (w : World) (h : Rw 2 itc w p c xs) (hn : xs.length = n) (hl : n ≤ 100000) (ha : asc (-1) xs = true) :
    Calls Tryd.prog 25 #[.slice p n c] w fun e w' => ∃ t, e = .returned (.tuple #[.pointer (some ⟨t, 0, none⟩), .int .i64 0]) ∧ TrR t xs w' ∧ Grew w w' :=
  (new_ok p n c xs w h hn hl ha).mono fun _ _ ⟨t, h1, h2, h3⟩ => ⟨t, h1, h2.rd, h3⟩
theorem new_no (p : Option Addr) (n c : Nat) (xs : List It) (w : World) (h : Rw 2 itc w p c xs) (hn : xs.length = n) (hl : n ≤ 100000) (ha : asc (-1) xs = false) :
    Calls Tryd.prog 25 #[.slice p n c] w fun e w' => e = .returned (.tuple #[.pointer none, .int .i64 1]) ∧ Grew w w' :=
  (new_any p n c xs w h hn hl).mono fun _ _ ⟨h1, h2⟩ => by
    rcases h1 with ⟨h3, _⟩ | ⟨_, h3⟩
    · rw [ha] at h3; cases h3
    · exact ⟨h3, h2⟩
theorem rvalid_is (p : Option Addr) (n c : Nat) (xs : List It) (w : World) (b : Bool) (h : Rw 2 itc w p c xs) (hn : xs.length = n) (ha : asc (-1) xs = b) :
    Calls Tryd.prog 24 #[.slice p n c] w fun e w' => e = .returned (.bool b) ∧ Grew w w' := ha ▸ rvalid_any p n c xs w h hn
theorem made_big (p : Option Addr) (n c : Nat) (w : World) (hl : 60 < n) : Calls Tryd.prog 10 #[.slice p n c] w fun e w' => e = .returned (.tuple #[.pointer none, .bool true]) ∧ Grew w w' := by
  go_enter Tryd.func10, Tryd.ntmps10
  go_wp2
  refine bodyPost_ret (v := .tuple #[.pointer none, .bool true]) (by simp [results, Tryd.results10, go_sem]) rfl ?_
  exact ⟨rfl, Grew.refl _⟩
set_option maxHeartbeats 2000000 in
theorem made_bad (p : Option Addr) (n c : Nat) (xs : List It) (w : World) (h : Rw 2 itc w p c xs) (hn : xs.length = n) (hl : n ≤ 60) (ha : asc (-1) xs = false) :
    Calls Tryd.prog 10 #[.slice p n c] w fun e w' => e = .returned (.tuple #[.pointer none, .bool true]) ∧ Grew w w' := by
  subst hn
  have HX := Lib.hid h
  have HA := Lib.hid ha
  clear h ha
  have HB := Lib.hid (Grew.refl w)
  have tk0 := Lib.hid trivial
  have tk1 := Lib.hid trivial
  have tk2 := Lib.hid trivial
  go_enter Tryd.func10, Tryd.ntmps10
  go_wp2_with (first
    | (at_builtin; refine wpList_append_row encI rfl _ _ 22 rfl w.heap.size 34 (itv (0, 0)) 16 Tryd.underlying22 infoC rfl _ [] rfl (OwR.lit encI w [] 0 _ _ _ rfl rfl (by omega) (Nat.le_refl _)) _ _ c xs rfl rfl (HX.out.kept ((Grew.refl _).alloc _)) (by simp; omega) (by simp; omega) (by simp) ?_; intro p2 c2 zs2 w3 hz2 ho2 hb2 hc2; obtain rfl : xs = zs2 := (by simpa using hz2.out.symm); have HO2 := Lib.hid (OwR.rd encI ho2).2; replace HB := Lib.hid (((Grew.refl w).alloc _).below hb2); replace HX := Lib.hid (HX.out.grew (((Grew.refl w).alloc _).below hb2)); clear ho2 hb2 hc2)
    | (go_at_call 25; clear tk0; (with_reducible refine (new_no _ _ _ xs _ HO2.out rfl (by omega) HA.out).mono ?_); rintro e w1 ⟨rfl, g1⟩; replace HX := Lib.hid (HX.out.grew g1); replace HB := Lib.hid (HB.out.trans g1); clear g1)
    | (go_at_call 13; clear tk1; (with_reducible refine (changes_rd p _ c xs _ HX.out rfl (by omega)).mono ?_); rintro e w2 ⟨q2, d2, rfl, hr, g1⟩; replace HX := Lib.hid (HX.out.grew g1); replace HB := Lib.hid (HB.out.trans g1); clear g1; have HR := Lib.hid hr; clear hr)
    | (go_at_call 24; clear tk2; (with_reducible refine (rvalid_is _ _ _ xs _ false HR.out rfl HA.out).mono ?_); rintro e w3 ⟨rfl, g1⟩; replace HX := Lib.hid (HX.out.grew g1); replace HR := Lib.hid (HR.out.grew g1); replace HB := Lib.hid (HB.out.trans g1); clear g1))
  refine bodyPost_ret (v := .tuple #[.pointer none, .bool true]) (by simp [results, Tryd.results10, go_sem]) rfl ?_
  exact ⟨rfl, HB.out⟩
set_option maxHeartbeats 2000000 in
theorem made_ok (p : Option Addr) (n c : Nat) (xs : List It) (w : World) (h : Rw 2 itc w p c xs) (hn : xs.length = n) (hl : n ≤ 60) (ha : asc (-1) xs = true) :
    Calls Tryd.prog 10 #[.slice p n c] w fun e w' => ∃ t, e = .returned (.tuple #[.pointer (some ⟨t, 0, none⟩), .bool true]) ∧ TrR t xs w' ∧ Grew w w' := by
  subst hn
  have HX := Lib.hid h
  have HA := Lib.hid ha
  clear h ha
  have HB := Lib.hid (Grew.refl w)
  have tk0 := Lib.hid trivial
  have tk1 := Lib.hid trivial
  have tk2 := Lib.hid trivial
  go_enter Tryd.func10, Tryd.ntmps10
  go_wp2_with (first
    | (at_builtin; refine wpList_append_row encI rfl _ _ 22 rfl w.heap.size 34 (itv (0, 0)) 16 Tryd.underlying22 infoC rfl _ [] rfl (OwR.lit encI w [] 0 _ _ _ rfl rfl (by omega) (Nat.le_refl _)) _ _ c xs rfl rfl (HX.out.kept ((Grew.refl _).alloc _)) (by simp; omega) (by simp; omega) (by simp) ?_; intro p2 c2 zs2 w3 hz2 ho2 hb2 hc2; obtain rfl : xs = zs2 := (by simpa using hz2.out.symm); have HO2 := Lib.hid (OwR.rd encI ho2).2; replace HB := Lib.hid (((Grew.refl w).alloc _).below hb2); replace HX := Lib.hid (HX.out.grew (((Grew.refl w).alloc _).below hb2)); clear ho2 hb2 hc2)
    | (go_at_call 25; clear tk0; (with_reducible refine (new_rd _ _ _ xs _ HO2.out rfl (by omega) HA.out).mono ?_); rintro e w1 ⟨t, rfl, ht, g1⟩; replace HX := Lib.hid (HX.out.grew g1); replace HB := Lib.hid (HB.out.trans g1); clear g1; have HT := Lib.hid ht; clear ht)
    | (go_at_call 13; clear tk1; (with_reducible refine (changes_rd p _ c xs _ HX.out rfl (by omega)).mono ?_); rintro e w2 ⟨q2, d2, rfl, hr, g1⟩; replace HX := Lib.hid (HX.out.grew g1); replace HT := Lib.hid (HT.out.grew g1); replace HB := Lib.hid (HB.out.trans g1); clear g1; have HR := Lib.hid hr; clear hr)
    | (go_at_call 24; clear tk2; (with_reducible refine (rvalid_is _ _ _ xs _ true HR.out rfl HA.out).mono ?_); rintro e w3 ⟨rfl, g1⟩; replace HX := Lib.hid (HX.out.grew g1); replace HT := Lib.hid (HT.out.grew g1); replace HR := Lib.hid (HR.out.grew g1); replace HB := Lib.hid (HB.out.trans g1); clear g1))
  refine bodyPost_ret (v := .tuple #[.pointer (some ⟨t, 0, none⟩), .bool true]) (by simp [results, Tryd.results10, go_sem]) rfl ?_
  exact ⟨t, rfl, HT.out, HB.out⟩
theorem made_none (p : Option Addr) (n c : Nat) (xs : List It) (w : World) (h : Rw 2 itc w p c xs) (hn : xs.length = n) (hb : 60 < n ∨ asc (-1) xs = false) :
    Calls Tryd.prog 10 #[.slice p n c] w fun e w' => e = .returned (.tuple #[.pointer none, .bool true]) ∧ Grew w w' := by
  by_cases hl : 60 < n
  · exact made_big p n c w hl
  · exact made_bad p n c xs w h hn (by omega) (hb.resolve_left hl)
end Go.Proofs.YtaehlpdnjfblbaaDoor
