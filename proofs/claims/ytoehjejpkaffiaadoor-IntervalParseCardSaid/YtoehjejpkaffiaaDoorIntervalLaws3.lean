/-
  THE STATEMENTS OF LAYER 5 (interval) ON TEXTS, WALKED: each returns true, and nothing that was there before has changed.
-/
import Derived.Test.YtoehjejpkaffiaaDoorIntervalLaws
namespace Go.Proofs.YtoehjejpkaffiaaDoor
open Go.RowKit Go.IntWalk

theorem txt_len (x y : Int) : (txt x y).length ≤ 28 := by
  unfold txt
  split
  · rename_i h
    obtain ⟨a, b, c⟩ := va_iff.1 h
    have l1 := (decDigits_len x.toNat (by omega)).2
    have l2 := (decDigits_len y.toNat (by omega)).2
    unfold fmt
    split
    · omega
    · simp; omega
  · simp
theorem parse_txt_yes (x y : Int) (h : va x y = true) (w : World) (he : Env w) :
    Calls Tryd.prog 30 #[.string ⟨(txt x y).toArray⟩] w fun e w' => e = .returned (.tuple #[iv x y, .int .i64 0]) ∧ Grew w w' := by
  refine (parse_any ⟨(txt x y).toArray⟩ (by have := txt_len x y; show (txt x y).length ≤ _; omega) w he).mono ?_
  rintro e w' ⟨u, v, k, rfl, hp, hg⟩
  obtain ⟨rfl, rfl, rfl⟩ := (show ParsesTo (txt x y) x y 0 from .inl ⟨rfl, txt_spelt' h rfl⟩).one hp
  exact ⟨rfl, hg⟩
theorem parse_txt_no (x y : Int) (h : va x y = false) (w : World) (he : Env w) :
    Calls Tryd.prog 30 #[.string ⟨(txt x y).toArray⟩] w fun e w' => e = .returned (.tuple #[iv 0 0, .int .i64 2]) ∧ Grew w w' := by
  rw [txt_no x y h]
  refine (parse_any ⟨#[]⟩ (by decide) w he).mono ?_
  rintro e w' ⟨u, v, k, rfl, hp, hg⟩
  have h0 : ParsesTo [] 0 0 2 := .inr ⟨rfl, rfl, rfl, not_spelt1 fun v hv => by
    rw [piece1_nil] at hv
    unfold Lib.parseIntB at hv
    cases hv⟩
  obtain ⟨rfl, rfl, rfl⟩ := h0.one hp
  exact ⟨rfl, hg⟩
set_option maxRecDepth 20000 in
set_option maxHeartbeats 2000000 in
theorem text_walk (x y : Int) (w : World) (he : Env w) : Calls Tryd.prog 7 #[iv x y] w fun e w' => e = .returned (.bool true) ∧ Grew w w' := by
  have HE := Lib.hid he
  clear he
  have hg := Lib.hid (Grew.refl w)
  have tk0 := Lib.hid trivial
  have tk1 := Lib.hid trivial
  have tk2 := Lib.hid trivial
  have tk3 := Lib.hid trivial
  have tk4 := Lib.hid trivial
  cases h1 : va x y
  · go_enter Tryd.func7, Tryd.ntmps7
    go_wp2_with (first
      | (go_at_call 28; clear tk0; generalize hW : World.alloc _ _ = V; have ba : Box (w.heap.size) x y V := (by subst hW; exact ⟨by go_simp, by go_simp⟩); have hv : Grew w V := (by subst hW; repeat (first | with_reducible exact Grew.refl _ | with_reducible refine Grew.alloc ?_ _ | with_reducible refine Grew.drw ?_ | with_reducible refine Grew.drwN ?_ _)); clear hW; replace hg := Lib.hid (hg.out.trans hv); clear hv; (with_reducible refine (format_any _ _ _ (HE.out.grew hg.out)).mono ?_); rintro e w1 ⟨rfl, hg1⟩; replace ba := ba.grew hg1; replace hg := Lib.hid (hg.out.trans hg1); clear hg1; have ba0 := ba.c0; have ba1 := ba.c1; have bal : w.heap.size < w1.heap.size := World.block_lt_of_cell? _ _ ba0)
      | (go_at_call 13; clear tk1; (with_reducible refine (examples_any _ (HE.out.grew hg.out)).mono ?_); rintro e w2 ⟨rfl, hg1⟩; clear ba0 ba1 bal; replace ba := ba.grew hg1; replace hg := Lib.hid (hg.out.trans hg1); clear hg1; have ba0 := ba.c0; have ba1 := ba.c1; have bal : w.heap.size < w2.heap.size := World.block_lt_of_cell? _ _ ba0)
      | (go_at_call 29; clear tk2; (with_reducible refine (rformat_any _ _ _).mono ?_); rintro e w3 ⟨rfl, hg1⟩; clear ba0 ba1 bal; replace ba := ba.grew hg1; replace hg := Lib.hid (hg.out.trans hg1); clear hg1; have ba0 := ba.c0; have ba1 := ba.c1; have bal : w.heap.size < w3.heap.size := World.block_lt_of_cell? _ _ ba0)
      | (go_at_call 30; clear tk3; (with_reducible refine (parse_txt_no _ _ h1 _ (HE.out.grew hg.out)).mono ?_); rintro e w4 ⟨rfl, hg1⟩; clear ba0 ba1 bal; replace ba := ba.grew hg1; replace hg := Lib.hid (hg.out.trans hg1); clear hg1; have ba0 := ba.c0; have ba1 := ba.c1; have bal : w.heap.size < w4.heap.size := World.block_lt_of_cell? _ _ ba0)
      | (go_at_call 15; clear tk4; generalize hW : World.alloc _ _ = V; have bb : Box (w4.heap.size) 0 0 V := (by subst hW; exact ⟨by go_simp, by go_simp⟩); have hv : Grew w4 V := (by subst hW; repeat (first | with_reducible exact Grew.refl _ | with_reducible refine Grew.alloc ?_ _ | with_reducible refine Grew.drw ?_ | with_reducible refine Grew.drwN ?_ _)); clear hW; clear ba0 ba1 bal; replace ba := ba.grew hv; replace hg := Lib.hid (hg.out.trans hv); clear hv; (with_reducible refine (rvalid_g _ _ _).mono ?_); rintro e w5 ⟨rfl, hg1⟩; replace ba := ba.grew hg1; replace bb := bb.grew hg1; replace hg := Lib.hid (hg.out.trans hg1); clear hg1; have ba0 := ba.c0; have ba1 := ba.c1; have bal : w.heap.size < w5.heap.size := World.block_lt_of_cell? _ _ ba0; have bb0 := bb.c0; have bb1 := bb.c1; have bbl : w4.heap.size < w5.heap.size := World.block_lt_of_cell? _ _ bb0))
    go_ret
    exact ⟨rfl, hg.out⟩
  · go_enter Tryd.func7, Tryd.ntmps7
    go_wp2_with (first
      | (go_at_call 28; clear tk0; generalize hW : World.alloc _ _ = V; have ba : Box (w.heap.size) x y V := (by subst hW; exact ⟨by go_simp, by go_simp⟩); have hv : Grew w V := (by subst hW; repeat (first | with_reducible exact Grew.refl _ | with_reducible refine Grew.alloc ?_ _ | with_reducible refine Grew.drw ?_ | with_reducible refine Grew.drwN ?_ _)); clear hW; replace hg := Lib.hid (hg.out.trans hv); clear hv; (with_reducible refine (format_any _ _ _ (HE.out.grew hg.out)).mono ?_); rintro e w1 ⟨rfl, hg1⟩; replace ba := ba.grew hg1; replace hg := Lib.hid (hg.out.trans hg1); clear hg1; have ba0 := ba.c0; have ba1 := ba.c1; have bal : w.heap.size < w1.heap.size := World.block_lt_of_cell? _ _ ba0)
      | (go_at_call 13; clear tk1; (with_reducible refine (examples_any _ (HE.out.grew hg.out)).mono ?_); rintro e w2 ⟨rfl, hg1⟩; clear ba0 ba1 bal; replace ba := ba.grew hg1; replace hg := Lib.hid (hg.out.trans hg1); clear hg1; have ba0 := ba.c0; have ba1 := ba.c1; have bal : w.heap.size < w2.heap.size := World.block_lt_of_cell? _ _ ba0)
      | (go_at_call 29; clear tk2; (with_reducible refine (rformat_any _ _ _).mono ?_); rintro e w3 ⟨rfl, hg1⟩; clear ba0 ba1 bal; replace ba := ba.grew hg1; replace hg := Lib.hid (hg.out.trans hg1); clear hg1; have ba0 := ba.c0; have ba1 := ba.c1; have bal : w.heap.size < w3.heap.size := World.block_lt_of_cell? _ _ ba0)
      | (go_at_call 30; clear tk3; (with_reducible refine (parse_txt_yes _ _ h1 _ (HE.out.grew hg.out)).mono ?_); rintro e w4 ⟨rfl, hg1⟩; clear ba0 ba1 bal; replace ba := ba.grew hg1; replace hg := Lib.hid (hg.out.trans hg1); clear hg1; have ba0 := ba.c0; have ba1 := ba.c1; have bal : w.heap.size < w4.heap.size := World.block_lt_of_cell? _ _ ba0)
      | (go_at_call 15; clear tk4; generalize hW : World.alloc _ _ = V; have bb : Box (w4.heap.size) x y V := (by subst hW; exact ⟨by go_simp, by go_simp⟩); have hv : Grew w4 V := (by subst hW; repeat (first | with_reducible exact Grew.refl _ | with_reducible refine Grew.alloc ?_ _ | with_reducible refine Grew.drw ?_ | with_reducible refine Grew.drwN ?_ _)); clear hW; clear ba0 ba1 bal; replace ba := ba.grew hv; replace hg := Lib.hid (hg.out.trans hv); clear hv; (with_reducible refine (rvalid_g _ _ _).mono ?_); rintro e w5 ⟨rfl, hg1⟩; replace ba := ba.grew hg1; replace bb := bb.grew hg1; replace hg := Lib.hid (hg.out.trans hg1); clear hg1; have ba0 := ba.c0; have ba1 := ba.c1; have bal : w.heap.size < w5.heap.size := World.block_lt_of_cell? _ _ ba0; have bb0 := bb.c0; have bb1 := bb.c1; have bbl : w4.heap.size < w5.heap.size := World.block_lt_of_cell? _ _ bb0))
    go_ret
    exact ⟨rfl, hg.out⟩
set_option maxRecDepth 20000 in
set_option maxHeartbeats 2000000 in
theorem parse_walk_long (s : ByteArray) (hl : 60 < s.size) (w : World) (he : Env w) : Calls Tryd.prog 8 #[.string s] w fun e w' => e = .returned (.bool true) ∧ Grew w w' := by
  have HE := Lib.hid he
  clear he
  have hg := Lib.hid (Grew.refl w)
  have tk0 := Lib.hid trivial
  have tk1 := Lib.hid trivial
  go_enter Tryd.func8, Tryd.ntmps8
  go_wp2_with (first
    | (go_at_call 13; clear tk0; (with_reducible refine (examples_any _ (HE.out.grew hg.out)).mono ?_); rintro e w1 ⟨rfl, hg1⟩; replace hg := Lib.hid (hg.out.trans hg1); clear hg1)
    | (go_at_call 13; clear tk1; (with_reducible refine (examples_any _ (HE.out.grew hg.out)).mono ?_); rintro e w2 ⟨rfl, hg1⟩; replace hg := Lib.hid (hg.out.trans hg1); clear hg1))
  go_ret
  exact ⟨rfl, hg.out⟩
abbrev ParsedTo (f : FuncId) (s : ByteArray) (u v k : Int) (W : World) : Prop := Calls Tryd.prog f #[.string s] W fun e w' => e = .returned (.tuple #[iv u v, .int .i64 k]) ∧ Grew W w'
set_option maxRecDepth 20000 in
set_option maxHeartbeats 2000000 in
theorem parse_walk_no (s : ByteArray) (hl : s.size ≤ 60) (w : World) (he : Env w) (c1 : ∀ W, Env W → ParsedTo 30 s 0 0 2 W) (c2 : ∀ W, ParsedTo 31 s 0 0 2 W) :
    Calls Tryd.prog 8 #[.string s] w fun e w' => e = .returned (.bool true) ∧ Grew w w' := by
  have HE := Lib.hid he
  have C1 := Lib.hid c1
  have C2 := Lib.hid c2
  clear he c1 c2
  have hg := Lib.hid (Grew.refl w)
  have tk0 := Lib.hid trivial
  have tk1 := Lib.hid trivial
  have tk2 := Lib.hid trivial
  go_enter Tryd.func8, Tryd.ntmps8
  go_wp2_with (first
    | (go_at_call 13; clear tk0; (with_reducible refine (examples_any _ (HE.out.grew hg.out)).mono ?_); rintro e w1 ⟨rfl, hg1⟩; replace hg := Lib.hid (hg.out.trans hg1); clear hg1)
    | (go_at_call 30; clear tk1; (with_reducible refine (C1.out _ (HE.out.grew hg.out)).mono ?_); rintro e w2 ⟨rfl, hg1⟩; replace hg := Lib.hid (hg.out.trans hg1); clear hg1)
    | (go_at_call 31; clear tk2; generalize hW : World.alloc _ _ = V; have ba : Box (w2.heap.size) 0 0 V := (by subst hW; exact ⟨by go_simp, by go_simp⟩); have hv : Grew w2 V := (by subst hW; repeat (first | with_reducible exact Grew.refl _ | with_reducible refine Grew.alloc ?_ _ | with_reducible refine Grew.drw ?_ | with_reducible refine Grew.drwN ?_ _)); clear hW; replace hg := Lib.hid (hg.out.trans hv); clear hv; (with_reducible refine (C2.out _).mono ?_); rintro e w3 ⟨rfl, hg1⟩; replace ba := ba.grew hg1; replace hg := Lib.hid (hg.out.trans hg1); clear hg1; have ba0 := ba.c0; have ba1 := ba.c1; have bal : w2.heap.size < w3.heap.size := World.block_lt_of_cell? _ _ ba0))
  go_ret
  exact ⟨rfl, Grew.trans hg.out ((Grew.refl _).alloc _)⟩
set_option maxRecDepth 20000 in
set_option maxHeartbeats 2000000 in
theorem parse_walk_yes (s : ByteArray) (hl : s.size ≤ 60) (u v : Int) (ht : txt u v = s.data.toList) (w : World) (he : Env w) (c1 : ∀ W, Env W → ParsedTo 30 s u v 0 W) (c2 : ∀ W, ParsedTo 31 s u v 0 W) :
    Calls Tryd.prog 8 #[.string s] w fun e w' => e = .returned (.bool true) ∧ Grew w w' := by
  have c3 : ∀ W, Env W → Calls Tryd.prog 28 #[iv u v] W fun e w' => e = .returned (.string s) ∧ Grew W w' := fun W hW => by
    have := format_any u v W hW
    rw [ht] at this
    exact this
  have HE := Lib.hid he
  have C1 := Lib.hid c1
  have C2 := Lib.hid c2
  have C3 := Lib.hid c3
  clear he c1 c2 c3 ht
  have hg := Lib.hid (Grew.refl w)
  have tk0 := Lib.hid trivial
  have tk1 := Lib.hid trivial
  have tk2 := Lib.hid trivial
  have tk3 := Lib.hid trivial
  go_enter Tryd.func8, Tryd.ntmps8
  go_wp2_with (first
    | (go_at_call 13; clear tk0; (with_reducible refine (examples_any _ (HE.out.grew hg.out)).mono ?_); rintro e w1 ⟨rfl, hg1⟩; replace hg := Lib.hid (hg.out.trans hg1); clear hg1)
    | (go_at_call 30; clear tk1; (with_reducible refine (C1.out _ (HE.out.grew hg.out)).mono ?_); rintro e w2 ⟨rfl, hg1⟩; replace hg := Lib.hid (hg.out.trans hg1); clear hg1)
    | (go_at_call 31; clear tk2; generalize hW : World.alloc _ _ = V; have ba : Box (w2.heap.size) u v V := (by subst hW; exact ⟨by go_simp, by go_simp⟩); have hv : Grew w2 V := (by subst hW; repeat (first | with_reducible exact Grew.refl _ | with_reducible refine Grew.alloc ?_ _ | with_reducible refine Grew.drw ?_ | with_reducible refine Grew.drwN ?_ _)); clear hW; replace hg := Lib.hid (hg.out.trans hv); clear hv; (with_reducible refine (C2.out _).mono ?_); rintro e w3 ⟨rfl, hg1⟩; replace ba := ba.grew hg1; replace hg := Lib.hid (hg.out.trans hg1); clear hg1; have ba0 := ba.c0; have ba1 := ba.c1; have bal : w2.heap.size < w3.heap.size := World.block_lt_of_cell? _ _ ba0)
    | (go_at_call 28; clear tk3; generalize hW : World.alloc _ _ = V; have bb : Box (w3.heap.size) u v V := (by subst hW; exact ⟨by go_simp, by go_simp⟩); have hv : Grew w3 V := (by subst hW; repeat (first | with_reducible exact Grew.refl _ | with_reducible refine Grew.alloc ?_ _ | with_reducible refine Grew.drw ?_ | with_reducible refine Grew.drwN ?_ _)); clear hW; clear ba0 ba1 bal; replace ba := ba.grew hv; replace hg := Lib.hid (hg.out.trans hv); clear hv; (with_reducible refine (C3.out _ (HE.out.grew hg.out)).mono ?_); rintro e w4 ⟨rfl, hg1⟩; replace ba := ba.grew hg1; replace bb := bb.grew hg1; replace hg := Lib.hid (hg.out.trans hg1); clear hg1; have ba0 := ba.c0; have ba1 := ba.c1; have bal : w2.heap.size < w4.heap.size := World.block_lt_of_cell? _ _ ba0; have bb0 := bb.c0; have bb1 := bb.c1; have bbl : w3.heap.size < w4.heap.size := World.block_lt_of_cell? _ _ bb0))
  go_ret
  exact ⟨rfl, hg.out⟩
theorem parse_walk (s : ByteArray) (w : World) (he : Env w) : Calls Tryd.prog 8 #[.string s] w fun e w' => e = .returned (.bool true) ∧ Grew w w' := by
  rcases Nat.lt_or_ge 60 s.size with hl | hl
  · exact parse_walk_long s hl w he
  by_cases h : ∃ u v, Spelt s.data.toList u v
  · obtain ⟨u, v, hv⟩ := h
    have hp : ParsesTo s.data.toList u v 0 := .inl ⟨rfl, hv⟩
    refine parse_walk_yes s hl u v hv.txt.2 w he (fun W hW => (parse_any s (by omega) W hW).mono ?_) (fun W => (rparse_any s (by omega) W).mono ?_)
    all_goals
      rintro e w' ⟨u', v', k', rfl, hp', hb⟩
      obtain ⟨rfl, rfl, rfl⟩ := hp.one hp'
      exact ⟨rfl, hb⟩
  · have hp : ParsesTo s.data.toList 0 0 2 := .inr ⟨rfl, rfl, rfl, fun x y hu => h ⟨x, y, hu⟩⟩
    refine parse_walk_no s hl w he (fun W hW => (parse_any s (by omega) W hW).mono ?_) (fun W => (rparse_any s (by omega) W).mono ?_)
    all_goals
      rintro e w' ⟨u', v', k', rfl, hp', hb⟩
      obtain ⟨rfl, rfl, rfl⟩ := hp.one hp'
      exact ⟨rfl, hb⟩
end Go.Proofs.YtoehjejpkaffiaaDoor
