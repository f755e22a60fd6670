/-
  CONTRACTS OF LAYER 5 (interval): the reference's Parse, at every string.
-/
import Derived.Test.YtoehjejpkaffiaaDoorIntervalRead
import Derived.Deep.LoopGhost
import Derived.Deep.CutBlock
import Derived.Deep.DeepCutAuto
import Derived.Deep.RegionWith
import Derived.Lib.Slices
import Derived.Deep.Heap
namespace Go.Proofs.YtoehjejpkaffiaaDoor
open Go.RowKit Go.IntWalk

/-- What a call of Parse does, of the program's or of the reference's. -/
def Parsed (l : List UInt8) (w : World) (e : Ending) (w' : World) : Prop := ∃ u v k : Int, e = .returned (.tuple #[iv u v, .int .i64 k]) ∧ ParsesTo l u v k ∧ Grew w w'
/-- The pair that the reference makes of a text. -/
def Pair (l : List UInt8) (u v : Int) : Prop := ((∀ j, ¬ dots l j) ∧ u = numv l ∧ v = numv l) ∨ ∃ i, dots l i ∧ (∀ j, j < i → ¬ dots l j) ∧ u = numv (l.take i) ∧ v = numv (l.drop (i + 2))
theorem Pair.spelt {l : List UInt8} {u v a b : Int} (h : Pair l u v) (hs : Spelt l a b) : u = a ∧ v = b := by
  rcases h with ⟨hn, rfl, rfl⟩ | ⟨i, hi, hn, rfl, rfl⟩
  · obtain ⟨e1, e2⟩ := hs.no_dots hn
    exact ⟨e1.symm, e2.symm⟩
  · obtain ⟨e1, e2⟩ := hs.dots i hi hn
    exact ⟨e1.symm, e2.symm⟩
theorem Pair.no {l : List UInt8} {u v : Int} (h : Pair l u v) (hne : va u v = false ∨ txt u v ≠ l) : ParsesTo l 0 0 2 := .inr ⟨rfl, rfl, rfl, fun a b hs => by
  obtain ⟨rfl, rfl⟩ := h.spelt hs
  obtain ⟨h1, h2⟩ := hs.txt
  rcases hne with h | h
  · rw [h1] at h; cases h
  · exact h h2⟩
theorem Pair.yes {l : List UInt8} {u v : Int} (hv : va u v = true) (he : txt u v = l) : ParsesTo l u v 0 := .inl ⟨rfl, txt_spelt' hv he⟩
theorem dots_no1 {s : ByteArray} {k : Nat} (h : k < s.size) (hd : ((s[k].toNat : Int) == 46) = false) : ¬ dots s.data.toList k := fun e => by
  have := e.1
  rw [List.getElem?_eq_getElem (by exact h)] at this
  injection this with this
  have e2 : s[k] = 46 := this
  rw [e2] at hd
  exact absurd hd (by decide)
theorem dots_no2 {s : ByteArray} {k : Nat} (h : k + 1 < s.size) (hd : ((s[k + 1].toNat : Int) == 46) = false) : ¬ dots s.data.toList k := fun e => by
  have := e.2
  rw [List.getElem?_eq_getElem (by exact h)] at this
  injection this with this
  have e2 : s[k + 1] = 46 := this
  rw [e2] at hd
  exact absurd hd (by decide)
theorem dots_yes {s : ByteArray} {k : Nat} (h : k + 1 < s.size) (h1 : ((s[k].toNat : Int) == 46) = true) (h2 : ((s[k + 1].toNat : Int) == 46) = true) : dots s.data.toList k := by
  have e1 : s[k] = 46 := UInt8.toNat_inj.1 (by have : (s[k].toNat : Int) = 46 := by simpa using h1
                                               have : s[k].toNat = 46 := by omega
                                               exact this)
  have e2 : s[k + 1] = 46 := UInt8.toNat_inj.1 (by have : (s[k + 1].toNat : Int) = 46 := by simpa using h2
                                                   have : s[k + 1].toNat = 46 := by omega
                                                   exact this)
  refine ⟨?_, ?_⟩
  · rw [List.getElem?_eq_getElem (by show k < s.size; omega)]
    exact congrArg some e1
  · rw [List.getElem?_eq_getElem (by exact h)]
    exact congrArg some e2
theorem dots_end {s : ByteArray} {k : Nat} (h : s.size ≤ k + 1) : ¬ dots s.data.toList k := fun e => by
  have := e.2
  rw [List.getElem?_eq_none (by exact h)] at this
  cases this

/-- The block of a result that has not been written yet. -/
structure Res (S : Nat) (w : World) : Prop where
  box : Box S 0 0 w
  free : ∀ k, w.frozen? ⟨S, k, none⟩ = false
theorem Res.grew {S : Nat} {w w' : World} (h : Res S w) (hg : Grew w w') : Res S w' :=
  ⟨h.box.grew hg, fun k => (Below.frozen hg (p := ⟨S, k, none⟩) (show S < _ from World.block_lt_of_cell? _ _ h.box.c0)).trans (h.free k)⟩
theorem free_other {w : World} {g B : Nat} (j k : Nat) (v : Value) (h : g ≠ B) : (w.setCell ⟨g, j, none⟩ v).frozen? ⟨B, k, none⟩ = w.frozen? ⟨B, k, none⟩ := by
  simp only [World.frozen?, Go.Deep.blk_setCell_other w ⟨g, j, none⟩ v B (fun e => h e.symm)]
theorem Res.put2 {S B : Nat} {w : World} (h : Res S w) (hne : B ≠ S) (x y : Int) : Res S (put2 w B x y) := by
  have ne : ∀ j k, (⟨B, j, none⟩ : Addr) ≠ ⟨S, k, none⟩ := fun j k e => hne (by injection e)
  refine ⟨⟨?_, ?_⟩, fun k => ?_⟩
  · exact (World.cell?_setCell_other _ _ _ _ (ne _ _)).trans ((World.cell?_setCell_other _ _ _ _ (ne _ _)).trans h.box.c0)
  · exact (World.cell?_setCell_other _ _ _ _ (ne _ _)).trans ((World.cell?_setCell_other _ _ _ _ (ne _ _)).trans h.box.c1)
  · exact (free_other 1 k _ hne).trans ((free_other 0 k _ hne).trans (h.free k))
theorem rvalid_g (x y : Int) (w : World) :
    Calls Tryd.prog 15 #[iv x y] w fun e w' => e = .returned (.bool (va x y)) ∧ Grew w w' :=
  (rvalid_any x y w).mono fun _ _ ⟨h1, h2⟩ => ⟨h1, h2 ▸ ((Grew.refl _).alloc _).drw⟩
theorem extract_take (s : ByteArray) (k : Nat) : (s.extract 0 k).data.toList = s.data.toList.take k := by
  rw [Lib.extract_eq]; simp
theorem extract_drop (s : ByteArray) (k : Nat) : (s.extract k s.size).data.toList = s.data.toList.drop k := by
  rw [Lib.extract_eq]
  exact List.take_of_length_le (by rw [List.length_drop]; exact Nat.le_refl _)

set_option maxRecDepth 100000 in
set_option maxHeartbeats 1000000 in
theorem rparse_any (s : ByteArray) (hs : s.size ≤ 281474976710656) (w : World) :
    Calls Tryd.prog 31 #[.string s] w (Parsed s.data.toList w) := by
  obtain ⟨nv, hnv⟩ : ∃ nv, nv = numv s.data.toList := ⟨_, rfl⟩
  have hnum : ∀ W, Calls Tryd.prog 38 #[.string s] W fun e w' => e = .returned (.int .i64 nv) ∧ w' = W := fun W => by rw [hnv]; exact number_any s hs W
  replace hnum := Lib.hid hnum
  replace hnv := Lib.hid hnv
  go_enter Tryd.func31, Tryd.ntmps31
  have hS : Hid (w.heap.size ≤ w.heap.size) := Nat.le_refl _
  go_upto_block 0 with (go_at_call 38; (with_reducible refine (hnum.out _).mono ?_); rintro e _ ⟨rfl, rfl⟩)
  generalize hW : World.alloc (World.alloc _ _) _ = W0
  have hB : Box (w.heap.size + 1) nv nv W0 := by subst hW; exact ⟨by go_simp, by go_simp⟩
  have hR : Box w.heap.size 0 0 W0 := by subst hW; exact ⟨by go_simp, by go_simp⟩
  have hF : ∀ k, W0.frozen? ⟨w.heap.size + 1, k, none⟩ = false := by intro k; subst hW; go_simp
  have hF2 : ∀ k, W0.frozen? ⟨w.heap.size, k, none⟩ = false := by intro k; subst hW; go_simp
  have hG : Grew w W0 := by subst hW; exact ((Grew.refl _).alloc _).alloc _
  clear hW
  replace hB := Lib.hid hB
  replace hR := Lib.hid (Res.mk hR hF2)
  replace hF := Lib.hid hF
  clear hF2
  replace hG := Lib.hid hG
  go_cut [5] (fun i wx => ∃ u v : Int, (∃ m : Nat, i = .int .i64 m) ∧ Hid (Box (w.heap.size + 1) u v wx) ∧ Hid (Res w.heap.size wx) ∧ Hid (Grew w wx) ∧ Hid (Pair s.data.toList u v))
  case first =>
    go_wp2_with fail
    go_loopg [5] s.size (fun g i wx => ∃ k : Nat, wx = W0 ∧ i = .int .i64 k ∧ k ≤ s.size ∧ g = s.size - k ∧ Hid (∀ j, j < k → ¬ dots s.data.toList j))
    case atStart => exact ⟨0, rfl, rfl, by omega, rfl, fun j hj => by omega⟩
    case round =>
      obtain ⟨k, rfl, rfl, hk, rfl, hd⟩ := hrel
      by_cases hk1 : k + 1 < s.size
      · go_wp2_with fail
        · rename_i hz1 _ hz2 _ _
          have c1 : (k : Int) + 2 ≤ (s.size : Int) := by omega
          have c2 : (0 : Int) ≤ (k : Int) + 2 := by omega
          refine wp_still_tail 10 [some 29, some 30, some 31, some 32, some 33, some 34, some 35, some 36, some 37, some 38] [false, false, false, false, false, false, false, false, false, false, false, false, false, false, false, false, false, false, false, false, false, false, false, false, false, false, false, false, false, true, true, true, true, true, true, true, true, true, true, false, false, false, false, false, false, false, false, false, false, false] [fun v _ => v = .string (s), fun v _ => v = .int .i64 ((k : Int)), fun v _ => v = .string ((s).extract 0 (k)), fun v _ => v = .int .i64 (numv ((s).extract 0 (k)).data.toList), fun v _ => v = .string (s), fun v _ => v = .int .i64 ((k : Int)), fun v _ => v = .int .i64 (((k + 2 : Nat) : Int)), fun v _ => v = .string ((s).extract (k + 2) (s).size), fun v _ => v = .int .i64 (numv ((s).extract (k + 2) (s).size).data.toList), fun v _ => v = iv (numv ((s).extract 0 (k)).data.toList) (numv ((s).extract (k + 2) (s).size).data.toList)] (by kernel_rfl) (by kernel_rfl) (by kernel_rfl) rfl ⟨?_, ?_, ?_, ?_, ?_, ?_, ?_, ?_, ?_, ?_, trivial⟩ ?_
          · intro u w hR hd; exact runs_mv (ev rfl) ⟨rfl, rfl⟩
          · intro u w hR hd; exact runs_mv (ev rfl) ⟨rfl, rfl⟩
          · intro u w hR hd; exact runs_slH9 (ev (hd.1 rfl)) (ev (hd.2.1 rfl)) (by omega) ⟨rfl, rfl⟩
          · intro u w hR hd; exact runs_c1 enters_number (ev (hd.1 rfl)) (callp (fun _ e => e) (number_any ((s).extract 0 (k)) (by simp; omega) _))
          · intro u w hR hd; exact runs_mv (ev rfl) ⟨rfl, rfl⟩
          · intro u w hR hd; exact runs_mv (ev rfl) ⟨rfl, rfl⟩
          · intro u w hR hd; exact runs_add3 (ev (hd.1 rfl)) rfl (by omega) ⟨rfl, (congrArg (Value.int .i64) (by omega))⟩
          · intro u w hR hd; exact runs_slL9 (ev (hd.1 rfl)) (ev (hd.2.1 rfl)) (by omega) ⟨rfl, rfl⟩
          · intro u w hR hd; exact runs_c1 enters_number (ev (hd.1 rfl)) (callp (fun _ e => e) (number_any ((s).extract (k + 2) (s).size) (by simp; omega) _))
          · intro u w hR hd; exact runs_bld23 (ev (hd.1 rfl)) (ev (hd.2.1 rfl)) ⟨rfl, rfl⟩
          · intro uu h
            have hp := Lib.hid (show Pair s.data.toList (numv (s.data.toList.take k)) (numv (s.data.toList.drop (k + 2))) from .inr ⟨k, dots_yes hk1 (by simpa using hz1) (by simpa using hz2), hd, rfl, rfl⟩)
            refine wpAny_one (i := 10) none (by kernel_rfl) rfl rfl rfl (runs_sto23 (ev rfl) (ev (h 9 (by decide))) (hB.out.grew (Grew.refl _).drw) hF.out ?_)
            refine wpAny_done (by kernel_rfl) ?_ _
            have hb2 := Lib.hid ((hB.out.grew (Grew.refl _).drw).put2 (numv (s.data.toList.take k)) (numv (s.data.toList.drop (k + 2))))
            rw [extract_take, extract_drop]
            have hr2 := Lib.hid ((hR.out.grew (Grew.refl _).drw).put2 (B := w.heap.size + 1) (by omega) (numv (s.data.toList.take k)) (numv (s.data.toList.drop (k + 2))))
            have hg2 := Lib.hid (hG.out.drw.put2 (S := w.heap.size + 1) (by omega) (numv (s.data.toList.take k)) (numv (s.data.toList.drop (k + 2))))
            generalize put2 _ _ _ _ = W1 at hb2 hr2 hg2 ⊢
            simp only [Act.put, mixA, mixL, cond_true, cond_false]
            go_wp2
            go_meet
            exact ⟨_, _, ⟨k, rfl⟩, hb2, hr2, hg2, hp⟩
        · have hd0 : ¬ dots s.data.toList k := by rename_i hz; exact dots_no2 hk1 hz
          have hd1 : ∀ j, j < k + 1 → ¬ dots s.data.toList j := fun j hj => by
            rcases Nat.lt_or_ge j k with h | h
            · exact hd j h
            · obtain rfl : j = k := by omega
              exact hd0
          go_roundg (s.size - (k + 1))
          case measure => omega
          case rel => exact ⟨k + 1, rfl, by go_num, by omega, rfl, hd1⟩
        · have hd0 : ¬ dots s.data.toList k := by rename_i hz; exact dots_no1 (by omega) (by simpa using hz)
          have hd1 : ∀ j, j < k + 1 → ¬ dots s.data.toList j := fun j hj => by
            rcases Nat.lt_or_ge j k with h | h
            · exact hd j h
            · obtain rfl : j = k := by omega
              exact hd0
          go_roundg (s.size - (k + 1))
          case measure => omega
          case rel => exact ⟨k + 1, rfl, by go_num, by omega, rfl, hd1⟩
      · go_wp2_with fail
        go_meet
        exact ⟨nv, nv, ⟨k, rfl⟩, hB, hR, hG, .inl ⟨fun j hj => (Nat.lt_or_ge j k).elim (fun h => hd j h hj) (fun h => dots_end (by omega) hj), hnv.out, hnv.out⟩⟩
  case rest =>
    obtain ⟨u, v, ⟨m, rfl⟩, hb, hr, hg, hp⟩ := hcut
    have hb0 := hb.out.c0
    have hb1 := hb.out.c1
    cases hv : va u v
    · go_wp2_with (go_at_call 15; (with_reducible refine (rvalid_g _ _ _).mono ?_); rintro e w1 ⟨rfl, hg1⟩; have hr0 := (hr.out.grew hg1).box.c0; have hr1 := (hr.out.grew hg1).box.c1; have hf0 := (hr.out.grew hg1).free 0; have hf1 := (hr.out.grew hg1).free 1; clear hb0 hb1)
      go_wp2
      refine ret_iv2 Tryd.results31 rfl rfl ((hr.out.grew hg1).box.put2 0 0) ⟨0, 0, 2, rfl, hp.out.no (.inl hv), (hg.out.trans hg1).put2 hS.out 0 0⟩
    · go_wp2_with (first
        | (go_at_call 15; (with_reducible refine (rvalid_g _ _ _).mono ?_); rintro e w1 ⟨rfl, hg1⟩; have hc0 := (hb.out.grew hg1).c0; have hc1 := (hb.out.grew hg1).c1; clear hb0 hb1)
        | (go_at_call 29; (with_reducible refine (rformat_any _ _ _).mono ?_); rintro e w2 ⟨rfl, hg2⟩; have hb0 := ((hb.out.grew hg1).grew hg2).c0; have hb1 := ((hb.out.grew hg1).grew hg2).c1; have hr0 := ((hr.out.grew hg1).grew hg2).box.c0; have hr1 := ((hr.out.grew hg1).grew hg2).box.c1; have hf0 := ((hr.out.grew hg1).grew hg2).free 0; have hf1 := ((hr.out.grew hg1).grew hg2).free 1; clear hc0 hc1))
      · have ht : txt u v ≠ s.data.toList := by rename_i hz; rw [ByteArray.toList_eq] at hz; simpa using hz
        refine ret_iv2 Tryd.results31 rfl rfl (((hr.out.grew hg1).grew hg2).box.put2 0 0) ⟨0, 0, 2, rfl, hp.out.no (.inr ht), ((hg.out.trans hg1).trans hg2).put2 hS.out 0 0⟩
      · have ht : txt u v = s.data.toList := by rename_i hz; rw [ByteArray.toList_eq] at hz; simpa using hz
        refine ret_iv2 Tryd.results31 rfl rfl (((hr.out.grew hg1).grew hg2).box.put2 u v) ⟨u, v, 0, rfl, Pair.yes hv ht, ((hg.out.trans hg1).trans hg2).put2 hS.out u v⟩
end Go.Proofs.YtoehjejpkaffiaaDoor
