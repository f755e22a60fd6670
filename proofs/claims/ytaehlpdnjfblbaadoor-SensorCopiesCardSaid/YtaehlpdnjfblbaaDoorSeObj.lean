/-
  CONTRACTS OF LAYER 10 (sensor): a trace in memory; add.
-/
import Derived.Test.YtaehlpdnjfblbaaDoorSeOps
namespace Go.Proofs.YtaehlpdnjfblbaaDoor
open Go Go.RowKit Go.IntWalk
set_option linter.unusedSimpArgs false
set_option maxRecDepth 8000

/-- The trace at t holds the changes xs; its memory is the call's own. -/
def Tr (base t : Nat) (xs : List It) (w : World) : Prop := ∃ p c, Blk t [.slice p xs.length c] 60 w ∧ OwR w base 34 2 itc (.slice p xs.length c) xs ∧ base ≤ t
theorem Tr.grew {base t : Nat} {xs : List It} {w w' : World} (h : Tr base t xs w) (hg : Grew w w') : Tr base t xs w' := by
  obtain ⟨p, c, h1, h2, h3⟩ := h
  exact ⟨p, c, h1.grew hg, h2.kept hg, h3⟩
set_option maxHeartbeats 4000000 in
theorem add_yes (base t : Nat) (xs : List It) (c : It) (w : World) (h : Tr base t xs w) (ha : asc (-1) xs = true) (hl : xs.length ≤ 100000) (hb : base ≤ w.heap.size) (hok : okAdd xs c = true) :
    Calls Tryd.prog 31 #[.pointer (some ⟨t, 0, none⟩), itv c] w fun e w' => e = .returned (.bool true) ∧ Tr base t (xs ++ [c]) w' ∧ Below base w w' := by
  obtain ⟨p, cap, hT, hO, hbt⟩ := h
  simp only [okAdd, decide_eq_true_eq] at hok
  obtain ⟨hlo, hhi⟩ := hok
  have hR := (hO.rd encI).2
  have c0 := hT.cell 0
  have ct := hT.lt
  simp only [List.getElem?_cons_zero] at c0
  have HTB := Lib.hid hbt
  have HB0 := Lib.hid hb
  have h1 : ¬ 1099511627776 < c.1 := by omega
  clear hbt hb
  rcases hR.parts with rfl | ⟨hn, g, o, rfl⟩
  · have h0 : ¬ c.1 < 0 := by simp only [lastT] at hlo; omega
    have HH0 : Hid (Blk t [.slice p 0 cap] 60 w) := hT
    have HO0 : Hid (OwR w base 34 2 itc (.slice p 0 cap) []) := hO
    replace c0 : w.cell? ⟨t, 0, none⟩ = some (.slice p 0 cap) := c0
    clear ha hR hlo hT hO hl
    go_enter Tryd.func31, Tryd.ntmps31
    go_wp2
    generalize hV : World.alloc _ _ = W
    have HT : Hid (Blk t [.slice p 0 cap] 60 W) := Lib.hid (by subst hV; exact HH0.out.grew ((Grew.refl _).alloc _))
    have HO : Hid (OwR W base 34 2 itc (.slice p 0 cap) ([] : List It)) := Lib.hid (by subst hV; exact HO0.out.kept ((Grew.refl _).alloc _))
    have hS : Blk w.heap.size (itc c) 34 W := by subst hV; exact Blk.new w (itc c) _
    have HG : Hid (Below base w W) := Lib.hid (by subst hV; exact ((Grew.refl w).alloc _).mono HB0.out)
    have HWB : Hid (base ≤ W.heap.size) := Lib.hid (Nat.le_trans HB0.out HG.out.size)
    generalize w.heap.size = S at hS
    clear hV c0 ct HH0 HO0
    have hC : Atv ⟨t, 0, none⟩ (.slice p 0 cap) W.drew := (HT.out.grew (Grew.refl _).drw).atv 0 rfl
    have b0 : Atv ⟨S, 0, none⟩ (.int .i64 c.1) W.drew := (hS.grew (Grew.refl _).drw).atv 0 rfl
    have b1 : Atv ⟨S, 1, none⟩ (.int .i16 c.2) W.drew := (hS.grew (Grew.refl _).drw).atv 1 rfl
    refine wp_grew_free 0 0 33 (.pointer (some ⟨t, 0, none⟩)) 7 [some 33, some 34, some 35, some 36, some 37, some 38, some 39] [false, false, false, false, false, false, false, false, false, false, false, false, false, false, false, false, false, false, false, false, false, false, false, false, false, false, false, false, false, false, false, false, false, true, true, true, true, true, true, true, false, false, false] [fun v _ => v = .pointer (some ⟨t, 0, none⟩), fun v _ => v = .pointer (some ⟨t, 0, none⟩), fun v _ => v = .pointer (some ⟨t, 0, none⟩), fun v _ => v = .pointer (some ⟨t, 0, none⟩), fun v _ => v = .slice p 0 cap, fun v _ => v = .agg #[.int .i64 (c.1), .int .i16 (c.2)], fun v w => ∃ B, v = .slice (some ⟨B, 0, none⟩) 1 1 ∧ Rw 2 itc w (some ⟨B, 0, none⟩) 1 [c]] (by kernel_rfl) (by kernel_rfl) (by kernel_rfl) rfl (by kernel_rfl) (by kernel_rfl) (by kernel_rfl) (by kernel_rfl) (by decide) rfl (fun _ _ _ h => h) ?_ rfl ⟨?_, ?_, ?_, ?_, ?_, ?_, ?_, trivial⟩ ?_
    · exact ⟨fun _ _ _ _ h => h, fun _ _ _ _ h => h, fun _ _ _ _ h => h, fun _ _ _ _ h => h, fun _ _ _ _ h => h, fun _ _ _ _ h => h, fun _ _ _ hg ⟨B, h1, h2⟩ => ⟨B, h1, h2.kept hg⟩, trivial⟩
    · intro u w hR hd; exact runs_mv (ev rfl) ⟨Grew.refl _, rfl⟩
    · intro u w hR hd; exact runs_mv (ev rfl) ⟨Grew.refl _, rfl⟩
    · intro u w hR hd; exact rn_nil (ev (hd.1 rfl)) ⟨Grew.refl _, rfl⟩
    · intro u w hR hd; exact rn_fld_60_0 (ev (hd.1 rfl)) ⟨Grew.refl _, rfl⟩
    · intro u w hR hd; exact rn_ld_22 (ev (hd.1 rfl)) (hC.kept hR) ⟨Grew.refl _, rfl⟩
    · intro u w hR hd; exact rn_ld_34 (ev rfl) (b0.kept hR) (b1.kept hR) ⟨Grew.refl _, rfl⟩
    · intro u w hR hd; exact runs_bsC (ev (hd.1 rfl)) ⟨(Grew.refl _).alloc _, ⟨_, rfl, Rw.made encI _ [c] 1 _ _ _ rfl rfl (by decide)⟩⟩
    · intro uu w3 hR3 hh
      obtain ⟨B, hv, hone⟩ := hh 6 (by decide)
      have hO3 := HO.out.kept ((Grew.refl W).drw.trans hR3)
      have hT3 := HT.out.grew ((Grew.refl W).drw.trans hR3)
      refine wpAny_one (i := 7) (some 40) (by kernel_rfl) rfl rfl rfl (runs_append_row encI base 34 (itv (0, 0)) 16 Tryd.underlying22 infoC rfl (.slice p 0 cap) ([] : List It) (ev (hh 4 (by decide))) hO3 (some ⟨B, 0, none⟩) 1 1 [c] (ev hv) rfl hone (by simp <;> omega) (by simp <;> omega) (by have := hR3.size; have : W.drew.heap.size = W.heap.size := rfl; have := HWB.out; omega) fun p' c' w4 O4 G4 L4 => ?_)
      refine wpAny_one (i := 8) (some 41) (by kernel_rfl) rfl rfl rfl (rn_nil (ev (hh 0 (by decide))) ?_)
      refine wpAny_one (i := 9) (some 42) (by kernel_rfl) rfl rfl rfl (rn_fld_60_0 (ev rfl) ?_)
      have hT4 : Blk t [.slice p 0 cap] 60 w4 := hT3.chg L4 (fun hs => hO3.apart (show 34 ≠ 60 by decide) hT3 hs)
      refine wpAny_one (i := 10) none (by kernel_rfl) rfl rfl rfl (rn_st_22 (ev rfl) (ev rfl) (hT4.cell 0) (hT4.free 0) ?_)
      refine wpAny_done (by kernel_rfl) ?_ _
      have hT5 := hT4.set 0 (.slice p' (([] : List It).length + [c].length) c')
      have hO5 : OwR (w4.setCell ⟨t, 0, none⟩ (.slice p' (([] : List It).length + [c].length) c')) base 34 2 itc (.slice p' (([] : List It).length + [c].length) c') ([] ++ [c]) := OwR.chg O4 (Chg.set w4 ⟨t, 0, none⟩ _) (fun a ha hs => by
        obtain ⟨cur, hk⟩ := O4.kind encI a ha
        subst ha
        have hk' : w4.heap[t]? = some (.cells cur 34 (0, 0)) := by rw [← (show a.block = t from hs)]; exact hk
        have hT4' : w4.heap[t]? = some (.cells #[.slice p 0 cap] 60 (0, 0)) := hT4
        rw [hT4'] at hk'
        simp at hk')
      have hB5 : Below base w (w4.setCell ⟨t, 0, none⟩ (.slice p' (([] : List It).length + [c].length) c')) :=
        ((HG.out.trans (((Grew.refl W).drw.trans hR3).mono HWB.out)).trans G4).setCell (p := ⟨t, 0, none⟩) HTB.out _
      simp only [Act.put, mixA, mixL, cond_true, cond_false, List.setIfInBounds_toArray, List.set_cons_succ, List.set_cons_zero]
      go_wp2
      go_ret
      exact ⟨rfl, ⟨p', c', by simpa using hT5, by simpa using hO5, HTB.out⟩, hB5⟩
  · obtain ⟨m, hm⟩ : ∃ m, xs.length = m + 1 := ⟨xs.length - 1, by omega⟩
    have hx : xs[m]? = some (xs[m]'(by omega)) := List.getElem?_eq_getElem (by omega)
    have hla : lastT (-1) xs = (xs[m]'(by omega)).1 := by
      have := lastT_at (-1) xs m _ hx
      rwa [← hm, List.take_length] at this
    have d0 := hR.cell hx (j := 0) rfl
    have hbd := lastT_bd ha (by decide)
    rw [hla] at hlo hbd
    generalize xs[m]'(by omega) = z at d0 hlo hbd hla
    rw [Nat.add_zero] at d0
    have hw : IntKind.i64.wrap (z.1 + 1) = z.1 + 1 := i64_in _ (by omega)
    have h0 : ¬ c.1 < z.1 + 1 := by omega
    have hgl := hR.lt encI hn
    rw [hm] at c0 hT hO
    have HH0 := Lib.hid hT
    have HO0 := Lib.hid hO
    have HM := Lib.hid hm
    have hml : m ≤ 100000 := by omega
    clear ha hR hla hx hT hO hm hl hn
    go_enter Tryd.func31, Tryd.ntmps31
    go_wp2
    generalize hV : World.alloc _ _ = W
    have HT : Hid (Blk t [.slice (some ⟨g, o, none⟩) (m + 1) cap] 60 W) := Lib.hid (by subst hV; exact HH0.out.grew ((Grew.refl _).alloc _))
    have HO : Hid (OwR W base 34 2 itc (.slice (some ⟨g, o, none⟩) (m + 1) cap) xs) := Lib.hid (by subst hV; exact HO0.out.kept ((Grew.refl _).alloc _))
    have hS : Blk w.heap.size (itc c) 34 W := by subst hV; exact Blk.new w (itc c) _
    have HG : Hid (Below base w W) := Lib.hid (by subst hV; exact ((Grew.refl w).alloc _).mono HB0.out)
    have HWB : Hid (base ≤ W.heap.size) := Lib.hid (Nat.le_trans HB0.out HG.out.size)
    generalize w.heap.size = S at hS
    clear hV c0 ct HH0 HO0
    have hC : Atv ⟨t, 0, none⟩ (.slice (some ⟨g, o, none⟩) (m + 1) cap) W.drew := (HT.out.grew (Grew.refl _).drw).atv 0 rfl
    have b0 : Atv ⟨S, 0, none⟩ (.int .i64 c.1) W.drew := (hS.grew (Grew.refl _).drw).atv 0 rfl
    have b1 : Atv ⟨S, 1, none⟩ (.int .i16 c.2) W.drew := (hS.grew (Grew.refl _).drw).atv 1 rfl
    refine wp_grew_free 0 0 33 (.pointer (some ⟨t, 0, none⟩)) 7 [some 33, some 34, some 35, some 36, some 37, some 38, some 39] [false, false, false, false, false, false, false, false, false, false, false, false, false, false, false, false, false, false, false, false, false, false, false, false, false, false, false, false, false, false, false, false, false, true, true, true, true, true, true, true, false, false, false] [fun v _ => v = .pointer (some ⟨t, 0, none⟩), fun v _ => v = .pointer (some ⟨t, 0, none⟩), fun v _ => v = .pointer (some ⟨t, 0, none⟩), fun v _ => v = .pointer (some ⟨t, 0, none⟩), fun v _ => v = .slice (some ⟨g, o, none⟩) (m + 1) cap, fun v _ => v = .agg #[.int .i64 (c.1), .int .i16 (c.2)], fun v w => ∃ B, v = .slice (some ⟨B, 0, none⟩) 1 1 ∧ Rw 2 itc w (some ⟨B, 0, none⟩) 1 [c]] (by kernel_rfl) (by kernel_rfl) (by kernel_rfl) rfl (by kernel_rfl) (by kernel_rfl) (by kernel_rfl) (by kernel_rfl) (by decide) rfl (fun _ _ _ h => h) ?_ rfl ⟨?_, ?_, ?_, ?_, ?_, ?_, ?_, trivial⟩ ?_
    · exact ⟨fun _ _ _ _ h => h, fun _ _ _ _ h => h, fun _ _ _ _ h => h, fun _ _ _ _ h => h, fun _ _ _ _ h => h, fun _ _ _ _ h => h, fun _ _ _ hg ⟨B, h1, h2⟩ => ⟨B, h1, h2.kept hg⟩, trivial⟩
    · intro u w hR hd; exact runs_mv (ev rfl) ⟨Grew.refl _, rfl⟩
    · intro u w hR hd; exact runs_mv (ev rfl) ⟨Grew.refl _, rfl⟩
    · intro u w hR hd; exact rn_nil (ev (hd.1 rfl)) ⟨Grew.refl _, rfl⟩
    · intro u w hR hd; exact rn_fld_60_0 (ev (hd.1 rfl)) ⟨Grew.refl _, rfl⟩
    · intro u w hR hd; exact rn_ld_22 (ev (hd.1 rfl)) (hC.kept hR) ⟨Grew.refl _, rfl⟩
    · intro u w hR hd; exact rn_ld_34 (ev rfl) (b0.kept hR) (b1.kept hR) ⟨Grew.refl _, rfl⟩
    · intro u w hR hd; exact runs_bsC (ev (hd.1 rfl)) ⟨(Grew.refl _).alloc _, ⟨_, rfl, Rw.made encI _ [c] 1 _ _ _ rfl rfl (by decide)⟩⟩
    · intro uu w3 hR3 hh
      obtain ⟨B, hv, hone⟩ := hh 6 (by decide)
      have hO3 := HO.out.kept ((Grew.refl W).drw.trans hR3)
      have hT3 := HT.out.grew ((Grew.refl W).drw.trans hR3)
      refine wpAny_one (i := 7) (some 40) (by kernel_rfl) rfl rfl rfl (runs_append_row encI base 34 (itv (0, 0)) 16 Tryd.underlying22 infoC rfl (.slice (some ⟨g, o, none⟩) (m + 1) cap) xs (ev (hh 4 (by decide))) hO3 (some ⟨B, 0, none⟩) 1 1 [c] (ev hv) rfl hone (by simp; have := HM.out; omega) (by simp; have := HM.out; omega) (by have := hR3.size; have : W.drew.heap.size = W.heap.size := rfl; have := HWB.out; omega) fun p' c' w4 O4 G4 L4 => ?_)
      refine wpAny_one (i := 8) (some 41) (by kernel_rfl) rfl rfl rfl (rn_nil (ev (hh 0 (by decide))) ?_)
      refine wpAny_one (i := 9) (some 42) (by kernel_rfl) rfl rfl rfl (rn_fld_60_0 (ev rfl) ?_)
      have hT4 : Blk t [.slice (some ⟨g, o, none⟩) (m + 1) cap] 60 w4 := hT3.chg L4 (fun hs => hO3.apart (show 34 ≠ 60 by decide) hT3 hs)
      refine wpAny_one (i := 10) none (by kernel_rfl) rfl rfl rfl (rn_st_22 (ev rfl) (ev rfl) (hT4.cell 0) (hT4.free 0) ?_)
      refine wpAny_done (by kernel_rfl) ?_ _
      have hT5 := hT4.set 0 (.slice p' (xs.length + [c].length) c')
      have hO5 : OwR (w4.setCell ⟨t, 0, none⟩ (.slice p' (xs.length + [c].length) c')) base 34 2 itc (.slice p' (xs.length + [c].length) c') (xs ++ [c]) := OwR.chg O4 (Chg.set w4 ⟨t, 0, none⟩ _) (fun a ha hs => by
        obtain ⟨cur, hk⟩ := O4.kind encI a ha
        subst ha
        have hk' : w4.heap[t]? = some (.cells cur 34 (0, 0)) := by rw [← (show a.block = t from hs)]; exact hk
        have hT4' : w4.heap[t]? = some (.cells #[.slice (some ⟨g, o, none⟩) (m + 1) cap] 60 (0, 0)) := hT4
        rw [hT4'] at hk'
        simp at hk')
      have hB5 : Below base w (w4.setCell ⟨t, 0, none⟩ (.slice p' (xs.length + [c].length) c')) :=
        ((HG.out.trans (((Grew.refl W).drw.trans hR3).mono HWB.out)).trans G4).setCell (p := ⟨t, 0, none⟩) HTB.out _
      simp only [Act.put, mixA, mixL, cond_true, cond_false, List.setIfInBounds_toArray, List.set_cons_succ, List.set_cons_zero]
      go_wp2
      go_ret
      exact ⟨rfl, ⟨p', c', by simpa using hT5, by simpa using hO5, HTB.out⟩, hB5⟩
end Go.Proofs.YtaehlpdnjfblbaaDoor
