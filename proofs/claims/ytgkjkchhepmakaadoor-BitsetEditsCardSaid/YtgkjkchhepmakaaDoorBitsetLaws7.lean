/-
  THE STATEMENT BitsetEdits OF LAYER 4 (bitset), WALKED.
-/
import Derived.Test.YtgkjkchhepmakaaDoorBitsetLaws
import Derived.Test.YtgkjkchhepmakaaDoorBitsetEdits
import Derived.Deep.SlicePairs
namespace Go.Proofs.YtgkjkchhepmakaaDoor
open Go.RowKit Go.IntWalk

/-- The slice of edits reads as l. -/
structure RdE (w : World) (p : Option Addr) (c : Nat) (l : List (Int × Bool)) : Prop where
  cap : l.length ≤ c
  max : c ≤ 9223372036854775807
  cells : 0 < l.length → ∃ b o, p = some ⟨b, o, none⟩ ∧ ∀ i e, l[i]? = some e → w.cell? ⟨b, o + i * 2, none⟩ = some (.int .i64 e.1) ∧ w.cell? ⟨b, o + i * 2 + 1, none⟩ = some (.bool e.2)
theorem RdE.kept {w w' : World} {p : Option Addr} {c : Nat} {l : List (Int × Bool)} (h : RdE w p c l) (hb : Below w.heap.size w w') : RdE w' p c l :=
  ⟨h.cap, h.max, fun hn => by
    obtain ⟨b, o, rfl, hc⟩ := h.cells hn
    refine ⟨b, o, rfl, fun i e hi => ?_⟩
    obtain ⟨h1, h2⟩ := hc i e hi
    exact ⟨(hb.cell (p := ⟨b, o + i * 2, none⟩) (World.block_lt_of_cell? _ _ h1)).trans h1, (hb.cell (p := ⟨b, o + i * 2 + 1, none⟩) (World.block_lt_of_cell? _ _ h2)).trans h2⟩⟩

theorem RdE.opened {H : Type} {enc : TypeId × Value → H} {P : Program} {t e : TypeId} {f0 f1 : Field} (ht : P.underlying t = some (.slice e)) (he : P.underlying e = some (.struct #[f0, f1]))
    (ce : P.cellsOf e = 2) (o0 : f0.offset = 0) (o1 : f1.offset = 1) (c0 : P.cellsOf f0.type = 1) (c1 : P.cellsOf f1.type = 1) (h0 : P.underlying f0.type = some (.int .i64)) (h1 : P.underlying f1.type = some .bool)
    {W : World} {a0 : Option Addr} {len cap : Nat} {d0 : DataW H} {p : List MemPlace} (h : DataW.Trod enc P W 0 (fun _ => true) true t (.slice a0 len cap) d0 p) :
    ∃ l : List (Int × Bool), l.length = len ∧ RdE W a0 cap l ∧ ∀ x ∈ l, (Lit.int .i64 x.1).wf = true := by
  obtain ⟨fuel, hf⟩ := h
  rcases Go.Deep.open_slice_pairs ht he ce o0 o1 c0 c1 hf with ⟨hcs, _⟩ | ⟨a, len', cap', m, n, V0, V1, D0, D1, P0, P1, hcs, _, hl, hm', hmm, _, hall⟩
  · simp [Value.cells] at hcs
    obtain ⟨rfl, rfl, rfl⟩ := hcs
    exact ⟨[], rfl, ⟨Nat.le_refl _, by omega, fun h => absurd h (Nat.lt_irrefl 0)⟩, fun x h => by cases h⟩
  · simp [Value.cells] at hcs
    obtain ⟨rfl, rfl, rfl⟩ := hcs
    simp only [if_true] at hmm
    subst hmm
    have each : ∀ i, i < m → ∃ q : Int × Bool, W.cell? (a.add (i * 2)) = some (.int .i64 q.1) ∧ W.cell? (a.add (i * 2 + 1)) = some (.bool q.2) ∧ (Lit.int .i64 q.1).wf = true := fun i hi => by
      obtain ⟨g0, g1, g2, g3⟩ := hall i hi
      obtain ⟨z, hz, _, hw⟩ := DataW.trod_int h0 g2
      obtain ⟨b, hb, _⟩ := DataW.trod_bool h1 g3
      simp only [List.cons.injEq, and_true] at hz hb
      exact ⟨(z, b), by rw [g0, hz], by rw [g1, hb], hw⟩
    let q : Nat → Int × Bool := fun i => if h : i < m then (each i h).choose else (0, false)
    have hq : ∀ i, i < m → W.cell? (a.add (i * 2)) = some (.int .i64 (q i).1) ∧ W.cell? (a.add (i * 2 + 1)) = some (.bool (q i).2) ∧ (Lit.int .i64 (q i).1).wf = true := fun i hi => by
      have := (each i hi).choose_spec
      simpa only [q, hi, dif_pos] using this
    refine ⟨(List.range len).map q, by simp, ⟨by simpa using hl, by simpa [maxLen] using hm', fun h => ?_⟩, fun x hx => ?_⟩
    · simp at h
      obtain ⟨b, o, s⟩ := a
      obtain rfl : s = none := by simpa [Addr.add] using World.cell?_spot (hq 0 (by omega)).1
      refine ⟨b, o, rfl, fun i e hi => ?_⟩
      have hil := (List.getElem?_eq_some_iff.1 hi).1
      simp at hil
      have he : e = q i := by simpa [hil] using hi.symm
      subst he
      have := hq i (by omega)
      rw [Go.WideShapes.add_plain, Go.WideShapes.add_plain] at this
      exact ⟨this.1, by rw [Nat.add_assoc]; exact this.2.1⟩
    · obtain ⟨i, hi, rfl⟩ := List.mem_map.1 hx
      exact (hq i (by have := List.mem_range.1 hi; omega)).2.2

theorem Core.start (l : List (Int × Bool)) {W w : World} {r : Option Addr} {k j : Nat} (hb : Below W.heap.size W w) :
    Core l W w.heap.size [] [] (.slice none 0 0) (.slice none 0 0) (w.alloc (.cells #[.slice r k j] 27)) where
  below := hb.alloc hb.size _
  high := hb.size
  allS := ⟨_, _, heap_alloc_new w _, fun v hv => by simp at hv; subst hv; rfl⟩
  a3 := Arr.nil _ _ _
  a4 := Arr.nil _ _ _
  s3 := fun u h => by cases h
  s4 := fun u h => by cases h
  o3 := fun a n c h => by cases h
  o4 := fun a n c h => by cases h
  dis := fun a n c a' n' c' h => by cases h
  b3 := fun a n c h => by cases h
  b4 := fun a n c h => by cases h
  sets := fun i u h => by simp at h
  lists := fun i u h => by simp at h
theorem info_set : (Tryd.prog.info? 27).map (fun i => (i.zero, i.size, i.bytes)) = some (some (.agg #[.slice none 0 0]), 1, 24) := by kernel_rfl
theorem info_ints : (Tryd.prog.info? 22).map (fun i => (i.zero, i.size, i.bytes)) = some (some (.slice none 0 0), 1, 24) := by kernel_rfl
theorem grew_alloc (w : World) (o : Obj) : Grew w (w.alloc o) := (Below.refl _ _).alloc (Nat.le_refl _) _
/-- The cell at the head of block E. -/
def CellV (v : Option Value) (E : Nat) (w : World) : Prop := w.cell? ⟨E, 0, none⟩ = v
theorem CellV.kept {v : Value} {E : Nat} {w w' : World} (h : CellV (some v) E w) (hg : Grew w w') : CellV (some v) E w' := (Below.cell hg (p := ⟨E, 0, none⟩) (World.block_lt_of_cell? _ _ h)).trans h

set_option maxRecDepth 20000 in
set_option maxHeartbeats 4000000 in
theorem edits_walk (p : Option Addr) (n c : Nat) (l : List (Int × Bool)) (W : World) (hn : l.length = n) (hl : RdE W p c l) (hwf0 : ∀ x ∈ l, (Lit.int .i64 x.1).wf = true) (he : Env W) :
    Calls Tryd.prog 6 #[.slice p n c] W fun e W' => e = .returned (.bool true) ∧ Below W.heap.size W W' := by
  subst hn
  have HB := Below.refl W.heap.size W
  have hcap := hl.cap
  have hmax := hl.max
  have he0 := he
  by_cases hsm : l.length ≤ 40
  · have hd : decide (l.length > 40) = false := by simpa using hsm
    go_enter Tryd.func6, Tryd.ntmps6
    go_wp2_with (first
      | (go_at_call 11; (with_reducible refine (awake_any _ he).mono ?_); rintro e w1 ⟨rfl, hb⟩; replace he := Env.kept he hb; replace HB := HB.trans (hb.mono HB.size); clear hb)
      | (go_at_call 13; (with_reducible refine (of_none _).mono ?_); rintro e w2 ⟨r, k, j, rfl, -, hs, hb⟩; replace HB := HB.trans (hb.mono HB.size); clear hb he))
    have hcore := Core.start l (r := r) (k := k) (j := j) HB
    have hbox : BoxV (fsAt l 0) w2.heap.size (w2.alloc (.cells #[.slice r k j] 27)) := ⟨r, k, j, new_cell _ _ _, (hs.kept ((Below.refl _ _).alloc (Nat.le_refl _) _)).congr fun n => by simp [ofl, fsAt]⟩
    generalize w2.alloc (.cells #[.slice r k j] 27) = V at hcore hbox ⊢
    generalize w2.heap.size = S at hcore hbox ⊢
    clear hs HB
    go_loopw [3, 4, 6, 18] (fun v3 v4 v6 i wr => ∃ (k : Nat) (hs ks : List Value), i = .int .i64 (k : Int) ∧ k ≤ l.length ∧ Hid (hs.length = k) ∧ Hid (ks.length = k) ∧ Hid (Core l W S hs ks v3 v4 wr) ∧ Hid (BoxV (fsAt l k) S wr) ∧ Hid (LstV (xsAt l k) v6 wr)) (fun _ _ _ i _ => l.length - (intOf i).toNat)
    case atStart => exact ⟨0, [], [], rfl, Nat.zero_le _, rfl, rfl, hcore, hbox, ⟨none, 0, rfl, Rd.nil _⟩⟩
    case round =>
      clear hcore hbox
      obtain ⟨k, hs, ks, rfl, hk, hhs, hks, hcore, hbox, hx⟩ := hrel
      rcases Nat.lt_or_ge k l.length with hlt | hge
      · obtain ⟨b, o, rfl, hce⟩ := (hl.kept hcore.out.below).cells (by omega)
        obtain ⟨e, hee⟩ : ∃ e, l[k]? = some e := ⟨_, List.getElem?_eq_getElem hlt⟩
        obtain ⟨hc1, hc2⟩ := hce k e hee
        have hfs := fs_succ l k e hee
        have hxs := xs_succ l k e hee
        have hz64 := hwf0 e (List.mem_of_getElem? hee)
        have hxl := xs_len l k
        have hxl2 := Lib.hid (show (xsAt l k).length ≤ 4294967296 by omega)
        replace hxl := Lib.hid (show (xsAt l k).length ≤ 1048576 by omega)
        clear hce hee
        obtain ⟨z, rem⟩ := e
        simp only at hc1 hc2
        replace hz64 := Lib.hid (wf_in (l := [z]) (fun x hx => by simp at hx; subst hx; exact hz64) z (by simp))
        cases rem with
        | true =>
          replace hfs := Lib.hid (show fsAt l (k + 1) = fun x => fsAt l k x && !ofl [z] x from hfs)
          replace hxs := Lib.hid (show xsAt l (k + 1) = subZ (xsAt l k) [z] from hxs)
          go_wp2
          clear hc1 hc2
          have hEc : CellV (some (.int .i64 z)) wr.heap.size (wr.alloc (.cells #[.int .i64 z, .bool true] 43)) := by unfold CellV; rw [World.cell?_alloc_mark]; rfl
          generalize hV : wr.alloc (.cells #[.int .i64 z, .bool true] 43) = V at hEc ⊢
          have hg : Grew wr V := by rw [← hV]; exact (Below.refl _ _).alloc (Nat.le_refl _) _
          generalize wr.heap.size = E at hEc ⊢
          have hS := (hbox.out.kept hg).kept (Grew.drew _)
          have hX := LstV.mono _ _ _ _ (Grew.drew _) (LstV.mono _ _ _ _ hg hx.out)
          replace hEc := hEc.kept (Grew.drew _)
          have hcV := (hcore.out.kept hg).kept (Grew.drew _)
          clear hcore hbox hx hV hg
          refine wp_region_tail 9 [some 24, some 25, some 26, some 27, some 28, some 29, some 30, some 31, some 32] [false, false, false, false, false, false, false, false, false, false, false, false, false, false, false, false, false, false, false, false, false, false, false, false, true, true, true, true, true, true, true, true, true, false, false, false, false, false, false, false, false, false, false, false, false, false, false, false, false, false, false, false, false, false, false, false, false, false, false, false, false, false, false, false, false, false] Grew (postAt [fun v w => SetV (fsAt l k) v w, fun v _ => v = .pointer (some ⟨E, 0, none⟩), fun v _ => v = .int .i64 z, fun v w => SetV (fun x => fsAt l k x && !ofl [z] x) v w, fun v w => LstV (xsAt l k) v w, fun v _ => v = .pointer (some ⟨E, 0, none⟩), fun v _ => v = .int .i64 z, fun v w => LstV [z] v w, fun v w => LstV (subZ (xsAt l k) [z]) v w]) (by kernel_rfl) (by kernel_rfl) (by kernel_rfl) rfl Grew.refl Grew.trans (Monos.at ?_) ⟨?_, ?_, ?_, ?_, ?_, ?_, ?_, ?_, ?_, trivial⟩ ?_
          · exact ⟨SetV.mono _, mono_eq _, mono_eq _, SetV.mono _, LstV.mono _, mono_eq _, mono_eq _, LstV.mono _, LstV.mono _, trivial⟩
          · intro u w hR hd; exact runs_box rfl (hS.kept hR)
          · intro u w hR hd; exact runs_field0 rfl ⟨Grew.refl _, rfl⟩
          · intro u w hR hd; exact runs_loadi (hd.1 rfl) (hEc.kept hR) ⟨Grew.refl _, rfl⟩
          · intro u w hR hd; exact runs_call2 enters_without rfl (hd.2.1 rfl) (without_v hz64.out (hd.1 rfl))
          · intro u w hR hd; exact runs_move ⟨Grew.refl _, LstV.mono _ _ _ _ hR hX⟩
          · intro u w hR hd; exact runs_field0 rfl ⟨Grew.refl _, rfl⟩
          · intro u w hR hd; exact runs_loadi (hd.1 rfl) (hEc.kept hR) ⟨Grew.refl _, rfl⟩
          · intro u w hR hd; exact runs_build1 (hd.1 rfl)
          · intro u w hR hd; exact runs_call2 enters_rminus rfl rfl (rminus_v hxl.out (hd.1 rfl) (hd.2.1 rfl))
          · intro u w hR h
            have hset : SetV (fsAt l (k + 1)) (u 27) w := by
              have := h 3 (by decide)
              rw [hfs.out]
              exact this
            have hlst : LstV (xsAt l (k + 1)) (u 32) w := by
              have := h 8 (by decide)
              rw [hxs.out]
              exact this
            clear h
            have hcore := hcV.kept hR
            obtain ⟨r3, m3, j3, hv3, hst⟩ := hset
            have hal := hcore.allS
            have hhit := Hit.set S 0 w (.slice r3 m3 j3)
            have hal2 := hal.set (v := .slice r3 m3 j3) rfl
            obtain ⟨_, _, _, hc0, _⟩ := hS.kept hR
            refine wpAny_one (i := 9) none (by kernel_rfl) rfl rfl rfl (runs_store (S := S) (p := r3) (n := m3) (c := j3) rfl hv3 hc0 (hal.free 0) ?_)
            have hcore := hcore.hit hhit hal2
            have hbox : BoxV (fsAt l (k + 1)) S (w.setCell ⟨S, 0, none⟩ (.slice r3 m3 j3)) := by
              obtain ⟨r', k', j', e', hs'⟩ := SetH.hit ⟨r3, m3, j3, rfl, hst⟩ hhit hal
              simp only [Value.slice.injEq] at e'
              obtain ⟨rfl, rfl, rfl⟩ := e'
              exact ⟨r3, m3, j3, World.cell?_setCell_same' _ _ _ (by rw [hc0]; rfl), hs'⟩
            have hlst := hlst.hit hhit hal
            generalize w.setCell ⟨S, 0, none⟩ (.slice r3 m3 j3) = W1 at hcore hbox hlst ⊢
            clear hst hal hhit hal2 hc0 hR hS hX hEc hcV
            refine wpAny_one (i := 10) (some 6) (by kernel_rfl) rfl rfl rfl (runs_assign (x := 32) ?_)
            obtain ⟨p6, c6, hv6, hlst⟩ := hlst
            obtain ⟨n6, hn6⟩ : ∃ n, (xsAt l (k + 1)).length = n := ⟨_, rfl⟩
            rw [hn6] at hv6
            have hlst := Lib.hid (show LstV (xsAt l (k + 1)) (.slice p6 n6 c6) W1 from ⟨p6, c6, by rw [hn6], hlst⟩)
            obtain ⟨r4, m4, j4, hc4, hst4⟩ := hbox
            replace hst4 := Lib.hid hst4
            replace hcore := Lib.hid hcore
            clear hn6
            refine wpAny_done (by kernel_rfl) ?_ _
            simp only [Act.put, mixA, mixL, cond_true, cond_false, slot, List.setIfInBounds_toArray, List.set_cons_succ, List.set_cons_zero, List.getD_cons_succ, List.getD_cons_zero]
            rw [hv6]
            clear hv6
            go_wp2_with (first
              | (at_builtin; refine wpList_append_arr rfl (.tmp 41) (.tmp 43) 40 rfl 27 (.agg #[.slice none 0 0]) (.slice none 0 0) 24 Tryd.underlying40 info_set rfl _ hs rfl (Core.a3 (hcore.out.kept (grew_alloc _ _))) _ 1 (.slice r4 m4 j4) rfl (new_cell _ _ _) rfl (by have := hhs.out; omega) (by have := hhs.out; simp only [maxLen]; omega) ?_; intro g3 c3 w3 ha3 hp3; obtain ⟨hcB, hh3, hal3, hgS3⟩ := (hcore.out.kept (grew_alloc _ _)).push3 ha3 hp3 (by rw [hhs.out]; exact ⟨r4, m4, j4, rfl, hst4.out.kept (grew_alloc _ _)⟩); have hbB := BoxV.hit (BoxV.kept ⟨r4, m4, j4, hc4, hst4.out⟩ (grew_alloc W1 _)) hh3 hal3 hgS3; have hlB := Lib.hid (LstV.hit' (LstV.mono _ _ _ _ (grew_alloc W1 _) hlst.out) hh3 hal3); clear hcore hst4 hlst hc4 ha3 hp3 hh3 hal3 hgS3; replace hcB := Lib.hid hcB; replace hbB := Lib.hid hbB)
              | (at_builtin; refine wpList_append_arr rfl (.tmp 45) (.tmp 47) 41 rfl 22 (.slice none 0 0) (.slice none 0 0) 24 Tryd.underlying41 info_ints rfl _ ks rfl (Core.a4 (hcB.out.kept (grew_alloc _ _))) _ 1 (.slice p6 n6 c6) rfl (new_cell _ _ _) rfl (by have := hks.out; omega) (by have := hks.out; simp only [maxLen]; omega) ?_; intro g4 c4 w4 ha4 hp4; obtain ⟨hcC, hh4, hal4, hgS4⟩ := (hcB.out.kept (grew_alloc _ _)).push4 ha4 hp4 (by rw [hks.out]; exact LstV.mono _ _ _ _ (grew_alloc _ _) hlB.out); have hbC := Lib.hid (BoxV.hit (hbB.out.kept (grew_alloc w3 _)) hh4 hal4 hgS4); have hlC := Lib.hid (LstV.hit' (LstV.mono _ _ _ _ (grew_alloc w3 _) hlB.out) hh4 hal4); clear hcB hbB hlB ha4 hp4 hh4 hal4 hgS4; replace hcC := Lib.hid hcC))
            go_roundw
            case rel => exact ⟨k + 1, _, _, by simp, hlt, Lib.hid (by rw [List.length_append, hhs.out]; rfl), Lib.hid (by rw [List.length_append, hks.out]; rfl), hcC, hbC, hlC⟩
            case measure => simp [intOf]; omega

        | false =>
          replace hfs := Lib.hid (show fsAt l (k + 1) = fun x => fsAt l k x || ofl [z] x from hfs)
          replace hxs := Lib.hid (show xsAt l (k + 1) = insZ (xsAt l k) z from hxs)
          go_wp2
          clear hc1 hc2
          have hEc : CellV (some (.int .i64 z)) wr.heap.size (wr.alloc (.cells #[.int .i64 z, .bool false] 43)) := by unfold CellV; rw [World.cell?_alloc_mark]; rfl
          generalize hV : wr.alloc (.cells #[.int .i64 z, .bool false] 43) = V at hEc ⊢
          have hg : Grew wr V := by rw [← hV]; exact (Below.refl _ _).alloc (Nat.le_refl _) _
          generalize wr.heap.size = E at hEc ⊢
          have hS := (hbox.out.kept hg).kept (Grew.drew _)
          have hX := LstV.mono _ _ _ _ (Grew.drew _) (LstV.mono _ _ _ _ hg hx.out)
          replace hEc := hEc.kept (Grew.drew _)
          have hcV := (hcore.out.kept hg).kept (Grew.drew _)
          clear hcore hbox hx hV hg
          refine wp_region_tail 8 [some 33, some 34, some 35, some 36, some 37, some 38, some 39, some 40] [false, false, false, false, false, false, false, false, false, false, false, false, false, false, false, false, false, false, false, false, false, false, false, false, false, false, false, false, false, false, false, false, false, true, true, true, true, true, true, true, true, false, false, false, false, false, false, false, false, false, false, false, false, false, false, false, false, false, false, false, false, false, false, false, false, false] Grew (postAt [fun v w => SetV (fsAt l k) v w, fun v _ => v = .pointer (some ⟨E, 0, none⟩), fun v _ => v = .int .i64 z, fun v w => SetV (fun x => fsAt l k x || ofl [z] x) v w, fun v w => LstV (xsAt l k) v w, fun v _ => v = .pointer (some ⟨E, 0, none⟩), fun v _ => v = .int .i64 z, fun v w => LstV (insZ (xsAt l k) z) v w]) (by kernel_rfl) (by kernel_rfl) (by kernel_rfl) rfl Grew.refl Grew.trans (Monos.at ?_) ⟨?_, ?_, ?_, ?_, ?_, ?_, ?_, ?_, trivial⟩ ?_
          · exact ⟨SetV.mono _, mono_eq _, mono_eq _, SetV.mono _, LstV.mono _, mono_eq _, mono_eq _, LstV.mono _, trivial⟩
          · intro u w hR hd; exact runs_box rfl (hS.kept hR)
          · intro u w hR hd; exact runs_field0 rfl ⟨Grew.refl _, rfl⟩
          · intro u w hR hd; exact runs_loadi (hd.1 rfl) (hEc.kept hR) ⟨Grew.refl _, rfl⟩
          · intro u w hR hd; exact runs_call2 enters_with rfl (hd.2.1 rfl) (with_v hz64.out (hd.1 rfl))
          · intro u w hR hd; exact runs_move ⟨Grew.refl _, LstV.mono _ _ _ _ hR hX⟩
          · intro u w hR hd; exact runs_field0 rfl ⟨Grew.refl _, rfl⟩
          · intro u w hR hd; exact runs_loadi (hd.1 rfl) (hEc.kept hR) ⟨Grew.refl _, rfl⟩
          · intro u w hR hd; exact runs_call2 enters_rwith rfl (hd.2.1 rfl) (rwith_v hxl2.out (hd.1 rfl))
          · intro u w hR h
            have hset : SetV (fsAt l (k + 1)) (u 36) w := by
              have := h 3 (by decide)
              rw [hfs.out]
              exact this
            have hlst : LstV (xsAt l (k + 1)) (u 40) w := by
              have := h 7 (by decide)
              rw [hxs.out]
              exact this
            clear h
            have hcore := hcV.kept hR
            obtain ⟨r3, m3, j3, hv3, hst⟩ := hset
            have hal := hcore.allS
            have hhit := Hit.set S 0 w (.slice r3 m3 j3)
            have hal2 := hal.set (v := .slice r3 m3 j3) rfl
            obtain ⟨_, _, _, hc0, _⟩ := hS.kept hR
            refine wpAny_one (i := 8) none (by kernel_rfl) rfl rfl rfl (runs_store (S := S) (p := r3) (n := m3) (c := j3) rfl hv3 hc0 (hal.free 0) ?_)
            have hcore := hcore.hit hhit hal2
            have hbox : BoxV (fsAt l (k + 1)) S (w.setCell ⟨S, 0, none⟩ (.slice r3 m3 j3)) := by
              obtain ⟨r', k', j', e', hs'⟩ := SetH.hit ⟨r3, m3, j3, rfl, hst⟩ hhit hal
              simp only [Value.slice.injEq] at e'
              obtain ⟨rfl, rfl, rfl⟩ := e'
              exact ⟨r3, m3, j3, World.cell?_setCell_same' _ _ _ (by rw [hc0]; rfl), hs'⟩
            have hlst := hlst.hit hhit hal
            generalize w.setCell ⟨S, 0, none⟩ (.slice r3 m3 j3) = W1 at hcore hbox hlst ⊢
            clear hst hal hhit hal2 hc0 hR hS hX hEc hcV
            refine wpAny_one (i := 9) (some 6) (by kernel_rfl) rfl rfl rfl (runs_assign (x := 40) ?_)
            obtain ⟨p6, c6, hv6, hlst⟩ := hlst
            obtain ⟨n6, hn6⟩ : ∃ n, (xsAt l (k + 1)).length = n := ⟨_, rfl⟩
            rw [hn6] at hv6
            have hlst := Lib.hid (show LstV (xsAt l (k + 1)) (.slice p6 n6 c6) W1 from ⟨p6, c6, by rw [hn6], hlst⟩)
            obtain ⟨r4, m4, j4, hc4, hst4⟩ := hbox
            replace hst4 := Lib.hid hst4
            replace hcore := Lib.hid hcore
            clear hn6
            refine wpAny_done (by kernel_rfl) ?_ _
            simp only [Act.put, mixA, mixL, cond_true, cond_false, slot, List.setIfInBounds_toArray, List.set_cons_succ, List.set_cons_zero, List.getD_cons_succ, List.getD_cons_zero]
            rw [hv6]
            clear hv6
            go_wp2_with (first
              | (at_builtin; refine wpList_append_arr rfl (.tmp 41) (.tmp 43) 40 rfl 27 (.agg #[.slice none 0 0]) (.slice none 0 0) 24 Tryd.underlying40 info_set rfl _ hs rfl (Core.a3 (hcore.out.kept (grew_alloc _ _))) _ 1 (.slice r4 m4 j4) rfl (new_cell _ _ _) rfl (by have := hhs.out; omega) (by have := hhs.out; simp only [maxLen]; omega) ?_; intro g3 c3 w3 ha3 hp3; obtain ⟨hcB, hh3, hal3, hgS3⟩ := (hcore.out.kept (grew_alloc _ _)).push3 ha3 hp3 (by rw [hhs.out]; exact ⟨r4, m4, j4, rfl, hst4.out.kept (grew_alloc _ _)⟩); have hbB := BoxV.hit (BoxV.kept ⟨r4, m4, j4, hc4, hst4.out⟩ (grew_alloc W1 _)) hh3 hal3 hgS3; have hlB := Lib.hid (LstV.hit' (LstV.mono _ _ _ _ (grew_alloc W1 _) hlst.out) hh3 hal3); clear hcore hst4 hlst hc4 ha3 hp3 hh3 hal3 hgS3; replace hcB := Lib.hid hcB; replace hbB := Lib.hid hbB)
              | (at_builtin; refine wpList_append_arr rfl (.tmp 45) (.tmp 47) 41 rfl 22 (.slice none 0 0) (.slice none 0 0) 24 Tryd.underlying41 info_ints rfl _ ks rfl (Core.a4 (hcB.out.kept (grew_alloc _ _))) _ 1 (.slice p6 n6 c6) rfl (new_cell _ _ _) rfl (by have := hks.out; omega) (by have := hks.out; simp only [maxLen]; omega) ?_; intro g4 c4 w4 ha4 hp4; obtain ⟨hcC, hh4, hal4, hgS4⟩ := (hcB.out.kept (grew_alloc _ _)).push4 ha4 hp4 (by rw [hks.out]; exact LstV.mono _ _ _ _ (grew_alloc _ _) hlB.out); have hbC := Lib.hid (BoxV.hit (hbB.out.kept (grew_alloc w3 _)) hh4 hal4 hgS4); have hlC := Lib.hid (LstV.hit' (LstV.mono _ _ _ _ (grew_alloc w3 _) hlB.out) hh4 hal4); clear hcB hbB hlB ha4 hp4 hh4 hal4 hgS4; replace hcC := Lib.hid hcC))
            go_roundw
            case rel => exact ⟨k + 1, _, _, by simp, hlt, Lib.hid (by rw [List.length_append, hhs.out]; rfl), Lib.hid (by rw [List.length_append, hks.out]; rfl), hcC, hbC, hlC⟩
            case measure => simp [intOf]; omega

      · obtain rfl : k = l.length := by omega
        obtain ⟨q3, c3, rfl⟩ := hcore.out.a3.shape
        obtain ⟨q4, c4, rfl⟩ := hcore.out.a4.shape
        rw [hhs.out] at hcore ⊢
        rw [hks.out] at hcore ⊢
        clear hbox hx
        go_wp2
        go_loopw [52] (fun i wz => ∃ m : Nat, i = .int .i64 (m : Int) ∧ m ≤ l.length ∧ Hid (Core l W S hs ks (.slice q3 l.length c3) (.slice q4 l.length c4) wz)) (fun i _ => l.length - (intOf i).toNat)
        case atStart => exact ⟨0, rfl, Nat.zero_le _, hcore⟩
        case round =>
          clear hcore
          obtain ⟨m, rfl, hm, hcore⟩ := hrel
          rcases Nat.lt_or_ge m l.length with hlt | hge
          · obtain ⟨g3, hg3⟩ : ∃ g, q3 = some ⟨g, 0, none⟩ := by
              rcases hcore.out.a3 with ⟨h, h2⟩ | ⟨g, cap, h, _⟩
              · have := hhs.out; subst h2; simp at this; omega
              · simp only [Value.slice.injEq] at h; exact ⟨g, h.1⟩
            obtain ⟨g4, hg4⟩ : ∃ g, q4 = some ⟨g, 0, none⟩ := by
              rcases hcore.out.a4 with ⟨h, h2⟩ | ⟨g, cap, h, _⟩
              · have := hks.out; subst h2; simp at this; omega
              · simp only [Value.slice.injEq] at h; exact ⟨g, h.1⟩
            subst hg3 hg4
            obtain ⟨x3, hx3⟩ : ∃ x, hs[m]? = some x := ⟨_, List.getElem?_eq_getElem (by rw [hhs.out]; exact hlt)⟩
            obtain ⟨x4, hx4⟩ : ∃ x, ks[m]? = some x := ⟨_, List.getElem?_eq_getElem (by rw [hks.out]; exact hlt)⟩
            have hcD := hcore.out.kept (Grew.drew _)
            replace hx3 := Lib.hid hx3
            replace hx4 := Lib.hid hx4
            go_wp2
            have hsame := fun (w : World) (hR : Grew wr.drew w) (u v : Value) (h1 : SetV (fsAt l (m + 1)) u w) (h2 : LstV (xsAt l (m + 1)) v w) => same_v (xs_list l (m + 1)) (he0.kept (hcD.kept hR).below) h1 h2
            refine wp_posts [some 55, some 56, some 57, some 58, some 59, some 60, some 61, some 62, some 63, some 64] [false, false, false, false, false, false, false, false, false, false, false, false, false, false, false, false, false, false, false, false, false, false, false, false, false, false, false, false, false, false, false, false, false, false, false, false, false, false, false, false, false, false, false, false, false, false, false, false, false, false, false, false, false, false, false, true, true, true, true, true, true, true, true, true, true, false] [fun v _ => v = .slice (some ⟨g3, 0, none⟩) l.length c3, fun v _ => v = .int .i64 (m : Int), fun v _ => v = .pointer (some ⟨g3, m, none⟩), fun v w => SetV (fsAt l (m + 1)) v w, fun v _ => v = .slice (some ⟨g4, 0, none⟩) l.length c4, fun v _ => v = .int .i64 (m : Int), fun v _ => v = .pointer (some ⟨g4, m, none⟩), fun v w => LstV (xsAt l (m + 1)) v w, fun v _ => v = .bool true, fun v _ => v = .bool false] (by kernel_rfl) (by kernel_rfl) rfl ?_ ⟨?_, ?_, ?_, ?_, ?_, ?_, ?_, ?_, ?_, ?_, trivial⟩ ?_
            · exact ⟨mono_eq _, mono_eq _, mono_eq _, SetV.mono _, mono_eq _, mono_eq _, mono_eq _, LstV.mono _, mono_eq _, mono_eq _, trivial⟩
            · intro u w hR hd; exact runs_move ⟨Grew.refl _, rfl⟩
            · intro u w hR hd; exact runs_move ⟨Grew.refl _, rfl⟩
            · intro u w hR hd; exact runs_index3 (hd.1 rfl) (hd.2.1 rfl) hlt ⟨Grew.refl _, rfl⟩
            · intro u w hR hd; exact runs_loadset (hd.1 rfl) ((hcD.kept hR).a3.cell m x3 hx3.out) ((hcD.kept hR).sets m x3 hx3.out)
            · intro u w hR hd; exact runs_move ⟨Grew.refl _, rfl⟩
            · intro u w hR hd; exact runs_move ⟨Grew.refl _, rfl⟩
            · intro u w hR hd; exact runs_index4 (hd.1 rfl) (hd.2.1 rfl) hlt ⟨Grew.refl _, rfl⟩
            · intro u w hR hd; exact runs_loadlst (hd.1 rfl) ((hcD.kept hR).a4.cell m x4 hx4.out) ((hcD.kept hR).lists m x4 hx4.out)
            · intro u w hR hd; exact runs_call2 enters_same rfl rfl (hsame w hR _ _ (hd.1 rfl) (hd.2.1 rfl))
            · intro u w hR hd; exact runs_not (hd.1 rfl) ⟨Grew.refl _, rfl⟩
            · intro u w hR h
              have hf : u 64 = .bool false := h 9 (by decide)
              have hcE := Lib.hid (hcD.kept hR)
              simp only [mixA, mixL, cond_true, cond_false]
              rw [hf]
              clear h hcD hsame hcore hR
              go_wp2
              go_roundw
              case rel => exact ⟨m + 1, by simp, hlt, hcE⟩
              case measure => simp [intOf]; omega
          · obtain rfl : m = l.length := by omega
            go_wp2
            go_ret
            exact ⟨rfl, hcore.out.below⟩
  · have hd : decide (l.length > 40) = true := by simpa using hsm
    go_enter Tryd.func6, Tryd.ntmps6
    go_wp2_with (first
      | (go_at_call 11; (with_reducible refine (awake_any _ he).mono ?_); rintro e w1 ⟨rfl, hb⟩; replace HB := HB.trans (hb.mono HB.size); clear hb))
    go_ret
    exact ⟨rfl, HB⟩
end Go.Proofs.YtgkjkchhepmakaaDoor
