/-
  LAYER 6 (deadlinequeue): the heap's Swap.
-/
import Derived.Test.YtjcoghjkjnhljaaDqObj
import Derived.BigRegion
namespace Go.Proofs.Ytjcoghjkjnhljaa
open Go Go.RowKit Go.IntWalk Go.Sort
set_option maxRecDepth 8000

section
variable {dst : Option Tmp} {ty : TypeId} {pos : String} {after : Array Edge} {g : Option (Nat × Bool)} {a : Act} {w : World} {T : Value → World → Prop}
theorem runs_mapupP {x y z : Nat} {b s : Nat} {i v : Int} {f : Int → Option Int} (hx : a.eval (.tmp x) = .map (some b)) (hy : a.eval (.tmp y) = .int .i64 i) (hz : a.eval (.tmp z) = .int .i64 v) (hM : MapP w b s f) (hs : s < maxLen) (hi : In64 i) (hv : In64 v)
    (h : ∀ w', MapP w' b (if (f i).isSome then s else s + 1) (fun j => if j = i then some v else f j) → w.mapTurned w' b → T undef w') : Runs Try.prog ⟨dst, .mapUpdate 61 (.tmp x) (.tmp y) (.tmp z), ty, pos, after, g⟩ a w T := by
  obtain ⟨w', hrun, h1, h2⟩ := MapG.store Try.underlying3 Try.underlying61 hM hs hi (v := v) hv.wf
  refine Runs.skip (w' := w') ?_ (h w' h1 h2)
  simp only [execOp, hx, hy, hz]
  have hrun' : Sem.run Try.prog (Instr.mapUpdate 61 (.map (some b)) (.int .i64 i) (.int .i64 v)) w = .ok () w' := hrun
  simp [hrun', Result.andThen]
end
theorem Rec.turned {w w' : World} {q b : Nat} {p : Option Addr} {n c : Nat} {m : Option Nat} (h : Rec w q p n c m) (ht : w.mapTurned w' b) (hq : q ≠ b) : Rec w' q p n c m := h.keep (mapTurned_other ht q hq)
theorem rec_own_ne {w : World} {q g : Nat} {p : Option Addr} {n c n' c' base : Nat} {m : Option Nat} {xs : List It} (h : Rec w q p n c m) (ho : OwI w base 32 (.slice (some ⟨g, 0, none⟩) n' c') xs) : g ≠ q := fun e => by
  subst e
  unfold Rec at h
  rcases ho.parts with ⟨p', c'', hv, _, ⟨hp, _⟩ | ⟨g', cur, hp, _, hg, _⟩⟩
  · simp only [Value.slice.injEq] at hv
    obtain ⟨rfl, _, _⟩ := hv
    cases hp
  · simp only [Value.slice.injEq] at hv
    obtain ⟨rfl, _, _⟩ := hv
    simp only [Option.some.injEq, Addr.mk.injEq, and_true] at hp
    rw [hp, hg] at h
    simp only [Option.some.injEq, Obj.cells.injEq] at h
    exact absurd h.2.1 (by decide)
theorem Chg.turn {a b b' c : World} {S : Nat → Prop} {m : Nat} (h : Chg a b S) (hb : Grew b b') (ht : b'.mapTurned c m) (hm : S m) : Chg a c S :=
  (h.trans (Chg.of_grew hb S)).trans ((Chg.of_turned ht).mono fun k hk => by rw [hk]; exact hm)
/-- The rows exchanged. -/
abbrev swapW (w : World) (g i j : Nat) (x y : It) : World := (((w.setCell ⟨g, i * 2, none⟩ (.int .i64 y.1)).setCell ⟨g, i * 2 + 1, none⟩ (.int .i64 y.2)).setCell ⟨g, j * 2, none⟩ (.int .i64 x.1)).setCell ⟨g, j * 2 + 1, none⟩ (.int .i64 x.2)
theorem swap_world {w : World} {q g b c i j : Nat} {d : Array It} (h : QueM w q d (some ⟨g, 0, none⟩) c (some b)) (hi : i < d.size) (hj : j < d.size) :
    Rec (swapW w g i j d[i]! d[j]!) q (some ⟨g, 0, none⟩) d.size c (some b) ∧ OwI (swapW w g i j d[i]! d[j]!) (q + 1) 32 (.slice (some ⟨g, 0, none⟩) d.size c) (swp d i j).toList ∧ MapP (swapW w g i j d[i]! d[j]!) b d.size (plc d) ∧ Chg w (swapW w g i j d[i]! d[j]!) (fun k => k = g) := by
  obtain ⟨g', b', e1, e2, h1, h2, h3, h4, h5⟩ := h.full (by omega)
  obtain rfl : g = g' := by simpa using e1
  obtain rfl : b = b' := by simpa using e2
  have hc : Chg w (swapW w g i j d[i]! d[j]!) (fun k => k = g) := (((Chg.set w ⟨g, i * 2, none⟩ _).trans (Chg.set _ ⟨g, i * 2 + 1, none⟩ _)).trans (Chg.set _ ⟨g, j * 2, none⟩ _)).trans (Chg.set _ ⟨g, j * 2 + 1, none⟩ _)
  refine ⟨h.record.keep (hc.block q h.record.lt (by omega)), ?_, MapG.keep h4 (hc.block b (MapG.lt h4) (Ne.symm h5)), hc⟩
  have h6 := OwI.set (OwI.set h.own i d[j]! (by simpa using hi)) j d[i]! (by simpa using hj)
  rw [swp_toList]
  exact h6
theorem Rd_bx {w : World} {base g n c : Nat} {e : TypeId} {d : Array It} (h : OwI w base e (.slice (some ⟨g, 0, none⟩) n c) d.toList) (k : Nat) (hk : k < d.size) : Bx g (0 + k * 2) d[k]! w := h.rd.2.bx k _ (get_toList d k hk)
set_option maxHeartbeats 4000000 in
theorem swap_full (q g b c i j : Nat) (d : Array It) (w : World) (h : QueM w q d (some ⟨g, 0, none⟩) c (some b)) (hi : i < d.size) (hj : j < d.size) (hsz : d.size ≤ 1000000) :
    Calls Try.prog 85 #[.pointer (some ⟨q, 0, none⟩), .int .i64 (i : Int), .int .i64 (j : Int)] w fun e w' => e = .returned (.tuple #[]) ∧ QueM w' q (swp d i j) (some ⟨g, 0, none⟩) c (some b) ∧ Chg w w' (fun k => k = g ∨ k = b) := by
  have hi1 : (i : Int) < (d.size : Int) := by omega
  have hj1 : (j : Int) < (d.size : Int) := by omega
  obtain ⟨g', b', e1, e2, l1, l2, l3, hP, hgb⟩ := h.full (by omega)
  obtain rfl : g = g' := by simpa using e1
  obtain rfl : b = b' := by simpa using e2
  clear e1 e2
  obtain ⟨R1, O1, M1, C1⟩ := swap_world h hi hj
  obtain ⟨hS, hM, _⟩ := h.record.cells
  have hxb := Rd_bx h.own i hi
  have hyb := Rd_bx h.own j hj
  have hf : ∀ o, w.frozen? ⟨g, o, none⟩ = false := fun o => (h.own.free o).2
  have hids := h.ids
  have hin := h.in64
  generalize hdi : d[i]! = x at *
  generalize hdj : d[j]! = y at *
  rw [Nat.zero_add] at hxb hyb
  obtain ⟨hx0, hx1⟩ := hxb
  obtain ⟨hy0, hy1⟩ := hyb
  have In := Lib.hid hin
  have Hdi := Lib.hid hdi
  have Hdj := Lib.hid hdj
  have R1' := Lib.hid R1
  have O1' := Lib.hid O1
  have M1' := Lib.hid M1
  have C1' := Lib.hid C1
  have Ids' := Lib.hid hids
  have L := Lib.hid (show q ≠ b ∧ g ≠ b ∧ g < w.heap.size ∧ b < w.heap.size ∧ q < b from ⟨by omega, hgb, l2, MapG.lt hP, l3⟩)
  obtain ⟨v1, hz0⟩ : ∃ v, (w.setCell ⟨g, i * 2, none⟩ (.int .i64 y.1)).cell? ⟨g, j * 2, none⟩ = some v := cell?_setCell_some hy0
  obtain ⟨v2, hz1⟩ : ∃ v, ((w.setCell ⟨g, i * 2, none⟩ (.int .i64 y.1)).setCell ⟨g, i * 2 + 1, none⟩ (.int .i64 y.2)).cell? ⟨g, j * 2 + 1, none⟩ = some v := by
    obtain ⟨v', h⟩ := cell?_setCell_some (w := w) (p := ⟨g, i * 2, none⟩) (x := .int .i64 y.1) (q := ⟨g, j * 2 + 1, none⟩) (v := .int .i64 y.2) hy1
    exact cell?_setCell_some (p := ⟨g, i * 2 + 1, none⟩) (x := .int .i64 y.2) h
  clear R1 O1 M1 C1 hids hdi hdj h hP hgb hin l1 l2 l3
  go_enter Try.func85, Try.ntmps85
  go_wp2_with fail
  go_region
  go_wp2
  clear hS hM hx0 hx1 hy0 hy1 hf hz0 hz1
  have R1 := R1'.out
  have O1 := O1'.out
  have M1 := M1'.out
  have C1 := C1'.out
  clear R1' O1' M1' C1'
  unfold swapW at R1 O1 M1 C1
  generalize hW : World.setCell (World.setCell (World.setCell (World.setCell w _ _) _ _) _ _) _ _ = W at R1 O1 M1 C1 ⊢
  clear hW
  have hs2 : (swp d i j).size = d.size := swp_size d i j
  have ei : (swp d i j)[i]! = y := by
    rw [swp_get d hi hj]
    split
    · rename_i e; rw [← Hdj.out, ← e]
    · rw [if_pos rfl, Hdj.out]
  have ej : (swp d i j)[j]! = x := by rw [swp_get d hi hj, if_pos rfl, Hdi.out]
  have hbi := Rd_bx O1 i (by omega)
  have hbj := Rd_bx O1 j (by omega)
  rw [ei] at hbi
  rw [ej] at hbj
  have inx : In64 x.1 := Hdi.out ▸ In.out i hi
  have iny : In64 y.1 := Hdj.out ▸ In.out j hj
  have hS : Cel q 0 (.slice (some ⟨g, 0, none⟩) d.size c) W.drew.drew := ⟨(Rec.cells R1).1⟩
  have hM : Cel q 1 (.map (some b)) W.drew.drew := ⟨(Rec.cells R1).2.1⟩
  have dj0 : Cel g (0 + i * 2) (.int .i64 y.1) W.drew.drew := ⟨hbi.c0⟩
  refine wp_still_tail 13 [some 32, some 33, some 34, some 35, some 36, some 37, some 38, some 39, some 40, some 41, some 42, some 43, some 44] [false, false, false, false, false, false, false, false, false, false, false, false, false, false, false, false, false, false, false, false, false, false, false, false, false, false, false, false, false, false, false, false, true, true, true, true, true, true, true, true, true, true, true, true, true, false, false, false, false, false, false, false, false, false, false, false, false, false] [fun v _ => v = .pointer (some ⟨q, 0, none⟩), fun v _ => v = .pointer (some ⟨q, 0, none⟩), fun v _ => v = .pointer (some ⟨q, 1, none⟩), fun v _ => v = .map (some b), fun v _ => v = .pointer (some ⟨q, 0, none⟩), fun v _ => v = .pointer (some ⟨q, 0, none⟩), fun v _ => v = .pointer (some ⟨q, 0, none⟩), fun v _ => v = .slice (some ⟨g, 0, none⟩) (d.size) (c), fun v _ => v = .int .i64 ((i : Int)), fun v _ => v = .pointer (some ⟨g, 0 + i * 2, none⟩), fun v _ => v = .pointer (some ⟨g, 0 + i * 2, none⟩), fun v _ => v = .int .i64 (y.1), fun v _ => v = .int .i64 ((i : Int))] (by kernel_rfl) (by kernel_rfl) (by kernel_rfl) rfl ⟨?_, ?_, ?_, ?_, ?_, ?_, ?_, ?_, ?_, ?_, ?_, ?_, ?_, trivial⟩ ?_
  · intro u w hR hd; exact runs_mv (ev rfl) ⟨rfl, rfl⟩
  · intro u w hR hd; exact runs_nil (ev (hd.1 rfl)) ⟨rfl, rfl⟩
  · intro u w hR hd; exact runs_fld63_1 (ev (hd.1 rfl)) ⟨rfl, rfl⟩
  · intro u w hR hd; exact runs_ld61 (ev (hd.1 rfl)) (hM.kept hR) ⟨rfl, rfl⟩
  · intro u w hR hd; exact runs_mv (ev rfl) ⟨rfl, rfl⟩
  · intro u w hR hd; exact runs_nil (ev (hd.1 rfl)) ⟨rfl, rfl⟩
  · intro u w hR hd; exact runs_fld63_0 (ev (hd.1 rfl)) ⟨rfl, rfl⟩
  · intro u w hR hd; exact runs_ld39 (ev (hd.1 rfl)) (hS.kept hR) ⟨rfl, rfl⟩
  · intro u w hR hd; exact runs_mv (ev rfl) ⟨rfl, rfl⟩
  · intro u w hR hd; exact runs_ix39 (ev (hd.1 rfl)) (ev (hd.2.1 rfl)) (by omega) ⟨rfl, rfl⟩
  · intro u w hR hd; exact runs_fld32_0 (ev (hd.1 rfl)) ⟨rfl, rfl⟩
  · intro u w hR hd; exact runs_ld3 (ev (hd.1 rfl)) (dj0.kept hR) ⟨rfl, rfl⟩
  · intro u w hR hd; exact runs_mv (ev rfl) ⟨rfl, rfl⟩
  · intro uu h
    refine wpAny_one (i := 13) none (by kernel_rfl) rfl rfl rfl (runs_mapupP (ev (h 3 (by decide))) (ev (h 11 (by decide))) (ev (h 12 (by decide))) (show MapP W.drew.drew b d.size (plc d) from M1) (by unfold maxLen; omega) iny (by unfold In64; omega) fun w2 M2 T2 => ?_)
    refine wpAny_done (by kernel_rfl) ?_ _
    have hsome : (plc d y.1).isSome = true := by rw [← Hdj.out, plc_at Ids'.out hj]; rfl
    rw [hsome, if_pos rfl] at M2
    have R2 : Rec w2 q (some ⟨g, 0, none⟩) d.size c (some b) := Rec.turned (w := W.drew.drew) R1 T2 L.out.1
    have O2 : OwI w2 (q + 1) 32 (.slice (some ⟨g, 0, none⟩) d.size c) (swp d i j).toList := OwI.keep (w := W.drew.drew) O1 fun a ha _ => by
      obtain rfl := Option.some.inj ha
      exact mapTurned_other T2 g L.out.2.1
    have C2 : Chg w w2 (fun k => k = g ∨ k = b) := (C1.mono fun k hk => .inl hk).turn ((Grew.drew W).drw) T2 (.inr rfl)
    have hbj := Rd_bx O2 j (by omega)
    rw [ej] at hbj
    clear hS hM dj0 hbi T2 R1 O1 M1 C1 ei
    simp only [Act.put, mixA, mixL, cond_true, cond_false]
    go_wp2_with fail
    have hS : Cel q 0 (.slice (some ⟨g, 0, none⟩) d.size c) w2.drew := ⟨(Rec.cells R2).1⟩
    have hM : Cel q 1 (.map (some b)) w2.drew := ⟨(Rec.cells R2).2.1⟩
    have di0 : Cel g (0 + j * 2) (.int .i64 x.1) w2.drew := ⟨hbj.c0⟩
    refine wp_still_tail 13 [some 45, some 46, some 47, some 48, some 49, some 50, some 51, some 52, some 53, some 54, some 55, some 56, some 57] [false, false, false, false, false, false, false, false, false, false, false, false, false, false, false, false, false, false, false, false, false, false, false, false, false, false, false, false, false, false, false, false, false, false, false, false, false, false, false, false, false, false, false, false, false, true, true, true, true, true, true, true, true, true, true, true, true, true] [fun v _ => v = .pointer (some ⟨q, 0, none⟩), fun v _ => v = .pointer (some ⟨q, 0, none⟩), fun v _ => v = .pointer (some ⟨q, 1, none⟩), fun v _ => v = .map (some b), fun v _ => v = .pointer (some ⟨q, 0, none⟩), fun v _ => v = .pointer (some ⟨q, 0, none⟩), fun v _ => v = .pointer (some ⟨q, 0, none⟩), fun v _ => v = .slice (some ⟨g, 0, none⟩) (d.size) (c), fun v _ => v = .int .i64 ((j : Int)), fun v _ => v = .pointer (some ⟨g, 0 + j * 2, none⟩), fun v _ => v = .pointer (some ⟨g, 0 + j * 2, none⟩), fun v _ => v = .int .i64 (x.1), fun v _ => v = .int .i64 ((j : Int))] (by kernel_rfl) (by kernel_rfl) (by kernel_rfl) rfl ⟨?_, ?_, ?_, ?_, ?_, ?_, ?_, ?_, ?_, ?_, ?_, ?_, ?_, trivial⟩ ?_
    · intro u w hR hd; exact runs_mv (ev rfl) ⟨rfl, rfl⟩
    · intro u w hR hd; exact runs_nil (ev (hd.1 rfl)) ⟨rfl, rfl⟩
    · intro u w hR hd; exact runs_fld63_1 (ev (hd.1 rfl)) ⟨rfl, rfl⟩
    · intro u w hR hd; exact runs_ld61 (ev (hd.1 rfl)) (hM.kept hR) ⟨rfl, rfl⟩
    · intro u w hR hd; exact runs_mv (ev rfl) ⟨rfl, rfl⟩
    · intro u w hR hd; exact runs_nil (ev (hd.1 rfl)) ⟨rfl, rfl⟩
    · intro u w hR hd; exact runs_fld63_0 (ev (hd.1 rfl)) ⟨rfl, rfl⟩
    · intro u w hR hd; exact runs_ld39 (ev (hd.1 rfl)) (hS.kept hR) ⟨rfl, rfl⟩
    · intro u w hR hd; exact runs_mv (ev rfl) ⟨rfl, rfl⟩
    · intro u w hR hd; exact runs_ix39 (ev (hd.1 rfl)) (ev (hd.2.1 rfl)) (by omega) ⟨rfl, rfl⟩
    · intro u w hR hd; exact runs_fld32_0 (ev (hd.1 rfl)) ⟨rfl, rfl⟩
    · intro u w hR hd; exact runs_ld3 (ev (hd.1 rfl)) (di0.kept hR) ⟨rfl, rfl⟩
    · intro u w hR hd; exact runs_mv (ev rfl) ⟨rfl, rfl⟩
    · intro uu h
      refine wpAny_one (i := 13) none (by kernel_rfl) rfl rfl rfl (runs_mapupP (ev (h 3 (by decide))) (ev (h 11 (by decide))) (ev (h 12 (by decide))) (show MapP w2.drew b d.size _ from M2) (by unfold maxLen; omega) inx (by unfold In64; omega) fun w3 M3 T3 => ?_)
      refine wpAny_done (by kernel_rfl) ?_ _
      have hsome2 : (if x.1 = y.1 then some (i : Int) else plc d x.1).isSome = true := by
        split
        · rfl
        · rw [← Hdi.out, plc_at Ids'.out hi]; rfl
      rw [hsome2, if_pos rfl] at M3
      have R3 : Rec w3 q (some ⟨g, 0, none⟩) d.size c (some b) := Rec.turned (w := w2.drew) R2 T3 L.out.1
      have O3 : OwI w3 (q + 1) 32 (.slice (some ⟨g, 0, none⟩) d.size c) (swp d i j).toList := OwI.keep (w := w2.drew) O2 fun a ha _ => by
        obtain rfl := Option.some.inj ha
        exact mapTurned_other T3 g L.out.2.1
      have C3 : Chg w w3 (fun k => k = g ∨ k = b) := C2.turn (Grew.drew w2) T3 (.inr rfl)
      have hpl := plc_swp Ids'.out hi hj
      rw [Hdi.out, Hdj.out] at hpl
      have M4 : MapP w3 b (swp d i j).size (plc (swp d i j)) := by rw [← hpl, hs2]; exact M3
      clear M3 hpl
      have hq : q < b := L.out.2.2.2.2
      simp only [Act.put, mixA, mixL, cond_true, cond_false]
      go_end0
      refine ⟨rfl, ⟨by rw [hs2]; exact R3, by rw [hs2]; exact O3, .inr ⟨b, rfl, hq, M4⟩, ids_perm (swp_perm d hi hj).symm Ids'.out, fun k hk => ?_⟩, C3⟩
      rw [swp_get d hi hj]
      split
      · rw [Hdi.out]; exact inx
      · split
        · rw [Hdj.out]; exact iny
        · exact In.out k (by omega)
end Go.Proofs.Ytjcoghjkjnhljaa
