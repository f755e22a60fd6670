/-
  LAYER 6 (deadlinequeue): the statements' Copies.
-/
import Derived.Test.YtjcoghjkjnhljaaDqLaw5
import Derived.Test.YtjcoghjkjnhljaaDqLaw4
namespace Go.Proofs.Ytjcoghjkjnhljaa
open Go Go.RowKit Go.IntWalk Go.Sort
set_option maxRecDepth 8000
set_option linter.unusedSimpArgs false

/-- An item's place that the call has made. -/
structure Spot (N g o : Nat) (x : It) (w : World) : Prop where
  bx : Bx g o x w
  f0 : w.frozen? ⟨g, o, none⟩ = false
  f1 : w.frozen? ⟨g, o + 1, none⟩ = false
  lo : N ≤ g
theorem Spot.grew {N g o : Nat} {x : It} {w w' : World} (h : Spot N g o x w) (hg : Grew w w') : Spot N g o x w' := by
  have hb := World.block_lt_of_cell? _ _ h.bx.1
  exact ⟨h.bx.grew hg, (Below.frozen hg (p := ⟨g, o, none⟩) hb).trans h.f0, (Below.frozen hg (p := ⟨g, o + 1, none⟩) hb).trans h.f1, h.lo⟩
section
variable {dst : Option Tmp} {ty : TypeId} {pos : String} {after : Array Edge} {g : Option (Nat × Bool)} {a : Act} {w : World} {T : Value → World → Prop}
theorem runs_addw {o1 o2 : Operand} {b c : Int} (hx : a.eval o1 = .int .i64 b) (hy : a.eval o2 = .int .i64 c) (h : T (.int .i64 (IntKind.i64.wrap (b + c))) w) : Runs Try.prog ⟨dst, .binOp .add 3 o1 o2 3, ty, pos, after, g⟩ a w T := by
  refine Runs.value (v := .int .i64 (IntKind.i64.wrap (b + c))) (w' := w) ?_ h
  simp only [execOp, hx, hy]
  go_simp
theorem runs_bld1 {x : Nat} {b : Int} (hx : a.eval (.tmp x) = .int .i64 b) (h : T (itv (b, 0)) w) : Runs Try.prog ⟨dst, .build 32 #[(0, .tmp x)], ty, pos, after, g⟩ a w T := by
  rw [slot_eval, ← slot_get] at hx
  refine Runs.value (v := itv (b, 0)) (w' := w) ?_ h
  simp only [execOp]
  go_simp
theorem runs_stoSp {y z b off N : Nat} {x u : It} (hx : a.eval (.tmp y) = .pointer (some ⟨b, off, none⟩)) (hz : a.eval (.tmp z) = itv x) (hb : Spot N b off u w) (h : T undef ((w.setCell ⟨b, off, none⟩ (.int .i64 x.1)).setCell ⟨b, off + 1, none⟩ (.int .i64 x.2))) :
    Runs Try.prog ⟨dst, .store 32 (.tmp y) (.tmp z), ty, pos, after, g⟩ a w T := by
  obtain ⟨⟨h0, h1⟩, f0, f1, _⟩ := hb
  rw [slot_eval, ← slot_get] at hx hz
  refine Runs.skip (w' := (w.setCell ⟨b, off, none⟩ (.int .i64 x.1)).setCell ⟨b, off + 1, none⟩ (.int .i64 x.2)) ?_ h
  simp only [execOp]
  go_simp
end
theorem enters_Items : Enters Try.prog 17 := fun args w => by go_simp
set_option maxHeartbeats 8000000 in
theorem copies_any (p : Option Addr) (n c : Nat) (xs : List Opx) (w : World) (hl : xs.length = n) (h : RdO w p c xs) (hok : opOk xs) :
    Calls Try.prog 9 #[.slice p n c] w fun e w' => e = .returned (.bool true) ∧ Below w.heap.size w w' := by
  subst hl
  have HO := Lib.hid h
  have Hok := Lib.hid hok
  clear h hok
  by_cases hn : xs.length ≤ 60
  · have hn' : ¬ ((60 : Int) < (xs.length : Int)) := by omega
    go_enter Try.func9, Try.ntmps9
    go_wp2_with (go_at_call 10; (with_reducible refine (new_any _).mono ?_); rintro e w1 ⟨rfl, q1, g1⟩; have Q1 := Lib.hid q1; have G1 := Lib.hid g1; clear q1 g1)
    obtain ⟨q, hq⟩ : ∃ q, q = w.heap.size := ⟨_, rfl⟩
    rw [← hq] at Q1 ⊢
    have Hq := Lib.hid hq
    clear hq hn'
    go_loopg [4, 24] xs.length (fun gg lv iv wr => ∃ (k c' : Nat) (p' : Option Addr) (L : List It), lv = .slice p' L.length c' ∧ iv = .int .i64 (k : Int) ∧ k ≤ xs.length ∧ gg = xs.length - k ∧ L.length ≤ k ∧ Hid (St wr q p' c' L) ∧ Hid (Below w.heap.size w wr))
    case atStart => exact ⟨0, 0, none, [], rfl, rfl, Nat.zero_le _, rfl, Nat.le_refl _, Lib.hid (St.start Q1.out), G1⟩
    case round =>
      obtain ⟨k, c', p', L, rfl, rfl, hk, rfl, hLk, hS, hB⟩ := hrel
      by_cases hlt : k < xs.length
      · have hrk := HO.out.kept hB.out
        obtain ⟨bb, o, rfl, hx0, hx1, hx2⟩ := hrk.at hlt
        have Hin := Lib.hid (Hok.out.at hlt).1
        generalize xs.getD k (0, 0, 0) = x at hx0 hx1 hx2 Hin
        obtain ⟨x1, x2, x3⟩ := x
        simp only [] at hx0 hx1 hx2 Hin
        have hqs := hS.out.rep.lt
        clear hrk
        go_wp2_with (go_at_call 12; (with_reducible refine (do_any q L p' c' x1 x2 x3 _ (hS.out.grew (Grew.alloc (Grew.refl wr) _)) Hin.out (by omega)).mono ?_); rintro e w2 ⟨p2, c2, rfl, s2, o2⟩; have S2 := Lib.hid s2; have B2 := Lib.hid ((Below.alloc hB.out (Below.size hB.out) _).trans ((hS.out.grew (Grew.alloc (Grew.refl wr) _)).rep.below o2 (Nat.le_trans (Below.size hB.out) (by simp)) (by rw [← Hq.out]; exact Nat.le_refl _))); clear s2 o2)
        go_roundg (xs.length - (k + 1))
        case measure => omega
        case rel => exact ⟨k + 1, c2, p2, _, rfl, by go_num, by omega, rfl, by have := stepL_len L x1 x2 x3; omega, S2, B2⟩
      · obtain rfl : k = xs.length := by omega
        have HIt0 : Hid (∀ W, Grew wr W → Calls Try.prog 17 #[.pointer (some ⟨q, 0, none⟩)] W fun e w' => ∃ p3 c3, e = .returned (.slice p3 L.length c3) ∧ Its w' W.heap.size p3 c3 L ∧ Grew W w') :=
          Lib.hid fun W hW => items_any q L W (hS.out.rep.grew hW) (by omega)
        have hbd : L.length ≤ 60 := by omega
        have Hlen : Hid (∀ W, Grew wr W → Calls Try.prog 14 #[.pointer (some ⟨q, 0, none⟩)] W fun e w' => e = .returned (.int .i64 (L.length : Int)) ∧ W = w') :=
          Lib.hid fun W hW => len_any q L W (hS.out.rep.grew hW)
        have HTo : Hid (∀ p3 c3 W, RdI W p3 c3 L → Calls Try.prog 16 #[.slice p3 L.length c3] W fun e w' => ∃ p4 c4, e = .returned (.slice p4 L.length c4) ∧ OwI w' W.heap.size 36 (.slice p4 L.length c4) L ∧ Grew W w') :=
          Lib.hid fun p3 c3 W hW => toref_any p3 _ c3 L W rfl (by omega) hW
        have HBk : Hid (∀ W, Grew wr W → Calls Try.prog 27 #[.slice p' L.length c'] W fun e w' => ∃ p4 c4, e = .returned (.slice p4 L.length c4) ∧ OwI w' W.heap.size 32 (.slice p4 L.length c4) L ∧ Grew W w') :=
          Lib.hid fun W hW => back_any p' _ c' L W rfl (by omega) (hS.out.rd.kept hW)
        have HSa : Hid (∀ p3 c3 W, RdI W p3 c3 L → Grew wr W → Calls Try.prog 15 #[.slice p3 L.length c3, .slice p' L.length c'] W fun e w' => e = .returned (.bool true) ∧ Grew W w') :=
          Lib.hid fun p3 c3 W hW hg => by have := same_any p3 _ c3 L p' _ c' L W rfl rfl (by omega) hW (hS.out.rd.kept hg); simpa using this
        have HB := Lib.hid hB.out
        clear hS Hok hk hLk HO
        obtain ⟨l, hle⟩ : ∃ l, l = L.length := ⟨_, rfl⟩
        rw [← hle] at HIt0 Hlen HTo HBk HSa hbd ⊢
        have Hle := Lib.hid hle
        clear hle
        go_wp2_with (go_at_call 17; (with_reducible refine (HIt0.out _ (Grew.refl _)).mono ?_); rintro e w2 ⟨p3, c3, rfl, i3, g3⟩; have I3 := Lib.hid i3.rd; have G3 := Lib.hid g3; clear i3 g3)
        go_loopg [39] l (fun gg iv wr => ∃ k : Nat, iv = .int .i64 (k : Int) ∧ k ≤ l ∧ gg = l - k ∧ Hid (Grew w2 wr))
        case atStart => exact ⟨0, rfl, Nat.zero_le _, rfl, Grew.refl _⟩
        case round =>
          obtain ⟨k, rfl, hk, rfl, hg⟩ := hrel
          by_cases hlt : k < l
          · have hrk := I3.out.kept hg.out
            obtain ⟨bb, o, rfl, -⟩ := hrk.cells (by rw [← Hle.out]; omega)
            obtain ⟨hx0, hx1⟩ := hrk.at (i := k) (by rw [← Hle.out]; exact hlt)
            generalize L.getD k (0, 0) = x at hx0 hx1
            obtain ⟨x1, x2⟩ := x
            simp only [] at hx0 hx1
            clear hrk
            go_wp2_with fail
            have hX : Cel wr.heap.size 0 (.int .i64 x1) (wr.alloc (.cells #[.int .i64 x1, .int .i64 x2] 32)).drew := ⟨by go_simp⟩
            have hV0 : Grew wr (wr.alloc (.cells #[.int .i64 x1, .int .i64 x2] 32)) := (Grew.refl wr).alloc _
            generalize World.alloc wr _ = V at hX hV0 ⊢
            have hV := hV0.trans (Grew.drew V)
            obtain ⟨S, hSe⟩ : ∃ S, S = wr.heap.size := ⟨_, rfl⟩
            rw [← hSe] at hX ⊢
            clear hSe
            have HIt1 : ∀ W, Grew wr W → Calls Try.prog 17 #[.pointer (some ⟨q, 0, none⟩)] W fun e w' => ∃ g c' u, e = .returned (.slice (some ⟨g, 0, none⟩) l c') ∧ Spot wr.heap.size g (k * 2) u w' ∧ Grew W w' := fun W hW =>
              (HIt0.out W ((G3.out.trans hg.out).trans hW)).mono fun e w' ⟨p4, c4, e1, i4, g4⟩ => by
                obtain ⟨g, rfl, h1, h2⟩ := i4.own (by rw [← Hle.out]; omega)
                obtain ⟨y0, y1⟩ := i4.rd.at (i := k) (by rw [← Hle.out]; exact hlt)
                rw [Nat.zero_add] at y0 y1
                have hll := Hle.out
                exact ⟨g, c4, _, e1, ⟨⟨y0, y1⟩, h2 _ (by omega), h2 _ (by omega), Nat.le_trans (Below.size hW) h1⟩, g4⟩
            have HIt := HIt1
            generalize hNe : wr.heap.size = N at HIt
            clear HIt1
            refine wp_region_tail 8 [some 44, some 45, some 46, some 47, some 48, some 49, some 50, some 51] [false, false, false, false, false, false, false, false, false, false, false, false, false, false, false, false, false, false, false, false, false, false, false, false, false, false, false, false, false, false, false, false, false, false, false, false, false, false, false, false, false, false, false, false, true, true, true, true, true, true, true, true, false, false, false, false, false, false, false, false, false, false, false, false, false, false, false, false, false] Grew (postAt [fun v _ => v = .pointer (some ⟨q, 0, none⟩), fun v w => ∃ g c' u, v = .slice (some ⟨g, 0, none⟩) l c' ∧ Spot N g (k * 2) u w, fun v _ => v = .int .i64 ((k : Nat) : Int), fun v _ => v = .pointer (some ⟨S, 0, none⟩), fun v _ => v = .int .i64 x1, fun v _ => v = .int .i64 (IntKind.i64.wrap (x1 + 1)), fun v _ => v = itv (IntKind.i64.wrap (x1 + 1), 0), fun v w => ∃ g u, v = .pointer (some ⟨g, k * 2, none⟩) ∧ Spot N g (k * 2) u w]) (by kernel_rfl) (by kernel_rfl) (by kernel_rfl) rfl Grew.refl Grew.trans (Monos.at ?_) ⟨?_, ?_, ?_, ?_, ?_, ?_, ?_, ?_, trivial⟩ ?_
            · exact ⟨fun _ _ _ _ h => h, fun _ _ _ hg ⟨g, c', u, h1, h2⟩ => ⟨g, c', u, h1, h2.grew hg⟩, fun _ _ _ _ h => h, fun _ _ _ _ h => h, fun _ _ _ _ h => h, fun _ _ _ _ h => h, fun _ _ _ _ h => h, fun _ _ _ hg ⟨g, u, h1, h2⟩ => ⟨g, u, h1, h2.grew hg⟩, trivial⟩
            · intro u w hR hd; exact runs_mv (ev rfl) ⟨Grew.refl _, rfl⟩
            · intro u w hR hd; exact runs_c1 enters_Items (ev (hd.1 rfl)) ((HIt w (hV.trans hR)).mono fun _ _ ⟨g, c', u, e1, h1, h2⟩ => ⟨_, e1, h2, g, c', u, rfl, h1⟩)
            · intro u w hR hd; exact runs_mv (ev rfl) ⟨Grew.refl _, rfl⟩
            · intro u w hR hd; exact runs_fld32_0 (ev rfl) ⟨Grew.refl _, rfl⟩
            · intro u w hR hd; exact runs_ld3 (ev (hd.1 rfl)) (hX.kept hR) ⟨Grew.refl _, rfl⟩
            · intro u w hR hd; exact runs_addw (ev (hd.1 rfl)) rfl ⟨Grew.refl _, rfl⟩
            · intro u w hR hd; exact runs_bld1 (ev (hd.1 rfl)) ⟨Grew.refl _, rfl⟩
            · intro u w hR hd; exact match (hd.1 rfl) with | ⟨g, c', u, e1, h1⟩ => runs_ix39 (ev e1) (ev (hd.2.1 rfl)) hlt ⟨Grew.refl _, g, u, by rw [Nat.zero_add], h1⟩
            · intro u w4 hR h
              obtain ⟨g, x, e7, s7⟩ : ∃ g x, u 51 = .pointer (some ⟨g, k * 2, none⟩) ∧ Spot N g (k * 2) x w4 := h 7 (by decide)
              have e6 : u 50 = itv (IntKind.i64.wrap (x1 + 1), 0) := h 6 (by decide)
              have hgw := (hV.trans hR)
              have hlo := s7.lo
              rw [← hNe] at hlo
              have hg2 := Lib.hid (Grew.setN (Grew.setN hgw hlo (k * 2) (.int .i64 (IntKind.i64.wrap (x1 + 1)))) hlo (k * 2 + 1) (.int .i64 0))
              refine wpAny_one (i := 8) none (by kernel_rfl) rfl rfl rfl (runs_stoSp (x := (IntKind.i64.wrap (x1 + 1), 0)) (ev e7) (ev e6) s7 ?_)
              refine wpAny_done (by kernel_rfl) ?_ _
              simp only [Act.put, mixA, mixL, cond_true, cond_false]
              replace hg2 := Lib.hid (hg.out.trans hg2.out)
              generalize World.setCell (World.setCell w4 _ _) _ _ = w5 at hg2 ⊢
              clear h hR hX hV hV0 HIt e6 e7 s7 hgw hlo hNe hx0 hx1
              go_wp2
              go_roundg (l - (k + 1))
              case measure => omega
              case rel => exact ⟨k + 1, by go_num, by omega, rfl, hg2⟩
          · obtain rfl : k = l := by omega
            have HG := Lib.hid (G3.out.trans hg.out)
            have HBB := Lib.hid (HB.out.trans (Below.mono HG.out (Below.size HB.out)))
            have Hws := Lib.hid (Below.size HBB.out)
            clear hg G3 I3
            go_wp2_with (first
              | (go_at_call 17; (with_reducible refine (HIt0.out _ HG.out).mono ?_); rintro e w4 ⟨p4, c4, rfl, i4, g4⟩; have I4 := Lib.hid i4.rd; have G4 := Lib.hid g4; clear i4 g4 HIt0)
              | (go_at_call 16; (with_reducible refine (HTo.out _ _ _ I4.out).mono ?_); rintro e w5 ⟨p5, c5, rfl, r5, g5⟩; have I5 := Lib.hid (OwI.rd r5).2; have G5 := Lib.hid (G4.out.trans g5); clear r5 g5 G4)
              | (go_at_call 15; (with_reducible refine (HSa.out _ _ _ I5.out (HG.out.trans G5.out)).mono ?_); rintro e w6 ⟨rfl, g6⟩; have G6 := Lib.hid (G5.out.trans g6); clear g6 G5)
              | (go_at_call 27; (with_reducible refine (HBk.out _ (HG.out.trans G6.out)).mono ?_); rintro e w7 ⟨p7, c7, rfl, r7, g7⟩; have G7 := Lib.hid (G6.out.trans g7); clear r7 g7 G6)
              | (go_at_call 14; (with_reducible refine (Hlen.out _ (HG.out.trans G7.out)).mono ?_); rintro e _ ⟨rfl, rfl⟩; have tk := trivial)
              | (go_at_call 11; (with_reducible refine (examples_any _).mono ?_); rintro e w9 ⟨rfl, g9⟩; have G9 := Lib.hid (G7.out.trans g9); clear g9))
            go_ret
            exact ⟨rfl, HBB.out.trans (Below.mono G9.out Hws.out)⟩
  · have hn' : ((60 : Int) < (xs.length : Int)) := by omega
    clear hn HO Hok
    generalize xs.length = n at hn' ⊢
    go_enter Try.func9, Try.ntmps9
    go_wp2_with (first
      | (go_at_call 10; (with_reducible refine (new_any _).mono ?_); rintro e w1 ⟨rfl, q1, g1⟩; have G1 := Lib.hid g1; clear q1 g1)
      | (go_at_call 11; (with_reducible refine (examples_any _).mono ?_); rintro e w5 ⟨rfl, g5⟩; have G5 := Lib.hid (G1.out.trans g5); clear g5))
    go_ret
    exact ⟨rfl, G5.out⟩
end Go.Proofs.Ytjcoghjkjnhljaa
