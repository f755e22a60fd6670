/-
  CONTRACTS OF LAYER 13 (powertrace): the statement All.
-/
import Derived.Test.YtapgpdgbdmnkgaaDoorPtLaws1
import Derived.Test.YtapgpdgbdmnkgaaDoorPtRAll
import Derived.RangeFuncCalls
import Derived.RangeFuncBound
import Derived.Shelf.Abstract
import Derived.Shelf.AbstractIn
import Derived.OwnWalkIn
import Derived.TacticsInMore
import Derived.LoopIn
namespace Go.Proofs.YtapgpdgbdmnkgaaDoor
open Go Go.RowKit Go.IntWalk Go.Shelf
open Go.Lib (itoa)
set_option linter.unusedSimpArgs false
set_option linter.unusedVariables false
set_option maxRecDepth 8000

section
variable {dst : Option Tmp} {ty : TypeId} {pos : String} {after : Array Edge} {g : Option (Nat × Bool)} {a : Act} {w : World} {T : Value → World → Prop}
theorem rn_idx_54 {x y : Operand} {b o n c : Nat} (i : Nat) (hx : a.eval x = .slice (some ⟨b, o, none⟩) n c) (hy : a.eval y = .int .i64 (i : Int)) (hi : i < n) (h : T (.pointer (some ⟨b, o + i, none⟩)) w) : Runs Tryd.prog ⟨dst, .indexAddr 54 x y, ty, pos, after, g⟩ a w T := by
  have hi2 : (i : Int) < (n : Int) := by omega
  refine Runs.value (v := .pointer (some ⟨b, o + i, none⟩)) (w' := w) ?_ h
  simp only [execOp, hx, hy]
  go_simp
theorem rn_ld_22 {x : Operand} {q : Addr} {v : Value} (hx : a.eval x = .pointer (some q)) (hc : w.cell? q = some v) (h : T v w) : Runs Tryd.prog ⟨dst, .load 22 x, ty, pos, after, g⟩ a w T := by
  refine Runs.value (v := v) (w' := w) ?_ h
  simp only [execOp, hx]
  go_simp
end
theorem enters_same : Enters Tryd.prog 18 := fun args w => by go_simp
theorem Lot.grew {N : Nat} {w w' : World} {p : Option Addr} {c : Nat} {xs : List Sl} (h : Lot N w p c xs) (hg : Grew w w') : Lot N w' p c xs := ⟨h.1.kept hg, fun x hx => (h.2 x hx).kept hg⟩
theorem same_at {m : Nat} {d : Int} {xs ys : List Sl} (hx : OrdA m d xs) (hy : OrdA m d ys) (k : Nat) (h1 : k < xs.length) (h2 : k < ys.length) : xs[k].xs = ys[k].xs := by
  have a := hx k _ (List.getElem?_eq_getElem h1)
  have b := hy k _ (List.getElem?_eq_getElem h2)
  exact idx_inj a.1 b.1 (a.2.trans b.2.symm)
theorem same_eq (p : Option Addr) (n c : Nat) (q : Option Addr) (m d : Nat) (xs ys : List It) (he : xs = ys) (w : World) (h : Rw 2 itc w p c xs) (hn : xs.length = n) (h' : Rw 2 itc w q d ys) (hm : ys.length = m) :
    Calls Tryd.prog 18 #[.slice p n c, .slice q m d] w fun e w' => e = .returned (.bool true) ∧ Grew w w' := by
  subst he
  exact same_self p n c q m d xs w h hn h' hm
theorem first_300 (f m d : Int) (w : World) (hf : f ≤ 1000) : Calls Tryd.prog 29 #[.int .i64 f, .int .i64 m, .int .i64 d, .int .i64 300] w (Firsts f m d 300 w) := first_any f m d 300 hf (by decide) w
theorem rall_300 (f m d : Int) (w : World) (hf : f ≤ 1000) : Calls Tryd.prog 30 #[.int .i64 f, .int .i64 m, .int .i64 d, .int .i64 300] w (RFirsts f m d 300 w) := rall_any f m d 300 hf (by decide) w
set_option maxHeartbeats 4000000 in
theorem all_law (f m d : Int) (w : World) (hf : -9223372036854775808 ≤ f ∧ f ≤ 9223372036854775807) (he : Env w) :
    Calls Tryd.prog 7 #[.int .i64 f, .int .i64 m, .int .i64 d] w fun e w' => e = .returned (.bool true) ∧ Grew w w' := by
  have HE := Lib.hid he
  clear he
  obtain ⟨hf1, hf2⟩ := hf
  by_cases h1 : f ≤ 40
  · skip
    have HB := Lib.hid (Grew.refl w)
    have tk0 := Lib.hid trivial
    have tk1 := Lib.hid trivial
    have tk2 := Lib.hid trivial
    go_enter Tryd.func7, Tryd.ntmps7
    go_wp2_with (first
      | (go_at_call 11; clear tk0; (with_reducible refine (examples_any _ HE.out).mono ?_); rintro e w1 ⟨rfl, g1⟩; replace HE := Lib.hid (HE.out.grew g1); replace HB := Lib.hid (HB.out.trans g1); clear g1)
      | (go_at_call 29; clear tk1; (with_reducible refine (first_300 f m d _ (by omega)).mono ?_); rintro e w2 ⟨xs, p1, c1, rfl, hl1, ho1, hn1, g1⟩; replace HE := Lib.hid (HE.out.grew g1); replace HB := Lib.hid (HB.out.trans g1); clear g1; have HL1 := Lib.hid hl1; clear hl1; have HO1 := Lib.hid (And.intro ho1 hn1); clear ho1 hn1)
      | (go_at_call 30; clear tk2; (with_reducible refine (rall_300 f m d _ (by omega)).mono ?_); rintro e w3 ⟨ys, p2, c2, rfl, hl2, ho2, hn2, g1⟩; replace HE := Lib.hid (HE.out.grew g1); replace HL1 := Lib.hid (HL1.out.grew g1); replace HB := Lib.hid (HB.out.trans g1); clear g1; have HL2 := Lib.hid hl2; clear hl2; have hxy : ys.length = xs.length := hn2.trans HO1.out.2.symm; have HO2 := Lib.hid (And.intro ho2 hn2); have HXY := Lib.hid hxy; rw [hxy]; clear ho2 hn2 hxy))
    have hmx := ((HL1.out.1.rd encS).2).max
    have hcx := ((HL1.out.1.rd encS).2).cap
    go_loopg [40] xs.length (fun gg iv wr => ∃ k : Nat, iv = .int .i64 (k : Int) ∧ k ≤ xs.length ∧ gg = xs.length - k ∧ Hid (Grew w3 wr))
    case atStart => exact ⟨0, rfl, Nat.zero_le _, rfl, Lib.hid (Grew.refl _)⟩
    case round =>
      obtain ⟨k, rfl, hk, rfl, HG⟩ := hrel
      by_cases hlt : k < xs.length
      · have hlt2 : k < ys.length := by have := HXY.out; omega
        have r1 := ((HL1.out.1.rd encS).2).kept HG.out
        have r2 := ((HL2.out.1.rd encS).2).kept HG.out
        have e1 := (HL1.out.2 _ (List.getElem_mem hlt)).kept HG.out
        have e2 := (HL2.out.2 _ (List.getElem_mem hlt2)).kept HG.out
        have hxe := same_at HO1.out.1 HO2.out.1 k hlt hlt2
        obtain ⟨b1, o1, rfl, _⟩ := r1.rd.cells (by omega)
        obtain ⟨b2, o2, rfl, _⟩ := r2.rd.cells (by omega)
        have h0 : Atv ⟨b1, o1 + k, none⟩ (.slice xs[k].p xs[k].xs.length xs[k].c) wr.drew := by have := r1.cell (List.getElem?_eq_getElem hlt) (j := 0) rfl; simp only [Nat.mul_one, Nat.add_zero] at this; exact Grew.atv (Grew.refl _).drw this
        have h1 : Atv ⟨b2, o2 + k, none⟩ (.slice ys[k].p ys[k].xs.length ys[k].c) wr.drew := by have := r2.cell (List.getElem?_eq_getElem hlt2) (j := 0) rfl; simp only [Nat.mul_one, Nat.add_zero] at this; exact Grew.atv (Grew.refl _).drw this
        generalize xs[k] = x at h0 e1 hxe
        generalize ys[k] = y at h1 e2 hxe
        have HS : Hid (∀ W, Grew wr W → Calls Tryd.prog 18 #[.slice x.p x.xs.length x.c, .slice y.p y.xs.length y.c] W fun e w' => e = .returned (.bool true) ∧ Grew W w') := Lib.hid (fun W hW => same_eq _ _ _ _ _ _ x.xs y.xs hxe W ((e1.rd encI).2.kept hW) rfl ((e2.rd encI).2.kept hW) rfl)
        clear r1 r2 e1 e2 hxe hlt2
        go_wp2
        refine wp_posts [some 43, some 44, some 45, some 46, some 47, some 48, some 49, some 50, some 51, some 52] [false, false, false, false, false, false, false, false, false, false, false, false, false, false, false, false, false, false, false, false, false, false, false, false, false, false, false, false, false, false, false, false, false, false, false, false, false, false, false, false, false, false, false, true, true, true, true, true, true, true, true, true, true, false] [fun v _ => v = .slice (some ⟨b1, o1, none⟩) (xs.length) (c1), fun v _ => v = .int .i64 (((k : Nat) : Int)), fun v _ => v = .pointer (some ⟨b1, o1 + k, none⟩), fun v _ => v = .slice x.p (x.xs.length) (x.c), fun v _ => v = .slice (some ⟨b2, o2, none⟩) (xs.length) (c2), fun v _ => v = .int .i64 (((k : Nat) : Int)), fun v _ => v = .pointer (some ⟨b2, o2 + k, none⟩), fun v _ => v = .slice y.p (y.xs.length) (y.c), fun v _ => v = .bool (true), fun v _ => v = .bool (false)] (by kernel_rfl) (by kernel_rfl) rfl ?_ ⟨?_, ?_, ?_, ?_, ?_, ?_, ?_, ?_, ?_, ?_, trivial⟩ ?_
        · exact ⟨fun _ _ _ _ h => h, fun _ _ _ _ h => h, fun _ _ _ _ h => h, fun _ _ _ _ h => h, fun _ _ _ _ h => h, fun _ _ _ _ h => h, fun _ _ _ _ h => h, fun _ _ _ _ h => h, fun _ _ _ _ h => h, fun _ _ _ _ h => h, trivial⟩
        · intro u w hR hd; exact runs_mv (ev rfl) ⟨Grew.refl _, rfl⟩
        · intro u w hR hd; exact runs_mv (ev rfl) ⟨Grew.refl _, rfl⟩
        · intro u w hR hd; exact rn_idx_54 (k) (ev (hd.1 rfl)) (ev (hd.2.1 rfl)) (by omega) ⟨Grew.refl _, rfl⟩
        · intro u w hR hd; exact rn_ld_22 (ev (hd.1 rfl)) (h0.kept hR) ⟨Grew.refl _, rfl⟩
        · intro u w hR hd; exact runs_mv (ev rfl) ⟨Grew.refl _, rfl⟩
        · intro u w hR hd; exact runs_mv (ev rfl) ⟨Grew.refl _, rfl⟩
        · intro u w hR hd; exact rn_idx_54 (k) (ev (hd.1 rfl)) (ev (hd.2.1 rfl)) (by omega) ⟨Grew.refl _, rfl⟩
        · intro u w hR hd; exact rn_ld_22 (ev (hd.1 rfl)) (h1.kept hR) ⟨Grew.refl _, rfl⟩
        · intro u w hR hd; exact runs_c2 enters_same (ev (hd.1 rfl)) (ev (hd.2.1 rfl)) (callp (fun _ e => e) ((HS.out _ ((Grew.refl _).drw.trans hR))))
        · intro u w hR hd; exact runs_nt (ev (hd.1 rfl)) ⟨Grew.refl _, rfl⟩
        · intro u w9 hR9 h9
          have he : u 52 = .bool false := h9 9 (by decide)
          simp only [mixA, mixL, cond_true, cond_false]
          rw [he]
          have HG9 := Lib.hid (HG.out.trans ((Grew.refl _).drw.trans hR9))
          clear h9 he h0 h1 HS hR9
          go_wp2
          go_roundg (xs.length - (k + 1))
          · exact ⟨k + 1, by first | rfl | simp, by omega, rfl, HG9⟩
          · omega
      · obtain rfl : k = xs.length := by omega
        go_wp2
        go_ret
        exact ⟨rfl, HB.out.trans HG.out⟩
  · skip
    have HB := Lib.hid (Grew.refl w)
    have tk0 := Lib.hid trivial
    have tk1 := Lib.hid trivial
    go_enter Tryd.func7, Tryd.ntmps7
    go_wp2_with (first
      | (go_at_call 11; clear tk0; (with_reducible refine (examples_any _ HE.out).mono ?_); rintro e w1 ⟨rfl, g1⟩; replace HE := Lib.hid (HE.out.grew g1); replace HB := Lib.hid (HB.out.trans g1); clear g1)
      | (go_at_call 11; clear tk1; (with_reducible refine (examples_any _ HE.out).mono ?_); rintro e w2 ⟨rfl, g1⟩; replace HE := Lib.hid (HE.out.grew g1); replace HB := Lib.hid (HB.out.trans g1); clear g1))
    go_ret
    exact ⟨rfl, HB.out⟩

end Go.Proofs.YtapgpdgbdmnkgaaDoor
