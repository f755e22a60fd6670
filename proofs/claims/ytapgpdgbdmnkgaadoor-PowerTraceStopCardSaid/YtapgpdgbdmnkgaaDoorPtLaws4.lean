/-
  CONTRACTS OF LAYER 13 (powertrace): the statement Stop.
-/
import Derived.Test.YtapgpdgbdmnkgaaDoorPtLaws3
import Derived.RangeFuncCalls
import Derived.RangeFuncBound
import Derived.Shelf.Abstract
import Derived.Shelf.AbstractIn
import Derived.OwnWalkIn
import Derived.TacticsInMore
import Derived.LoopIn
namespace Go.Proofs.YtapgpdgbdmnkgaaDoor
open Go Go.RowKit Go.IntWalk Go.Shelf
open Go.Lib (itoa)
set_option linter.unusedSimpArgs false
set_option linter.unusedVariables false
set_option maxRecDepth 8000

section
variable {dst : Option Tmp} {ty : TypeId} {pos : String} {after : Array Edge} {g : Option (Nat × Bool)} {a : Act} {w : World} {T : Value → World → Prop}
end
theorem first_z (f m : Int) (z : Nat) (w : World) (hf : f ≤ 1000) : Calls Tryd.prog 29 #[.int .i64 f, .int .i64 m, .int .i64 2, .int .i64 ((z : Int) % 40 + 1)] w (Firsts f m 2 (z % 40 + 1) w) := by
  have := first_any f m 2 (z % 40 + 1) hf (by omega) w
  rwa [show ((z % 40 + 1 : Nat) : Int) = (z : Int) % 40 + 1 by omega] at this
theorem rall_z (f m : Int) (z : Nat) (w : World) (hf : f ≤ 1000) : Calls Tryd.prog 30 #[.int .i64 f, .int .i64 m, .int .i64 2, .int .i64 ((z : Int) % 40 + 1)] w (RFirsts f m 2 (z % 40 + 1) w) := by
  have := rall_any f m 2 (z % 40 + 1) hf (by omega) w
  rwa [show ((z % 40 + 1 : Nat) : Int) = (z : Int) % 40 + 1 by omega] at this
/-- A schedule whose numbers may be any. -/
def Ints (x : Sl) (W : World) : Prop := (x.p = none → x.xs.length = 0) ∧ ∀ a, x.p = some a → ∃ g vs, a = ⟨g, 0, none⟩ ∧ Blk g vs 52 W ∧ ∀ i, i < x.xs.length * 2 → ∃ z : Int, vs[i]? = some (.int .i64 z)
theorem ints_of {w : World} {N : Nat} {x : Sl} (h : OwR w N 52 2 itc x.v x.xs) : Ints x w := by
  obtain ⟨p', c', hv, hr, hb⟩ := h.parts encI
  simp only [Sl.v, Value.slice.injEq] at hv
  obtain ⟨e1, -, e2⟩ := hv
  refine ⟨fun hn => ?_, fun a ha => ?_⟩
  · rcases hb with ⟨-, -, hx⟩ | ⟨g, cur, hp, -⟩
    · rw [hx]; rfl
    · rw [← e1, hn] at hp; cases hp
  · rcases hb with ⟨hp, -⟩ | ⟨g, cur, hp, -, hk, hs, ht⟩
    · rw [← e1, ha] at hp; cases hp
    · refine ⟨g, cur.toList, ?_, hk, fun i hi => ?_⟩
      · rw [← e1, ha] at hp; exact Option.some.inj hp
      · have h2 : (flatL itc x.xs)[i]? = cur.toList[i]? := by
          rw [← ht, List.getElem?_take, if_pos hi]
        rw [← h2]
        have hq : i / 2 < x.xs.length := by omega
        have h3 := List.getElem?_eq_getElem hq
        rcases Nat.mod_two_eq_zero_or_one i with h | h
        · have := flatL_get encI h3 (show (itc x.xs[i / 2])[0]? = some (.int .i64 x.xs[i / 2].1) from rfl)
          rw [show i / 2 * 2 + 0 = i by omega] at this
          exact ⟨_, this⟩
        · have := flatL_get encI h3 (show (itc x.xs[i / 2])[1]? = some (.int .i64 x.xs[i / 2].2) from rfl)
          rw [show i / 2 * 2 + 1 = i by omega] at this
          exact ⟨_, this⟩
theorem Ints.set {x : Sl} {W : World} (h : Ints x W) {g i : Nat} {vs : List Value} (hb : Blk g vs 52 W) (v : Int) : Ints x (W.setCell ⟨g, i, none⟩ (.int .i64 v)) := by
  refine ⟨h.1, fun a ha => ?_⟩
  obtain ⟨g', vs', e, hb', hi⟩ := h.2 a ha
  by_cases hg : g' = g
  · subst hg
    have hv : vs' = vs := by
      have e1 : some (Obj.cells vs'.toArray 52) = some (Obj.cells vs.toArray 52) := hb'.symm.trans hb
      simp only [Option.some.injEq, Obj.cells.injEq] at e1
      simpa using e1.1
    subst hv
    refine ⟨g', _, e, hb'.set i _, fun j hj => ?_⟩
    obtain ⟨z, hz⟩ := hi j hj
    have hjl := (List.getElem?_eq_some_iff.1 hz).1
    by_cases hij : i = j
    · subst hij
      exact ⟨v, List.getElem?_set_self hjl⟩
    · exact ⟨z, by rw [List.getElem?_set_ne hij]; exact hz⟩
  · exact ⟨g', vs', e, hb'.chg (Chg.set W ⟨g, i, none⟩ _) hg, hi⟩
theorem Ints.grew {x : Sl} {W W' : World} (h : Ints x W) (hg : Grew W W') : Ints x W' := ⟨h.1, fun a ha => by
  obtain ⟨g, vs, e, hb, hi⟩ := h.2 a ha
  exact ⟨g, vs, e, hb.grew hg, hi⟩⟩
/-- What lies behind the memory of the schedules that are changed. -/
theorem Lot.off {N : Nat} {w w' W : World} {p q : Option Addr} {c d : Nat} {xs ys : List Sl} (hx : Lot N w p c xs) (hy : Lot w.heap.size w' q d ys) (hc : Chg w' W (fun k => ∃ x ∈ xs, ∃ a, x.p = some a ∧ a.block = k)) : Lot w.heap.size W q d ys := by
  have key : ∀ (a : Addr), w.heap.size ≤ a.block → ¬ (fun k => ∃ x ∈ xs, ∃ a, x.p = some a ∧ a.block = k) a.block := fun a ha hs => by
    obtain ⟨x, hxm, b, hb, e⟩ := hs
    have := ((hx.2 x hxm).place encI b hb).2
    omega
  exact ⟨hy.1.chg hc (fun a ha => key a (hy.1.place encS a ha).1), fun y hy' => (hy.2 y hy').chg hc (fun a ha => key a ((hy.2 y hy').place encI a ha).1)⟩
set_option maxHeartbeats 8000000 in
theorem stop_law (f m : Int) (z : Nat) (w : World) (hf : -9223372036854775808 ≤ f ∧ f ≤ 9223372036854775807) (hz : z ≤ 255) (he : Env w) :
    Calls Tryd.prog 10 #[.int .i64 f, .int .i64 m, .int .u8 (z : Int)] w fun e w' => e = .returned (.bool true) ∧ Grew w w' := by
  have HE := Lib.hid he
  clear he
  obtain ⟨hf1, hf2⟩ := hf
  by_cases h1 : f ≤ 20
  · skip
    have HB := Lib.hid (Grew.refl w)
    have tk0 := Lib.hid trivial
    have tk1 := Lib.hid trivial
    have tk2 := Lib.hid trivial
    go_enter Tryd.func10, Tryd.ntmps10
    go_wp2_with (first
      | (go_at_call 11; clear tk0; (with_reducible refine (examples_any _ HE.out).mono ?_); rintro e w1 ⟨rfl, g1⟩; replace HE := Lib.hid (HE.out.grew g1); replace HB := Lib.hid (HB.out.trans g1); clear g1; have HG01 := Lib.hid HB.out)
      | (go_at_call 29; clear tk1; (with_reducible refine (first_z f m z _ (by omega)).mono ?_); rintro e w2 ⟨xs, p1, c1, rfl, hl1, ho1, hn1, g1⟩; replace HE := Lib.hid (HE.out.grew g1); replace HB := Lib.hid (HB.out.trans g1); clear g1; have HL1 := Lib.hid hl1; clear hl1; have HO1 := Lib.hid (And.intro ho1 hn1); have HL1' := HL1; have HG12 := Lib.hid HB.out; clear ho1 hn1)
      | (go_at_call 30; clear tk2; (with_reducible refine (rall_z f m z _ (by omega)).mono ?_); rintro e w3 ⟨ys, p2, c2, rfl, hl2, ho2, hn2, g1⟩; replace HE := Lib.hid (HE.out.grew g1); replace HL1 := Lib.hid (HL1.out.grew g1); replace HB := Lib.hid (HB.out.trans g1); clear g1; have HL2 := Lib.hid hl2; clear hl2; have hxy : ys.length = xs.length := hn2.trans HO1.out.2.symm; have HO2 := Lib.hid (And.intro ho2 hn2); have HXY := Lib.hid hxy; rw [hxy]; clear ho2 hn2 hxy))
    have hmx := ((HL1.out.1.rd encS).2).max
    have hcx := ((HL1.out.1.rd encS).2).cap
    go_loopg [50] xs.length (fun gg iv wr => ∃ k : Nat, iv = .int .i64 (k : Int) ∧ k ≤ xs.length ∧ gg = xs.length - k ∧ Hid (Chg w3 wr (fun k => ∃ x ∈ xs, ∃ a, x.p = some a ∧ a.block = k)) ∧ Hid (∀ x ∈ xs, Ints x wr))
    case atStart => exact ⟨0, rfl, Nat.zero_le _, rfl, Lib.hid (Chg.refl _ _), Lib.hid (fun x hx => ints_of (HL1.out.2 x hx))⟩
    case round =>
      obtain ⟨k, rfl, hk, rfl, HC, HI⟩ := hrel
      by_cases hlt : k < xs.length
      · have hro : OwR wr w1.heap.size 22 1 svc (.slice p1 xs.length c1) xs := HL1.out.1.chg HC.out (fun a ha hs => by
          obtain ⟨x, hxm, b, hb, e⟩ := hs
          exact ((HL1.out.2 x hxm).off encI encS HL1.out.1 (by decide) hb ha) e)
        have r1 := (hro.rd encS).2
        have hxm := List.getElem_mem hlt
        obtain ⟨b1, o1, rfl, _⟩ := r1.rd.cells (by omega)
        have h0 : wr.cell? ⟨b1, o1 + k, none⟩ = some (.slice xs[k].p xs[k].xs.length xs[k].c) := by have := r1.cell (List.getElem?_eq_getElem hlt) (j := 0) rfl; simp only [Nat.mul_one, Nat.add_zero] at this; exact this
        have hlb : b1 < wr.heap.size := World.block_lt_of_cell? _ _ h0
        have HK := Lib.hid (Nat.succ_le_of_lt hlt)
        generalize xs[k] = x at h0 hxm
        have HXM := Lib.hid hxm
        have hxi := HI.out x hxm
        have hxl : x.xs.length ≤ 9223372036854775807 := by
          have h := (HL1.out.2 x hxm).rd encI
          have h2 := h.2.max
          have h3 := h.2.cap
          have h4 := (HL1.out.2 x hxm)
          omega
        clear hro r1 hxm
        go_wp2
        go_loopg [56] x.xs.length (fun gg iv wr => ∃ t : Nat, iv = .int .i64 (t : Int) ∧ t ≤ x.xs.length ∧ gg = x.xs.length - t ∧ Hid (Chg w3 wr (fun k => ∃ x ∈ xs, ∃ a, x.p = some a ∧ a.block = k)) ∧ Hid (∀ x ∈ xs, Ints x wr))
        case atStart => exact ⟨0, rfl, Nat.zero_le _, rfl, HC, HI⟩
        clear HC HI h0 hlb hxi
        case round =>
          obtain ⟨t, rfl, ht, rfl, HC, HI⟩ := hrel
          by_cases htl : t < x.xs.length
          · have hin := HI.out x HXM.out
            obtain ⟨a, ha⟩ : ∃ a, x.p = some a := by
              cases hp : x.p with
              | none => have := hin.1 hp; omega
              | some a => exact ⟨a, rfl⟩
            obtain ⟨g, vs, rfl, hb, hi⟩ := hin.2 a ha
            obtain ⟨v, hv⟩ := hi (t * 2) (by omega)
            have d0 : wr.cell? ⟨g, t * 2, none⟩ = some (.int .i64 v) := (hb.cell _).trans hv
            have hfr := fun i => hb.free i
            have hgl := hb.lt
            have HS1 := Lib.hid (fun u : Int => HC.out.trans ((Chg.set wr ⟨g, t * 2, none⟩ (.int .i64 u)).mono (fun k hk => (⟨x, HXM.out, _, ha, hk.symm⟩ : (fun k => ∃ x ∈ xs, ∃ a, x.p = some a ∧ a.block = k) k))))
            have HS2 := Lib.hid (fun (u : Int) y (hy : y ∈ xs) => (HI.out y hy).set (i := t * 2) hb u)
            have HSA := Lib.hid ha
            rw [ha]
            clear hin hb hi hv HC HI ha
            go_wp2
            rw [← HSA.out]
            go_roundg (x.xs.length - (t + 1))
            · exact ⟨t + 1, by first | rfl | simp, by omega, rfl, Lib.hid (HS1.out _), Lib.hid (HS2.out _)⟩
            · omega
          · obtain rfl : t = x.xs.length := by omega
            go_wp2
            go_roundg (xs.length - (k + 1))
            · exact ⟨k + 1, by first | rfl | simp, by have := HK.out; omega, rfl, HC, HI⟩
            · have := HK.out; omega
      · obtain rfl : k = xs.length := by omega
        have HLY := Lib.hid (HL1'.out.off HL2.out HC.out)
        have HBC : Hid (Grew w wr) := Lib.hid (grew_lift HB.out HC.out (fun k hk => by
          obtain ⟨x, hxm, b, hb, e⟩ := hk
          have := ((HL1.out.2 x hxm).place encI b hb).1
          have h2 := HG01.out.sz
          omega))
        clear HC HI
        go_wp2_with (go_at_call 29; (with_reducible refine (first_z f m z _ (by omega)).mono ?_); rintro e w4 ⟨zs, p3, c3, rfl, hl3, ho3, hn3, g4⟩; have HB4 := Lib.hid (HBC.out.trans g4); have HL3 := Lib.hid hl3; replace HL2 := Lib.hid (HLY.out.grew g4); have hzy : zs.length = xs.length := hn3.trans HO1.out.2.symm; have HO3 := Lib.hid (And.intro ho3 hn3); have HZY : Hid (ys.length = zs.length) := Lib.hid (HXY.out.trans hzy.symm); rw [← hzy]; clear hl3 ho3 hn3 g4 hzy)
        have hmx := ((HL3.out.1.rd encS).2).max
        have hcx := ((HL3.out.1.rd encS).2).cap
        go_loopg [87] zs.length (fun gg iv wr => ∃ k : Nat, iv = .int .i64 (k : Int) ∧ k ≤ zs.length ∧ gg = zs.length - k ∧ Hid (Grew w4 wr))
        case atStart => exact ⟨0, rfl, Nat.zero_le _, rfl, Lib.hid (Grew.refl _)⟩
        case round =>
          obtain ⟨k, rfl, hk, rfl, HG⟩ := hrel
          by_cases hlt : k < zs.length
          · have hlt2 : k < ys.length := by have := HZY.out; omega
            have r1 := ((HL3.out.1.rd encS).2).kept HG.out
            have r2 := ((HL2.out.1.rd encS).2).kept HG.out
            have e1 := (HL3.out.2 _ (List.getElem_mem hlt)).kept HG.out
            have e2 := (HL2.out.2 _ (List.getElem_mem hlt2)).kept HG.out
            have hxe := same_at HO3.out.1 HO2.out.1 k hlt hlt2
            obtain ⟨b1, o1, rfl, _⟩ := r1.rd.cells (by omega)
            obtain ⟨b2, o2, rfl, _⟩ := r2.rd.cells (by omega)
            have h0 : Atv ⟨b1, o1 + k, none⟩ (.slice zs[k].p zs[k].xs.length zs[k].c) wr.drew := by have := r1.cell (List.getElem?_eq_getElem hlt) (j := 0) rfl; simp only [Nat.mul_one, Nat.add_zero] at this; exact Grew.atv (Grew.refl _).drw this
            have h1 : Atv ⟨b2, o2 + k, none⟩ (.slice ys[k].p ys[k].xs.length ys[k].c) wr.drew := by have := r2.cell (List.getElem?_eq_getElem hlt2) (j := 0) rfl; simp only [Nat.mul_one, Nat.add_zero] at this; exact Grew.atv (Grew.refl _).drw this
            generalize zs[k] = x at h0 e1 hxe
            generalize ys[k] = y at h1 e2 hxe
            have HS : Hid (∀ W, Grew wr W → Calls Tryd.prog 18 #[.slice x.p x.xs.length x.c, .slice y.p y.xs.length y.c] W fun e w' => e = .returned (.bool true) ∧ Grew W w') := Lib.hid (fun W hW => same_eq _ _ _ _ _ _ x.xs y.xs hxe W ((e1.rd encI).2.kept hW) rfl ((e2.rd encI).2.kept hW) rfl)
            clear r1 r2 e1 e2 hxe hlt2
            go_wp2
            refine wp_posts [some 90, some 91, some 92, some 93, some 94, some 95, some 96, some 97, some 98, some 99] [false, false, false, false, false, false, false, false, false, false, false, false, false, false, false, false, false, false, false, false, false, false, false, false, false, false, false, false, false, false, false, false, false, false, false, false, false, false, false, false, false, false, false, false, false, false, false, false, false, false, false, false, false, false, false, false, false, false, false, false, false, false, false, false, false, false, false, false, false, false, false, false, false, false, false, false, false, false, false, false, false, false, false, false, false, false, false, false, false, false, true, true, true, true, true, true, true, true, true, true, false] [fun v _ => v = .slice (some ⟨b1, o1, none⟩) (zs.length) (c3), fun v _ => v = .int .i64 (((k : Nat) : Int)), fun v _ => v = .pointer (some ⟨b1, o1 + k, none⟩), fun v _ => v = .slice x.p (x.xs.length) (x.c), fun v _ => v = .slice (some ⟨b2, o2, none⟩) (zs.length) (c2), fun v _ => v = .int .i64 (((k : Nat) : Int)), fun v _ => v = .pointer (some ⟨b2, o2 + k, none⟩), fun v _ => v = .slice y.p (y.xs.length) (y.c), fun v _ => v = .bool (true), fun v _ => v = .bool (false)] (by kernel_rfl) (by kernel_rfl) rfl ?_ ⟨?_, ?_, ?_, ?_, ?_, ?_, ?_, ?_, ?_, ?_, trivial⟩ ?_
            · exact ⟨fun _ _ _ _ h => h, fun _ _ _ _ h => h, fun _ _ _ _ h => h, fun _ _ _ _ h => h, fun _ _ _ _ h => h, fun _ _ _ _ h => h, fun _ _ _ _ h => h, fun _ _ _ _ h => h, fun _ _ _ _ h => h, fun _ _ _ _ h => h, trivial⟩
            · intro u w hR hd; exact runs_mv (ev rfl) ⟨Grew.refl _, rfl⟩
            · intro u w hR hd; exact runs_mv (ev rfl) ⟨Grew.refl _, rfl⟩
            · intro u w hR hd; exact rn_idx_54 (k) (ev (hd.1 rfl)) (ev (hd.2.1 rfl)) (by omega) ⟨Grew.refl _, rfl⟩
            · intro u w hR hd; exact rn_ld_22 (ev (hd.1 rfl)) (h0.kept hR) ⟨Grew.refl _, rfl⟩
            · intro u w hR hd; exact runs_mv (ev rfl) ⟨Grew.refl _, rfl⟩
            · intro u w hR hd; exact runs_mv (ev rfl) ⟨Grew.refl _, rfl⟩
            · intro u w hR hd; exact rn_idx_54 (k) (ev (hd.1 rfl)) (ev (hd.2.1 rfl)) (by omega) ⟨Grew.refl _, rfl⟩
            · intro u w hR hd; exact rn_ld_22 (ev (hd.1 rfl)) (h1.kept hR) ⟨Grew.refl _, rfl⟩
            · intro u w hR hd; exact runs_c2 enters_same (ev (hd.1 rfl)) (ev (hd.2.1 rfl)) (callp (fun _ e => e) ((HS.out _ ((Grew.refl _).drw.trans hR))))
            · intro u w hR hd; exact runs_nt (ev (hd.1 rfl)) ⟨Grew.refl _, rfl⟩
            · intro u w9 hR9 h9
              have he : u 99 = .bool false := h9 9 (by decide)
              simp only [mixA, mixL, cond_true, cond_false]
              rw [he]
              have HG9 := Lib.hid (HG.out.trans ((Grew.refl _).drw.trans hR9))
              clear h9 he h0 h1 HS hR9
              go_wp2
              go_roundg (zs.length - (k + 1))
              · exact ⟨k + 1, by first | rfl | simp, by omega, rfl, HG9⟩
              · omega
          · obtain rfl : k = zs.length := by omega
            go_wp2
            go_ret
            exact ⟨rfl, HB4.out.trans HG.out⟩
  · skip
    have HB := Lib.hid (Grew.refl w)
    have tk0 := Lib.hid trivial
    have tk1 := Lib.hid trivial
    go_enter Tryd.func10, Tryd.ntmps10
    go_wp2_with (first
      | (go_at_call 11; clear tk0; (with_reducible refine (examples_any _ HE.out).mono ?_); rintro e w1 ⟨rfl, g1⟩; replace HE := Lib.hid (HE.out.grew g1); replace HB := Lib.hid (HB.out.trans g1); clear g1)
      | (go_at_call 11; clear tk1; (with_reducible refine (examples_any _ HE.out).mono ?_); rintro e w2 ⟨rfl, g1⟩; replace HE := Lib.hid (HE.out.grew g1); replace HB := Lib.hid (HB.out.trans g1); clear g1))
    go_ret
    exact ⟨rfl, HB.out⟩

theorem bounds_u8 {x : Int} (h : (Lit.int .u8 x).wf = true) : 0 ≤ x ∧ x ≤ 255 := by
  simpa [Lit.wf, IntKind.min, IntKind.max, IntKind.bits, IntKind.signed] using h
end Go.Proofs.YtapgpdgbdmnkgaaDoor
