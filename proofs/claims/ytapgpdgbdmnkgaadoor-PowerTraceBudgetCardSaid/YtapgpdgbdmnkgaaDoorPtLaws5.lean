/-
  CONTRACTS OF LAYER 13 (powertrace): the statement Complete.
-/
import Derived.Test.YtapgpdgbdmnkgaaDoorPtLaws3
import Derived.RangeFuncCalls
import Derived.RangeFuncBound
import Derived.Shelf.Abstract
import Derived.Shelf.AbstractIn
import Derived.OwnWalkIn
import Derived.TacticsInMore
import Derived.LoopIn
namespace Go.Proofs.YtapgpdgbdmnkgaaDoor
open Go Go.RowKit Go.IntWalk Go.Shelf
open Go.Lib (itoa)
set_option linter.unusedSimpArgs false
set_option linter.unusedVariables false
set_option maxRecDepth 8000

abbrev u8c (z : Int) : List Value := [.int .u8 z]
theorem encU : Enc 1 u8c := ⟨fun _ => rfl, fun x u hu => by simp at hu; subst hu; rfl, by decide⟩
/-- The schedule that the energies give. -/
def ends (m : Nat) (es : List Int) : List It := es.map fun z => (z % ((m : Int) + 1), 3)
theorem ends_good (m : Nat) (es : List Int) : Good m 3 (ends m es) := fun x hx => by
  obtain ⟨z, _, rfl⟩ := List.mem_map.1 hx
  have h1 := Int.emod_nonneg z (show (m : Int) + 1 ≠ 0 by omega)
  have h2 := Int.emod_lt_of_pos z (show (0 : Int) < (m : Int) + 1 by omega)
  exact ⟨⟨h1, by show z % ((m : Int) + 1) ≤ m; omega⟩, rfl⟩
theorem first_400 (f m : Int) (w : World) (hf : f ≤ 1000) : Calls Tryd.prog 29 #[.int .i64 f, .int .i64 m, .int .i64 3, .int .i64 400] w (Firsts f m 3 400 w) := first_any f m 3 400 hf (by decide) w
theorem same_idx (p : Option Addr) (n c : Nat) (q : Option Addr) (i d : Nat) (m : Nat) (xs ys : List It) (b : Bool) (hx : Good m 3 xs) (hy : Good m 3 ys) (hb : decide (idx m xs = idx m ys) = b) (w : World) (h : Rw 2 itc w p c xs) (hn : xs.length = n) (h' : Rw 2 itc w q d ys) (hm : ys.length = i) :
    Calls Tryd.prog 18 #[.slice p n c, .slice q i d] w fun e w' => e = .returned (.bool b) ∧ Grew w w' := by
  have := same_any p n c xs q i d ys w h hn h' hm
  rwa [show decide (xs = ys) = b by
    rw [← hb]
    exact decide_eq_decide.2 ⟨fun e => by rw [e], fun e => idx_inj hx hy e⟩] at this
set_option maxHeartbeats 8000000 in
theorem complete_main (f m : Nat) (hf : f ≤ 20) (hm : m ≤ 20) (pe : Option Addr) (ne ce : Nat) (es : List Int) (w : World) (hn : es.length = ne) (hx : Rw 1 u8c w pe ce es) (hb : ∀ z ∈ es, 0 ≤ z ∧ z ≤ 255) (hne : ne ≤ f) (z : Int) (hz : cnt (f : Int) m = z) (h3 : z ≤ 300) (he : Env w) :
    Calls Tryd.prog 9 #[.int .i64 (f : Int), .int .i64 (m : Int), .slice pe ne ce] w fun e w' => e = .returned (.bool true) ∧ Grew w w' := by
  subst hn
  have HE := Lib.hid he
  have HX0 := Lib.hid hx
  have HZ := Lib.hid hz
  have HBD := Lib.hid hb
  have hne' : ¬ f < es.length := by omega
  have HLE := Lib.hid hne
  have HM := Lib.hid hm
  have HGE : Hid (geo m (f + 1) ≤ 300) := Lib.hid (by
    rw [cnt_yes f m (by omega)] at hz
    omega)
  have hmx := hx.max
  have hcx := hx.cap
  clear he hx hz hb
  have HB := Lib.hid (Grew.refl w)
  have tk0 := Lib.hid trivial
  have tk1 := Lib.hid trivial
  go_enter Tryd.func9, Tryd.ntmps9
  go_wp2_with (first
    | (go_at_call 11; clear tk0; (with_reducible refine (examples_any _ HE.out).mono ?_); rintro e w1 ⟨rfl, g1⟩; replace HE := Lib.hid (HE.out.grew g1); replace HB := Lib.hid (HB.out.trans g1); clear g1)
    | (go_at_call 32; clear tk1; (with_reducible refine (rcount_is _ _ z HZ.out _ (by omega) (by omega)).mono ?_); rintro e w2 ⟨rfl, g1⟩; replace HE := Lib.hid (HE.out.grew g1); replace HB := Lib.hid (HB.out.trans g1); clear g1))
  go_loopg [7, 48] es.length (fun gg ov iv wr => ∃ (k : Nat) (p : Option Addr) (c : Nat), ov = .slice p k c ∧ iv = .int .i64 (k : Int) ∧ k ≤ es.length ∧ gg = es.length - k ∧ Hid (OwR wr w2.heap.size 52 2 itc (.slice p k c) (ends m (es.take k))) ∧ Hid (Grew w2 wr))
  case atStart => exact ⟨0, none, 0, rfl, rfl, Nat.zero_le _, rfl, Lib.hid (OwR.nil _ _ _ _ _), Lib.hid (Grew.refl _)⟩
  case round =>
    obtain ⟨k, p, c, rfl, rfl, hk, rfl, HO, HG⟩ := hrel
    by_cases hlt : k < es.length
    · obtain ⟨b', o', rfl, hcc⟩ := (HX0.out.kept (HB.out.trans HG.out)).rd.cells (by omega)
      obtain ⟨v, hv⟩ : ∃ v : Nat, es[k] = v := ⟨es[k].toNat, by have := HBD.out es[k] (List.getElem_mem hlt); omega⟩
      have hvb := HBD.out es[k] (List.getElem_mem hlt)
      have d0 : wr.cell? ⟨b', o' + k, none⟩ = some (.int .u8 es[k]) := by have := hcc k es[k] (by simp [hlt]) 0 _ rfl; simp only [Nat.mul_one, Nat.add_zero] at this; exact this
      have hlb : b' < wr.heap.size := World.block_lt_of_cell? _ _ d0
      have HTK : Hid (ends m (es.take (k + 1)) = ends m (es.take k) ++ [((v : Int) % ((m : Int) + 1), 3)]) := Lib.hid (by rw [List.take_succ_eq_append_getElem hlt, hv]; simp [ends])
      have HLN : Hid ((ends m (es.take k)).length = k ∧ k ≤ 20) := Lib.hid ⟨by simp [ends]; omega, by omega⟩
      have HK := Lib.hid (Nat.succ_le_of_lt hlt)
      rw [hv] at d0 hvb
      clear hcc hv
      go_wp2_with (at_builtin; refine wpList_append_row encI rfl _ _ 22 rfl w2.heap.size 52 (itv (0, 0)) 16 Tryd.underlying22 infoC rfl _ (ends m (es.take k)) rfl (HO.out.kept ((Grew.refl _).alloc _)) _ _ _ [(((v : Int) % ((m : Int) + 1), (3 : Int)) : It)] rfl rfl (Rw.made encI _ [(((v : Int) % ((m : Int) + 1), (3 : Int)) : It)] 1 _ _ _ rfl rfl (by decide)) (by have := HLN.out; rw [List.length_singleton]; omega) (by have := HLN.out; rw [List.length_singleton]; omega) (by have := HG.out.sz; simp; omega) ?_; intro p3 c3 zs3 w3 hz3 ho3 hb3 hc3; have HZ3 := Lib.hid hz3.out; have HO3 := Lib.hid ho3; have HG3 := Lib.hid ((HG.out.alloc _).below hb3); clear ho3 hb3 hc3 hz3)
      have HZL : Hid (zs3.length = k + 1) := Lib.hid (by rw [HZ3.out, List.length_append, HLN.out.1]; rfl)
      obtain ⟨nz, hnz⟩ : ∃ u, u = zs3.length := ⟨_, rfl⟩
      rw [← hnz] at HO3 HZL ⊢
      obtain rfl : nz = k + 1 := HZL.out
      have HO4 : Hid (OwR w3 w2.heap.size 52 2 itc (.slice p3 (k + 1) c3) (ends m (es.take (k + 1)))) := Lib.hid (by rw [HTK.out, ← HZ3.out]; exact HO3.out)
      clear HO3 HZ3 hnz HTK
      go_roundg (es.length - (k + 1))
      · exact ⟨k + 1, p3, c3, rfl, by first | rfl | simp, HK.out, rfl, HO4, HG3⟩
      · have := HK.out; omega
    · obtain rfl : k = es.length := by omega
      have HOE : Hid (OwR wr w2.heap.size 52 2 itc (.slice p es.length c) (ends m es)) := Lib.hid (by have := HO.out; rwa [List.take_length] at this)
      have HEL : Hid ((ends m es).length = es.length) := Lib.hid (by simp [ends])
      clear HO hmx hcx
      go_wp2_with (go_at_call 29; (with_reducible refine (first_400 f m _ (by omega)).mono ?_); rintro e w4 ⟨xs, p4, c4, rfl, hl, ho, hn, g4⟩; have HL := Lib.hid hl; have HO := Lib.hid ho; have HN := Lib.hid hn; have HOF := Lib.hid (HOE.out.kept g4); have HG4 := Lib.hid ((HB.out.trans HG.out).trans g4); clear hl ho hn g4)
      have HXL : Hid (xs.length = geo m (f + 1)) := Lib.hid (by
        have h1 := HN.out
        rw [lens_yes (by have := HM.out; simp only [okP, Bool.and_eq_true, decide_eq_true_eq]; omega)] at h1
        have h2 := HGE.out
        rw [Int.toNat_natCast] at h1
        omega)
      obtain ⟨j0, hj0⟩ : ∃ u, u = idx m (ends m es) := ⟨_, rfl⟩
      have HJ := Lib.hid hj0
      have HJL : Hid (j0 < xs.length) := Lib.hid (by
        rw [hj0, HXL.out]
        exact (idx_len (ends_good m es) f).1 (by rw [HEL.out]; exact HLE.out))
      have hxb : xs.length ≤ 300 := by rw [HXL.out]; exact HGE.out
      clear hj0
      go_loopg [12, 70] xs.length (fun gg cv iv wr => ∃ k : Nat, cv = .int .i64 (if j0 < k then 1 else 0) ∧ iv = .int .i64 (k : Int) ∧ k ≤ xs.length ∧ gg = xs.length - k ∧ Hid (Grew w4 wr))
      case atStart => exact ⟨0, by simp, rfl, Nat.zero_le _, rfl, Lib.hid (Grew.refl _)⟩
      case round =>
        obtain ⟨k, rfl, rfl, hk2, rfl, HGR⟩ := hrel
        by_cases hlt2 : k < xs.length
        · have r1 := ((HL.out.1.rd encS).2).kept HGR.out
          have e1 := (HL.out.2 _ (List.getElem_mem hlt2)).kept HGR.out
          have hgx := HO.out k _ (List.getElem?_eq_getElem hlt2)
          obtain ⟨b1, o1, rfl, _⟩ := r1.rd.cells (by omega)
          have h0 : wr.cell? ⟨b1, o1 + k, none⟩ = some (.slice xs[k].p xs[k].xs.length xs[k].c) := by have := r1.cell (List.getElem?_eq_getElem hlt2) (j := 0) rfl; simp only [Nat.mul_one, Nat.add_zero] at this; exact this
          have hlb : b1 < wr.heap.size := World.block_lt_of_cell? _ _ h0
          have HK2 := Lib.hid (Nat.succ_le_of_lt hlt2)
          generalize xs[k] = x at h0 e1 hgx
          have HQ : Hid (∀ (b : Bool), decide (k = j0) = b → ∀ W, Grew wr W → Calls Tryd.prog 18 #[.slice x.p x.xs.length x.c, .slice p es.length c] W fun e w' => e = .returned (.bool b) ∧ Grew W w') := Lib.hid (fun b hb W hW => same_idx _ _ _ _ _ _ m x.xs (ends m es) b hgx.1 (ends_good m es) (by rw [Int.toNat_natCast] at hgx; rw [hgx.2, ← HJ.out]; exact hb) W ((e1.rd encI).2.kept hW) rfl ((HOF.out.rd encI).2.kept (HGR.out.trans hW)) HEL.out)
          clear r1 e1 hgx
          by_cases hkj : k = j0
          · have hq := decide_eq_true hkj
            have hn1 : ¬ j0 < k := by omega
            have hn2 : j0 < k + 1 := by omega
            rw [if_neg hn1]
            have HQT := Lib.hid (HQ.out true hq)
            clear HQ hq hn1 hkj
            go_wp2_with (go_at_call 18; (with_reducible refine (HQT.out _ (by first | exact Grew.refl _ | exact (Grew.refl _).drw)).mono ?_); rintro e w5 ⟨rfl, g5⟩; have HG5 := Lib.hid (HGR.out.trans g5); clear g5)
            go_roundg (xs.length - (k + 1))
            · exact ⟨k + 1, by rw [if_pos hn2], by first | rfl | simp, HK2.out, rfl, HG5⟩
            · have := HK2.out; omega
          · have hq := decide_eq_false hkj
            have HQT := Lib.hid (HQ.out false hq)
            have HIF : Hid ((if j0 < k + 1 then (1 : Int) else 0) = if j0 < k then 1 else 0) := Lib.hid (by
              by_cases h : j0 < k
              · rw [if_pos h, if_pos (by omega)]
              · rw [if_neg h, if_neg (by omega)])
            generalize (if j0 < k then (1 : Int) else 0) = cv at HIF
            clear HQ hq hkj
            go_wp2_with (go_at_call 18; (with_reducible refine (HQT.out _ (by first | exact Grew.refl _ | exact (Grew.refl _).drw)).mono ?_); rintro e w5 ⟨rfl, g5⟩; have HG5 := Lib.hid (HGR.out.trans g5); clear g5)
            go_roundg (xs.length - (k + 1))
            · exact ⟨k + 1, by rw [HIF.out], by first | rfl | simp, HK2.out, rfl, HG5⟩
            · have := HK2.out; omega
        · obtain rfl : k = xs.length := by omega
          rw [if_pos HJL.out]
          go_wp2
          go_ret
          exact ⟨rfl, HG4.out.trans HGR.out⟩
set_option maxHeartbeats 4000000 in
theorem complete_law (f m : Int) (pe : Option Addr) (ne ce : Nat) (es : List Int) (w : World) (hf : -9223372036854775808 ≤ f ∧ f ≤ 9223372036854775807) (hm : -9223372036854775808 ≤ m ∧ m ≤ 9223372036854775807) (hn : es.length = ne) (hx : Rw 1 u8c w pe ce es) (hb : ∀ z ∈ es, 0 ≤ z ∧ z ≤ 255) (he : Env w) :
    Calls Tryd.prog 9 #[.int .i64 f, .int .i64 m, .slice pe ne ce] w fun e w' => e = .returned (.bool true) ∧ Grew w w' := by
  subst hn
  have HE := Lib.hid he
  have HX := Lib.hid hx
  have HH := Lib.hid hb
  clear he hx hb
  obtain ⟨hf1, hf2⟩ := hf
  obtain ⟨hm1, hm2⟩ := hm
  by_cases c2 : f < 0
  · skip
    have HB := Lib.hid (Grew.refl w)
    have tk0 := Lib.hid trivial
    have tk1 := Lib.hid trivial
    go_enter Tryd.func9, Tryd.ntmps9
    go_wp2_with (first
      | (go_at_call 11; clear tk0; (with_reducible refine (examples_any _ HE.out).mono ?_); rintro e w1 ⟨rfl, g1⟩; replace HE := Lib.hid (HE.out.grew g1); replace HB := Lib.hid (HB.out.trans g1); clear g1)
      | (go_at_call 11; clear tk1; (with_reducible refine (examples_any _ HE.out).mono ?_); rintro e w2 ⟨rfl, g1⟩; replace HE := Lib.hid (HE.out.grew g1); replace HB := Lib.hid (HB.out.trans g1); clear g1))
    go_ret
    exact ⟨rfl, HB.out⟩
  · skip
    by_cases c4 : m < 0
    · skip
      have HB := Lib.hid (Grew.refl w)
      have tk0 := Lib.hid trivial
      have tk1 := Lib.hid trivial
      go_enter Tryd.func9, Tryd.ntmps9
      go_wp2_with (first
        | (go_at_call 11; clear tk0; (with_reducible refine (examples_any _ HE.out).mono ?_); rintro e w1 ⟨rfl, g1⟩; replace HE := Lib.hid (HE.out.grew g1); replace HB := Lib.hid (HB.out.trans g1); clear g1)
        | (go_at_call 11; clear tk1; (with_reducible refine (examples_any _ HE.out).mono ?_); rintro e w2 ⟨rfl, g1⟩; replace HE := Lib.hid (HE.out.grew g1); replace HB := Lib.hid (HB.out.trans g1); clear g1))
      go_ret
      exact ⟨rfl, HB.out⟩
    · skip
      by_cases c6 : 20 < f
      · skip
        have HB := Lib.hid (Grew.refl w)
        have tk0 := Lib.hid trivial
        have tk1 := Lib.hid trivial
        go_enter Tryd.func9, Tryd.ntmps9
        go_wp2_with (first
          | (go_at_call 11; clear tk0; (with_reducible refine (examples_any _ HE.out).mono ?_); rintro e w1 ⟨rfl, g1⟩; replace HE := Lib.hid (HE.out.grew g1); replace HB := Lib.hid (HB.out.trans g1); clear g1)
          | (go_at_call 11; clear tk1; (with_reducible refine (examples_any _ HE.out).mono ?_); rintro e w2 ⟨rfl, g1⟩; replace HE := Lib.hid (HE.out.grew g1); replace HB := Lib.hid (HB.out.trans g1); clear g1))
        go_ret
        exact ⟨rfl, HB.out⟩
      · skip
        by_cases c8 : 20 < m
        · skip
          have HB := Lib.hid (Grew.refl w)
          have tk0 := Lib.hid trivial
          have tk1 := Lib.hid trivial
          go_enter Tryd.func9, Tryd.ntmps9
          go_wp2_with (first
            | (go_at_call 11; clear tk0; (with_reducible refine (examples_any _ HE.out).mono ?_); rintro e w1 ⟨rfl, g1⟩; replace HE := Lib.hid (HE.out.grew g1); replace HB := Lib.hid (HB.out.trans g1); clear g1)
            | (go_at_call 11; clear tk1; (with_reducible refine (examples_any _ HE.out).mono ?_); rintro e w2 ⟨rfl, g1⟩; replace HE := Lib.hid (HE.out.grew g1); replace HB := Lib.hid (HB.out.trans g1); clear g1))
          go_ret
          exact ⟨rfl, HB.out⟩
        · skip
          by_cases c10 : f < (es.length : Int)
          · skip
            have HB := Lib.hid (Grew.refl w)
            have tk0 := Lib.hid trivial
            have tk1 := Lib.hid trivial
            go_enter Tryd.func9, Tryd.ntmps9
            go_wp2_with (first
              | (go_at_call 11; clear tk0; (with_reducible refine (examples_any _ HE.out).mono ?_); rintro e w1 ⟨rfl, g1⟩; replace HE := Lib.hid (HE.out.grew g1); replace HB := Lib.hid (HB.out.trans g1); clear g1)
              | (go_at_call 11; clear tk1; (with_reducible refine (examples_any _ HE.out).mono ?_); rintro e w2 ⟨rfl, g1⟩; replace HE := Lib.hid (HE.out.grew g1); replace HB := Lib.hid (HB.out.trans g1); clear g1))
            go_ret
            exact ⟨rfl, HB.out⟩
          · skip
            obtain ⟨z, hz⟩ : ∃ z, cnt f m = z := ⟨_, rfl⟩
            have HZ := Lib.hid hz
            clear hz
            by_cases c12 : 300 < z
            · skip
              have HB := Lib.hid (Grew.refl w)
              have tk0 := Lib.hid trivial
              have tk1 := Lib.hid trivial
              have tk2 := Lib.hid trivial
              go_enter Tryd.func9, Tryd.ntmps9
              go_wp2_with (first
                | (go_at_call 11; clear tk0; (with_reducible refine (examples_any _ HE.out).mono ?_); rintro e w1 ⟨rfl, g1⟩; replace HE := Lib.hid (HE.out.grew g1); replace HB := Lib.hid (HB.out.trans g1); clear g1)
                | (go_at_call 32; clear tk1; (with_reducible refine (rcount_is _ _ z HZ.out _ (by omega) (by omega)).mono ?_); rintro e w2 ⟨rfl, g1⟩; replace HE := Lib.hid (HE.out.grew g1); replace HB := Lib.hid (HB.out.trans g1); clear g1)
                | (go_at_call 11; clear tk2; (with_reducible refine (examples_any _ HE.out).mono ?_); rintro e w3 ⟨rfl, g1⟩; replace HE := Lib.hid (HE.out.grew g1); replace HB := Lib.hid (HB.out.trans g1); clear g1))
              go_ret
              exact ⟨rfl, HB.out⟩
            · skip
              obtain ⟨f, rfl⟩ : ∃ u : Nat, f = u := ⟨f.toNat, by omega⟩
              obtain ⟨m, rfl⟩ : ∃ u : Nat, m = u := ⟨m.toNat, by omega⟩
              exact complete_main f m (by omega) (by omega) pe es.length ce es w rfl HX.out HH.out (by omega) z HZ.out (by omega) HE.out
end Go.Proofs.YtapgpdgbdmnkgaaDoor
