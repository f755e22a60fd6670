/-
  THE STATEMENT Steps OF LAYER 10 (sensor), WALKED.
-/
import Derived.Test.YtaehlpdnjfblbaaDoorSeMerge
namespace Go.Proofs.YtaehlpdnjfblbaaDoor
open Go Go.RowKit Go.IntWalk
set_option linter.unusedSimpArgs false
set_option linter.unusedVariables false
set_option maxRecDepth 8000

theorem lastT_take_lt {xs : List It} (h : asc (-1) xs = true) {k : Nat} {x : It} (hx : xs[k]? = some x) : lastT (-1) (xs.take k) < x.1 := by
  cases k with
  | zero => have := asc_bd h x (List.mem_of_getElem? hx); simpa [lastT] using this.1
  | succ m =>
    have hl := (List.getElem?_eq_some_iff.1 hx).1
    have hm : xs[m]? = some (xs[m]'(by omega)) := List.getElem?_eq_getElem (by omega)
    rw [lastT_at _ _ _ _ hm]
    exact asc_lt h hm hx (by omega)
theorem upto_take {xs : List It} (h : asc (-1) xs = true) {k : Nat} (hk : k ≤ xs.length) : ∀ i x, i < k → xs[i]? = some x → x.1 ≤ lastT (-1) (xs.take k) := fun i x hi hx => by
  have hm : xs[k - 1]? = some (xs[k - 1]'(by omega)) := List.getElem?_eq_getElem (by omega)
  have h1 := lastT_at (-1) xs (k - 1) _ hm
  rw [show k - 1 + 1 = k by omega] at h1
  rw [h1]
  rcases Nat.lt_or_ge i (k - 1) with h2 | h2
  · exact Int.le_of_lt (asc_lt h hx hm h2)
  · obtain rfl : i = k - 1 := by omega
    rw [hx] at hm
    rw [← Option.some.inj hm]
    exact Int.le_refl _
theorem steps_next {xs : List It} (h : asc (-1) xs = true) {k : Nat} {x : It} (hx : xs[k]? = some x) : nxt xs (lastT (-1) (xs.take k)) = (x, true) :=
  nxt_first h (upto_take h (Nat.le_of_lt (List.getElem?_eq_some_iff.1 hx).1)) hx (lastT_take_lt h hx)
theorem steps_val {xs : List It} (h : asc (-1) xs = true) {k : Nat} {x : It} (hx : xs[k]? = some x) : valAt xs x.1 = x.2 := by
  have hl := (List.getElem?_eq_some_iff.1 hx).1
  have h1 : aft xs x.1 = k + 1 := aft_mid h (k + 1) hl (by rw [lastT_at _ _ _ _ hx]; exact Int.le_refl _) (fun y hy => asc_lt h hx hy (by omega))
  unfold valAt
  rw [h1, if_neg (Nat.succ_ne_zero _), Nat.add_sub_cancel, List.getD_eq_getElem?_getD, hx]
  rfl
theorem steps_mid {xs : List It} (h : asc (-1) xs = true) {k : Nat} {x : It} (hx : xs[k]? = some x) {T : Int} (h1 : lastT (-1) (xs.take k) < T) (h2 : T < x.1) : valAt xs T = valAt xs (lastT (-1) (xs.take k)) := by
  have hl := (List.getElem?_eq_some_iff.1 hx).1
  have e1 : aft xs T = k := aft_mid h k (Nat.le_of_lt hl) (Int.le_of_lt h1) (fun y hy => by rw [hx] at hy; rw [← Option.some.inj hy]; exact h2)
  have e2 : aft xs (lastT (-1) (xs.take k)) = k := aft_mid h k (Nat.le_of_lt hl) (Int.le_refl _) (fun y hy => by rw [hx] at hy; rw [← Option.some.inj hy]; exact lastT_take_lt h hx)
  unfold valAt
  rw [e1, e2]
theorem steps_end {xs : List It} (h : asc (-1) xs = true) : nxt xs (lastT (-1) xs) = ((0, 0), false) := by
  have := upto_take h (Nat.le_refl xs.length)
  rw [List.take_length] at this
  exact nxt_none this
section
variable {dst : Option Tmp} {ty : TypeId} {pos : String} {after : Array Edge} {g : Option (Nat × Bool)} {a : Act} {w : World} {T : Value → World → Prop}
theorem rn_neq_34 {o1 o2 : Operand} {b0 c0 b1 c1 : Int} (hx : a.eval o1 = .agg #[.int .i64 b0, .int .i16 b1]) (hy : a.eval o2 = .agg #[.int .i64 c0, .int .i16 c1]) (h : T (.bool (!((b0 == c0) && (b1 == c1)))) w) : Runs Tryd.prog ⟨dst, .binOp .neq 34 o1 o2 34, ty, pos, after, g⟩ a w T := by
  refine Runs.value (v := .bool (!((b0 == c0) && (b1 == c1)))) (w' := w) ?_ h
  simp only [execOp, hx, hy]
  go_simp
  by_cases e0 : b0 = c0 <;> by_cases e1 : b1 = c1 <;> simp [e0, e1]
theorem rn_fld_34_0 {x : Operand} {S o : Nat} (hx : a.eval x = .pointer (some ⟨S, o, none⟩)) (h : T (.pointer (some ⟨S, o, none⟩)) w) : Runs Tryd.prog ⟨dst, .fieldAddr 34 x 0, ty, pos, after, g⟩ a w T := by
  refine Runs.value (v := .pointer (some ⟨S, o, none⟩)) (w' := w) ?_ h
  simp only [execOp, hx]
  go_simp
theorem rn_fld_34_1 {x : Operand} {S o : Nat} (hx : a.eval x = .pointer (some ⟨S, o, none⟩)) (h : T (.pointer (some ⟨S, o + 1, none⟩)) w) : Runs Tryd.prog ⟨dst, .fieldAddr 34 x 1, ty, pos, after, g⟩ a w T := by
  refine Runs.value (v := .pointer (some ⟨S, o + 1, none⟩)) (w' := w) ?_ h
  simp only [execOp, hx]
  go_simp
theorem rn_neq_32 {o1 o2 : Operand} {b c : Int} (hx : a.eval o1 = .int .i16 b) (hy : a.eval o2 = .int .i16 c) (h : T (.bool (b != c)) w) : Runs Tryd.prog ⟨dst, .binOp .neq 32 o1 o2 32, ty, pos, after, g⟩ a w T := by
  refine Runs.value (v := .bool (b != c)) (w' := w) ?_ h
  simp only [execOp, hx, hy]
  go_simp
end
set_option maxHeartbeats 8000000 in
theorem steps_law (p : Option Addr) (n c : Nat) (xs : List It) (time : Int) (w : World) (hn : xs.length = n) (hx : Rw 2 itc w p c xs) (he : Env w) :
    Calls Tryd.prog 7 #[.slice p n c, .int .i64 time] w fun e w' => e = .returned (.bool true) ∧ Grew w w' := by
  subst hn
  have HX := Lib.hid hx
  have HE := Lib.hid he
  have hcap := hx.cap
  have hmax := hx.max
  rcases none_or_ok xs with hq | hq
  · have HQ := Lib.hid hq
    clear hq hx he
    have HB := Lib.hid (Grew.refl w)
    have tk0 := Lib.hid trivial
    have tk1 := Lib.hid trivial
    go_enter Tryd.func7, Tryd.ntmps7
    go_wp2_with (first
      | (go_at_call 10; clear tk0; (with_reducible refine (made_none p _ c xs _ HX.out rfl HQ.out).mono ?_); rintro e w1 ⟨rfl, g1⟩; replace HE := Lib.hid (HE.out.grew g1); replace HX := Lib.hid (HX.out.grew g1); replace HB := Lib.hid (HB.out.trans g1); clear g1)
      | (go_at_call 11; clear tk1; (with_reducible refine (examples_any _ HE.out).mono ?_); rintro e w2 ⟨rfl, g1⟩; replace HE := Lib.hid (HE.out.grew g1); replace HX := Lib.hid (HX.out.grew g1); replace HB := Lib.hid (HB.out.trans g1); clear g1))
    go_ret
    exact ⟨rfl, HB.out⟩
  · have h60 := hq.1
    have HQ := Lib.hid hq
    clear hq hx he
    have HB := Lib.hid (Grew.refl w)
    have tk0 := Lib.hid trivial
    go_enter Tryd.func7, Tryd.ntmps7
    go_wp2_with (first
      | (go_at_call 10; clear tk0; (with_reducible refine (made_ok p _ c xs _ HX.out rfl HQ.out.1 HQ.out.2).mono ?_); rintro e w1 ⟨t, rfl, ht, g1⟩; replace HE := Lib.hid (HE.out.grew g1); replace HX := Lib.hid (HX.out.grew g1); replace HB := Lib.hid (HB.out.trans g1); clear g1; have HT := Lib.hid ht; clear ht))
    have HTS := Lib.hid HT
    have HES := Lib.hid HE
    have HXS := Lib.hid HX
    have HBS := Lib.hid HB
    clear HT HE HX HB
    go_loopg [7, 27] xs.length (fun gg av iv wr => ∃ (k : Nat) (z : Int), av = .int .i64 z ∧ iv = .int .i64 (k : Int) ∧ k ≤ xs.length ∧ gg = xs.length - k ∧ Hid (z = lastT (-1) (xs.take k)) ∧ Hid (Grew w1 wr))
    case atStart => exact ⟨0, -1, rfl, rfl, Nat.zero_le _, rfl, Lib.hid rfl, Lib.hid (Grew.refl _)⟩
    case round =>
      obtain ⟨k, z, rfl, rfl, hk, rfl, HZ, HG⟩ := hrel
      have HT := HTS.out
      by_cases hlt : k < xs.length
      · obtain ⟨b', o', rfl, hcc⟩ := (HXS.out.out.kept HG.out).rd.cells (by omega)
        have hx : xs[k]? = some xs[k] := by simp [hlt]
        have hc1 := hcc k xs[k] hx
        have hlb : b' < wr.heap.size := World.block_lt_of_cell? _ _ (hc1 0 _ rfl)
        have HLT := Lib.hid (Nat.succ_le_of_lt hlt)
        generalize xs[k] = x at hc1 hx
        have d0 : wr.cell? ⟨b', o' + k * 2, none⟩ = some (.int .i64 x.1) := by simpa using hc1 0 _ rfl
        have d1 : wr.cell? ⟨b', o' + k * 2 + 1, none⟩ = some (.int .i16 x.2) := hc1 1 _ rfl
        have HXK := Lib.hid hx
        have HNX := Lib.hid (show nxt xs z = (x, true) by rw [HZ.out]; exact steps_next HQ.out.2 hx)
        have HVX := Lib.hid (steps_val HQ.out.2 hx)
        clear hcc hc1 hx
        go_wp2_with (go_at_call 15; generalize hW : World.alloc _ _ = V; have b9 : Blk wr.heap.size (itc x) 34 V := (by subst hW; exact Blk.new wr _ _); have hv : Grew wr V := (by subst hW; exact (Grew.refl _).alloc _); clear hW; (with_reducible refine (next_is t xs z x true HNX.out _ (HT.out.grew (HG.out.trans hv)) HQ.out.2 (by omega)).mono ?_); rintro e w1' ⟨rfl, g1⟩; replace b9 := b9.grew g1; have HG1 := Lib.hid ((HG.out.trans hv).trans g1); clear hv g1)
        generalize hW : World.alloc _ _ = W2
        have b10 : Blk w1'.heap.size (itc x) 34 W2 := by subst hW; exact Blk.new w1' _ _
        have hv : Grew w1' W2 := by subst hW; exact (Grew.refl _).alloc _
        replace b9 := b9.grew hv
        have HG2 := Lib.hid (HG1.out.trans hv)
        generalize wr.heap.size = S9 at b9
        generalize w1'.heap.size = S10 at b10
        clear hW hv HG1 d0 d1 hlb
        have c0 : Atv ⟨S9, 0, none⟩ (.int .i64 x.1) W2.drew := (b9.grew (Grew.refl _).drw).atv 0 rfl
        have c1 : Atv ⟨S9, 1, none⟩ (.int .i16 x.2) W2.drew := (b9.grew (Grew.refl _).drw).atv 1 rfl
        have d0 : Atv ⟨S10, 0, none⟩ (.int .i64 x.1) W2.drew := (b10.grew (Grew.refl _).drw).atv 0 rfl
        have d1 : Atv ⟨S10, 1, none⟩ (.int .i16 x.2) W2.drew := (b10.grew (Grew.refl _).drw).atv 1 rfl
        have hvx := HVX.out
        have hasc := HQ.out.2
        have htt := HT.out.grew (HG2.out.drw)
        refine wp_posts [some 37, some 38, some 39, some 40, some 41, some 42, some 43, some 44, some 45, some 46, some 47, some 48, some 49, some 50, some 51, some 52] [false, false, false, false, false, false, false, false, false, false, false, false, false, false, false, false, false, false, false, false, false, false, false, false, false, false, false, false, false, false, false, false, false, false, false, false, false, true, true, true, true, true, true, true, true, true, true, true, true, true, true, true, true, false, false, false, false, false, false, false, false, false, false, false, false, false, false, false, false, false, false, false, false, false, false, false, false, false, false, false, false, false, false, false, false, false, false, false] [fun v _ => v = .bool (true), fun v _ => v = .bool (false), fun v _ => v = .bool (false), fun v _ => v = .agg #[.int .i64 (x.1), .int .i16 (x.2)], fun v _ => v = .agg #[.int .i64 (x.1), .int .i16 (x.2)], fun v _ => v = .bool (false), fun v _ => v = .bool (false), fun v _ => v = .bool (false), fun v _ => v = .pointer (some ⟨t, 0, none⟩), fun v _ => v = .pointer (some ⟨S9, 0, none⟩), fun v _ => v = .int .i64 (x.1), fun v _ => v = .int .i16 (x.2), fun v _ => v = .pointer (some ⟨S9, 1, none⟩), fun v _ => v = .int .i16 (x.2), fun v _ => v = .bool (false), fun v _ => v = .bool (false)] (by kernel_rfl) (by kernel_rfl) rfl ?_ ⟨?_, ?_, ?_, ?_, ?_, ?_, ?_, ?_, ?_, ?_, ?_, ?_, ?_, ?_, ?_, ?_, trivial⟩ ?_
        · exact ⟨fun _ _ _ _ h => h, fun _ _ _ _ h => h, fun _ _ _ _ h => h, fun _ _ _ _ h => h, fun _ _ _ _ h => h, fun _ _ _ _ h => h, fun _ _ _ _ h => h, fun _ _ _ _ h => h, fun _ _ _ _ h => h, fun _ _ _ _ h => h, fun _ _ _ _ h => h, fun _ _ _ _ h => h, fun _ _ _ _ h => h, fun _ _ _ _ h => h, fun _ _ _ _ h => h, fun _ _ _ _ h => h, trivial⟩
        · intro u w hR hd; exact runs_mv (ev rfl) ⟨Grew.refl _, rfl⟩
        · intro u w hR hd; exact runs_nt (ev (hd.1 rfl)) ⟨Grew.refl _, (congrArg Value.bool (rfl))⟩
        · intro u w hR hd; exact runs_mv (ev (hd.1 rfl)) ⟨Grew.refl _, rfl⟩
        · intro u w hR hd; exact ⟨fun _ => rn_ld_34 (ev rfl) (d0.kept hR) (d1.kept hR) ⟨Grew.refl _, rfl⟩, fun hn => absurd (hd.1 rfl) hn⟩
        · intro u w hR hd; exact ⟨fun _ => rn_ld_34 (ev rfl) (c0.kept hR) (c1.kept hR) ⟨Grew.refl _, rfl⟩, fun hn => absurd (hd.1 rfl) hn⟩
        · intro u w hR hd; exact ⟨fun _ => rn_neq_34 (ev (hd.1 rfl)) (ev (hd.2.1 rfl)) ⟨Grew.refl _, (congrArg Value.bool (by simp))⟩, fun hn => absurd (hd.2.2.1 rfl) hn⟩
        · intro u w hR hd; exact runs_or2 (ev (hd.1 rfl)) (fun hb => ev ((hd.2.1 rfl))) ⟨Grew.refl _, rfl⟩
        · intro u w hR hd; exact runs_mv (ev (hd.1 rfl)) ⟨Grew.refl _, rfl⟩
        · intro u w hR hd; exact ⟨fun _ => runs_mv (ev rfl) ⟨Grew.refl _, rfl⟩, fun hn => absurd (hd.1 rfl) hn⟩
        · intro u w hR hd; exact ⟨fun _ => rn_fld_34_0 (ev rfl) ⟨Grew.refl _, rfl⟩, fun hn => absurd (hd.1 rfl) hn⟩
        · intro u w hR hd; exact ⟨fun _ => rn_ld_2 (ev (hd.1 rfl)) (c0.kept hR) ⟨Grew.refl _, rfl⟩, fun hn => absurd (hd.2.1 rfl) hn⟩
        · intro u w hR hd; exact ⟨fun _ => runs_c2 enters_at (ev (hd.1 rfl)) (ev (hd.2.1 rfl)) (callp (fun _ e => e) (at_is t xs x.1 x.2 hvx _ (htt.grew hR) hasc (by omega))), fun hn => absurd (hd.2.2.1 rfl) hn⟩
        · intro u w hR hd; exact ⟨fun _ => rn_fld_34_1 (ev rfl) ⟨Grew.refl _, rfl⟩, fun hn => absurd (hd.1 rfl) hn⟩
        · intro u w hR hd; exact ⟨fun _ => rn_ld_32 (ev (hd.1 rfl)) (c1.kept hR) ⟨Grew.refl _, rfl⟩, fun hn => absurd (hd.2.1 rfl) hn⟩
        · intro u w hR hd; exact ⟨fun _ => rn_neq_32 (ev (hd.1 rfl)) (ev (hd.2.1 rfl)) ⟨Grew.refl _, (congrArg Value.bool (by simp))⟩, fun hn => absurd (hd.2.2.1 rfl) hn⟩
        · intro u w hR hd; exact runs_or2 (ev (hd.1 rfl)) (fun hb => ev ((hd.2.1 rfl))) ⟨Grew.refl _, rfl⟩
        · intro uu w4 hR h
          have hres : uu 52 = .bool false := h 15 (by decide)
          simp only [mixA, mixL, cond_true, cond_false]
          rw [hres]
          replace b9 := b9.grew ((Grew.refl W2).drw.trans hR)
          have HG4 := Lib.hid (HG2.out.drw.trans hR)
          have HT4 := Lib.hid (HT.out.grew HG4.out)
          have HE4 := Lib.hid (HES.out.out.grew HG4.out)
          clear h hres c0 c1 d0 d1 hvx hasc htt b10 hR
          by_cases t1 : z < time
          · by_cases t2 : time < x.1
            · obtain ⟨v, hv⟩ : ∃ v, valAt xs z = v := ⟨_, rfl⟩
              have HVZ := Lib.hid hv
              have HVT := Lib.hid (show valAt xs time = v by rw [← hv, HZ.out]; exact steps_mid HQ.out.2 HXK.out (by rw [← HZ.out]; exact t1) t2)
              clear hv
              have b90 := b9.cell 0
              have b91 := b9.cell 1
              have b9f := b9.free
              have b9l := b9.lt
              simp only [List.getElem?_cons_zero, List.getElem?_cons_succ] at b90 b91
              have HB := Lib.hid (Grew.refl w4)
              have tk0 := Lib.hid trivial
              have tk1 := Lib.hid trivial
              go_wp2_with (first
                | (go_at_call 17; clear tk0; (with_reducible refine (at_is t xs time v HVT.out _ HT4.out HQ.out.2 (by omega)).mono ?_); rintro e w1 ⟨rfl, g1⟩; clear b90 b91 b9f b9l; replace b9 := b9.grew g1; replace HE4 := Lib.hid (HE4.out.grew g1); replace HT4 := Lib.hid (HT4.out.grew g1); replace HB := Lib.hid (HB.out.trans g1); clear g1; have b90 := b9.cell 0; have b91 := b9.cell 1; have b9f := b9.free; have b9l := b9.lt; simp only [List.getElem?_cons_zero, List.getElem?_cons_succ] at b90 b91 b9l)
                | (go_at_call 17; clear tk1; (with_reducible refine (at_is t xs z v HVZ.out _ HT4.out HQ.out.2 (by omega)).mono ?_); rintro e w2 ⟨rfl, g1⟩; clear b90 b91 b9f b9l; replace b9 := b9.grew g1; replace HE4 := Lib.hid (HE4.out.grew g1); replace HT4 := Lib.hid (HT4.out.grew g1); replace HB := Lib.hid (HB.out.trans g1); clear g1; have b90 := b9.cell 0; have b91 := b9.cell 1; have b9f := b9.free; have b9l := b9.lt; simp only [List.getElem?_cons_zero, List.getElem?_cons_succ] at b90 b91 b9l))
              go_roundg (xs.length - (k + 1))
              case measure => have := HLT.out; omega
              case rel => exact ⟨k + 1, x.1, rfl, by go_num, HLT.out, rfl, Lib.hid (lastT_at _ _ _ _ HXK.out).symm, Lib.hid (HG4.out.trans HB.out)⟩
            · 
              have b90 := b9.cell 0
              have b91 := b9.cell 1
              have b9f := b9.free
              have b9l := b9.lt
              simp only [List.getElem?_cons_zero, List.getElem?_cons_succ] at b90 b91
              have HB := Lib.hid (Grew.refl w4)
              go_wp2
              go_roundg (xs.length - (k + 1))
              case measure => have := HLT.out; omega
              case rel => exact ⟨k + 1, x.1, rfl, by go_num, HLT.out, rfl, Lib.hid (lastT_at _ _ _ _ HXK.out).symm, Lib.hid (HG4.out.trans HB.out)⟩
          · 
            have b90 := b9.cell 0
            have b91 := b9.cell 1
            have b9f := b9.free
            have b9l := b9.lt
            simp only [List.getElem?_cons_zero, List.getElem?_cons_succ] at b90 b91
            have HB := Lib.hid (Grew.refl w4)
            go_wp2
            go_roundg (xs.length - (k + 1))
            case measure => have := HLT.out; omega
            case rel => exact ⟨k + 1, x.1, rfl, by go_num, HLT.out, rfl, Lib.hid (lastT_at _ _ _ _ HXK.out).symm, Lib.hid (HG4.out.trans HB.out)⟩
      · obtain rfl : k = xs.length := by omega
        have HNX := Lib.hid (show nxt xs z = ((0, 0), false) by rw [HZ.out, List.take_length]; exact steps_end HQ.out.2)
        have HT := Lib.hid (HT.out.grew HG.out)
        have HE := Lib.hid (HES.out.out.grew HG.out)
        have HB := Lib.hid (Grew.refl wr)
        have tk0 := Lib.hid trivial
        have tk1 := Lib.hid trivial
        go_wp2_with (first
          | (go_at_call 15; clear tk0; (with_reducible refine (next_is t xs z (0, 0) false HNX.out _ HT.out HQ.out.2 (by omega)).mono ?_); rintro e w1 ⟨rfl, g1⟩; replace HE := Lib.hid (HE.out.grew g1); replace HT := Lib.hid (HT.out.grew g1); replace HB := Lib.hid (HB.out.trans g1); clear g1)
          | (go_at_call 11; clear tk1; generalize hW : World.alloc _ _ = V; have hv : Grew w1 V := (by subst hW; repeat (first | with_reducible exact Grew.refl _ | with_reducible refine Grew.alloc ?_ _ | with_reducible refine Grew.drw ?_ | with_reducible refine Grew.drwN ?_ _ | with_reducible refine Grew.sc ?_ (by first | omega | (simp <;> omega)) _ _)); clear hW; replace HE := Lib.hid (HE.out.grew hv); replace HT := Lib.hid (HT.out.grew hv); replace HB := Lib.hid (HB.out.trans hv); clear hv; (with_reducible refine (examples_any _ HE.out).mono ?_); rintro e w2 ⟨rfl, g1⟩; replace HE := Lib.hid (HE.out.grew g1); replace HT := Lib.hid (HT.out.grew g1); replace HB := Lib.hid (HB.out.trans g1); clear g1))
        go_ret
        exact ⟨rfl, (HBS.out.out.trans HG.out).trans HB.out⟩
end Go.Proofs.YtaehlpdnjfblbaaDoor
