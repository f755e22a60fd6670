/-
  THE STATEMENT LexerSpaces OF LAYER 15, WALKED.
-/
import Derived.Test.YtcajamgajchheaaDoorLxSpc
import Derived.Test.YtcajamgajchheaaDoorLxLaws3
import Derived.Deep.RegionHeld
namespace Go.Proofs.YtcajamgajchheaaDoor
open Go Go.RowKit Go.IntWalk
set_option linter.unusedSimpArgs false
set_option linter.unusedVariables false
set_option maxRecDepth 8000
/-- Of each operation that may come up: it runs, and what is left runs behind it. -/
def AllH (P : Program) (ops : Array Oper) (Q : Exit → Act → World → Prop) (S : World → Prop) (fuel : Nat) (listed : Array Bool) (a : Act) (w : World) : List Nat → Prop
  | [] => True
  | i :: r => (∃ o, ops[i]? = some o ∧ o.guard = none ∧ Runs P o a w fun v w' => S w' ∧ wpAnyH P .any ops Q S fuel (listed.setIfInBounds i true) (a.put o.dst v) w') ∧ AllH P ops Q S fuel listed a w r
theorem AllH.at {P : Program} {ops : Array Oper} {Q : Exit → Act → World → Prop} {S : World → Prop} {fuel : Nat} {listed : Array Bool} {a : Act} {w : World} : ∀ {rs : List Nat}, AllH P ops Q S fuel listed a w rs → ∀ i ∈ rs, ∃ o, ops[i]? = some o ∧ o.guard = none ∧ Runs P o a w fun v w' => S w' ∧ wpAnyH P .any ops Q S fuel (listed.setIfInBounds i true) (a.put o.dst v) w'
  | _ :: _, h, i, hi => by
    rcases List.mem_cons.1 hi with rfl | hi
    · exact h.1
    · exact AllH.at h.2 i hi
theorem wpAnyH_go {P : Program} {ops : Array Oper} {Q : Exit → Act → World → Prop} {S : World → Prop} {fuel : Nat} {listed : Array Bool} {a : Act} {w : World} (rs : List Nat) (hr : Region.ready .any ops listed = rs) (hne : rs ≠ []) (h : AllH P ops Q S fuel listed a w rs) : wpAnyH P .any ops Q S (fuel + 1) listed a w := by
  refine wpAnyH_all hr hne fun i hi => ?_
  obtain ⟨o, ho, hg, hr⟩ := h.at i hi
  unfold wpOp
  simp only [ho]
  rw [if_pos (by simp [Region.wanted, hg])]
  exact .inl (hr _ _ fun _ _ h => h)
/-- A piece of code, with what holds behind it. -/
theorem cut_code {P : Program} {c : Code} {Q : Exit → Act → World → Prop} {a : Act} {w : World} (F : Act → Act → World → Prop) (h1 : c.wp P (fun e a' w' => e = .normal ∧ F a a' w') a w) (h2 : ∀ a' w', F a a' w' → Q .normal a' w') : c.wp P Q a w :=
  Code.wp_mono (fun e a' w' ⟨he, h⟩ => by subst he; exact h2 a' w' h) h1
theorem enters_pscan : Enters Tryd.prog 13 := fun args w => by go_simp
theorem enters_plain : Enters Tryd.prog 12 := fun args w => by go_simp
theorem enters_same : Enters Tryd.prog 11 := fun args w => by go_simp
section
variable {dst : Option Tmp} {ty : TypeId} {pos : String} {after : Array Edge} {g : Option (Nat × Bool)} {a : Act} {w : World} {T : Value → World → Prop}
theorem cat_run {ev : Operand → Value} {x y : Operand} {s t u : ByteArray} (hx : ev x = .string s) (hy : ev y = .string t) (hu : s ++ t = u) (hb : s.size + t.size ≤ 100000) (W : World) : (execOp ev ⟨dst, .binOp .add 9 x y 9, ty, pos, after, g⟩).run Tryd.prog W = .ok (.value (.string u)) W := by
  have hn : ¬ 9223372036854775807 < s.size + t.size := by omega
  subst hu
  simp only [execOp, hx, hy]
  go_simp
theorem sub_run {x : Operand} {n : Nat} (hx : a.eval x = .int .i64 ((n : Nat) : Int)) (hp : 0 < n ∧ n ≤ 100000) (W : World) : (execOp a.eval ⟨dst, .binOp .sub 3 x (.const (.int .i64 1)) 3, ty, pos, after, g⟩).run Tryd.prog W = .ok (.value (.int .i64 ((n - 1 : Nat) : Int))) W := by
  have hw : IntKind.i64.wrap ((n : Int) - 1) = ((n - 1 : Nat) : Int) := by rw [IntWalk.i64_in _ (by omega)]; omega
  simp only [execOp, hx]
  go_simp
  all_goals exact hw
theorem up_run {ev : Operand → Value} {x y : Operand} {p : Option Addr} {n c m : Nat} (hx : ev x = .slice p n c) (hy : ev y = .int .i64 ((m : Nat) : Int)) (hm : m ≤ n) (hn : n ≤ c) (W : World) : (execOp ev ⟨dst, .slice 24 x none (some y) none, ty, pos, after, g⟩).run Tryd.prog W = .ok (.value (.slice p m c)) W := by
  have hmc : m ≤ c := Nat.le_trans hm hn
  simp only [execOp, hx, hy, Option.map_some, Option.map_none]
  go_simp
theorem runs_bs0 (h : T (.slice (some ⟨w.heap.size, 0, none⟩) 0 0) (w.alloc (.cells #[] 38))) : Runs Tryd.prog ⟨dst, .buildSlice 24 0 #[], ty, pos, after, g⟩ a w T := by
  refine Runs.value (v := .slice (some ⟨w.heap.size, 0, none⟩) 0 0) (w' := w.alloc (.cells #[] 38)) ?_ h
  simp only [execOp]
  go_simp
theorem runs_c3 {P : Program} {f : FuncId} {x y z : Operand} {ts : Array TypeId} {v u t : Value} (hf : Enters P f) (hx : a.eval x = v) (hy : a.eval y = u) (hz : a.eval z = t) (h : Calls P f #[v, u, t] w fun e w'' => ∃ v, e = .returned v ∧ T v w'') : Runs P ⟨dst, .call { callee := .value (.func f), args := #[x, y, z], argTypes := ts }, ty, pos, after, g⟩ a w T :=
  runs_call hf (by simp [hx, hy, hz]) h
end
set_option maxHeartbeats 8000000 in
theorem spaces_law (a0 a1 : ByteArray) (W : World) (he : Env W) : Calls Tryd.prog 8 #[.string a0, .string a1] W fun e w' => e = .returned (.bool true) ∧ Grew W w' := by
  have HE := Lib.hid he
  have hnt := fun W => not_run true W
  rw [Bool.not_true] at hnt
  by_cases hbig : 300 < a0.size
  · clear he
    go_enter Tryd.func8, Tryd.ntmps8
    go_wp2_with (first
      | (go_at_call 10; (with_reducible refine (wakes_any _ HE.out).mono ?_); rintro e w1 ⟨rfl, g1⟩; have HG1 := Lib.hid g1; clear g1))
    all_goals first | (exfalso; omega) | skip
    go_ret
    exact ⟨rfl, HG1.out⟩
  by_cases hbig2 : 300 < a1.size
  · clear he
    go_enter Tryd.func8, Tryd.ntmps8
    go_wp2_with (first
      | (go_at_call 10; (with_reducible refine (wakes_any _ HE.out).mono ?_); rintro e w1 ⟨rfl, g1⟩; have HG1 := Lib.hid g1; clear g1))
    all_goals first | (exfalso; omega) | skip
    go_ret
    exact ⟨rfl, HG1.out⟩
  · obtain ⟨zc, hz1⟩ : ∃ z : ByteArray, a0 ++ ⟨#[10]⟩ = z := ⟨_, rfl⟩
    obtain ⟨Z, hz2⟩ : ∃ z : ByteArray, zc ++ a1 = z := ⟨_, rfl⟩
    have hZl : Z.data.toList = a0.data.toList ++ 10 :: a1.data.toList := by
      rw [← hz2, ← hz1]
      simp
    have hlc : zc.size = a0.size + 1 := by rw [← hz1, ByteArray.size_append]; rfl
    have hlz : Z.size = a0.size + 1 + a1.size := by rw [← hz2, ← hlc]; simp
    have HS1 := Lib.hid (fun W h => scanP_any a0 (by omega) W h)
    have HS2 := Lib.hid (fun W h => scanP_any a1 (by omega) W h)
    have HS3 := Lib.hid (fun W h => scanP_any Z (by omega) W h)
    have hsig := spaces_sig a0.data.toList a1.data.toList
    rw [← hZl] at hsig
    have hl1 := scan_le a0
    have hl2 := scan_le a1
    have hl3 := scan_le Z
    have hp1 : 0 < (scan a0.data.toList).length := by rw [scan_len]; omega
    generalize scan Z.data.toList = R3 at HS3 hsig hl3
    generalize scan a0.data.toList = R1 at HS1 hsig hl1 hp1
    generalize scan a1.data.toList = R2 at HS2 hsig hl2
    have HL1 : Hid (R1.length ≤ 1000) := Lib.hid (by omega)
    have HL2 : Hid (R2.length ≤ 1000) := Lib.hid (by omega)
    have HL3 : Hid (R3.length ≤ 200000) := Lib.hid (by omega)
    have HTL : Hid ((R1.take (R1.length - 1)).length = R1.length - 1) := Lib.hid (by rw [List.length_take]; omega)
    have HSM := Lib.hid (fun p1 c1 p2 c2 w (h1 : Rw 4 tkc w p1 c1 R3) (h2 : Rw 4 tkc w p2 c2 (R1.take (R1.length - 1) ++ R2)) => (show Calls Tryd.prog 11 #[.slice p1 R3.length c1, .slice p2 ((R1.take (R1.length - 1)).length + R2.length) c2, .bool false] w fun e w' => e = .returned (.bool true) ∧ Grew w w' from by
      have h3 := same_any p1 p2 c1 c2 R3 (R1.take (R1.length - 1) ++ R2) false w h1 h2 hsig (fun h => by cases h)
      rw [List.length_append] at h3
      exact h3))
    have HZ1 := Lib.hid hz1
    have HZ2 := Lib.hid hz2
    have hcb1 : a0.size + (⟨#[10]⟩ : ByteArray).size ≤ 100000 := by show a0.size + 1 ≤ 100000; omega
    have hcb2 : zc.size + a1.size ≤ 100000 := by omega
    have HCB := Lib.hid (And.intro hcb1 hcb2)
    have HPOS : Hid (0 < R1.length ∧ R1.length ≤ 100000) := Lib.hid (by omega)
    have hz0 : ((R1.length : Int) == 0) = false := by simpa using (show R1.length ≠ 0 by omega)
    have hz0' : ¬ ((R1.length : Int) = 0) := by omega
    clear he hz1 hz2 hZl hlc hlz hsig hl1 hl2 hl3 hp1 hcb1 hcb2
    go_enter Tryd.func8, Tryd.ntmps8
    go_upto_region 8 with (first
      | (go_at_call 10; (with_reducible refine (wakes_any _ HE.out).mono ?_); rintro e w1 ⟨rfl, g1⟩; have HG1 := Lib.hid g1; clear g1)
      | (go_at_call 13; (with_reducible refine (HS1.out _ (HE.out.grew HG1.out)).mono ?_); rintro e w2 ⟨p2, c2, rfl, hr2, g2⟩; have HR2 := Lib.hid hr2; have HG2 := Lib.hid (HG1.out.trans g2); clear g2 hr2)
      | (go_at_call 12; (with_reducible refine (plain_any _ _ _ _ HR2.out (by have := HL1.out; omega)).mono ?_); rintro e w3 ⟨p3, c3, rfl, hr3, g3⟩; have HR3 := Lib.hid hr3; have HG3 := Lib.hid (HG2.out.trans g3); clear g3 hr3)
      | (go_at_call 13; (with_reducible refine (HS2.out _ (HE.out.grew HG3.out)).mono ?_); rintro e w4 ⟨p4, c4, rfl, hr4, g4⟩; have HR4 := Lib.hid hr4; have HG4 := Lib.hid (HG3.out.trans g4); have HR3 := Lib.hid (HR3.out.kept g4); clear g4 hr4)
      | (go_at_call 12; (with_reducible refine (plain_any _ _ _ _ HR4.out (by have := HL2.out; omega)).mono ?_); rintro e w5 ⟨p5, c5, rfl, hr5, g5⟩; have HR5 := Lib.hid hr5; have HG5 := Lib.hid (HG4.out.trans g5); have HR3 := Lib.hid (HR3.out.kept g5); clear g5 hr5))
    all_goals first | (exfalso; omega) | skip
    have hcap := HR3.out.cap
    have HRXT := Lib.hid (HR3.out.upto (R1.length - 1) (Nat.sub_le _ _))
    have HRY := Lib.hid HR5.out
    have HGW := Lib.hid HG5.out
    have hpos := HPOS.out
    obtain ⟨hcb1, hcb2⟩ := HCB.out
    refine cut_code (fun a0_ a2_ w2_ => ∃ v4 v5 v6 v12 v14, a2_ = (((((((((((((((((a0_.put (some 26) (.string a0)).put (some 27) (.string zc)).put (some 28) (.string a1)).put (some 29) (.string Z)).put (some 30) (v4)).put (some 31) (v5)).put (some 32) (v6)).put (some 33) (.slice p3 R1.length c3)).put (some 34) (.slice p3 R1.length c3)).put (some 35) (.int .i64 ((R1.length : Nat) : Int))).put (some 36) (.int .i64 ((R1.length - 1 : Nat) : Int))).put (some 37) (.slice p3 (R1.length - 1) c3)).put (some 38) (v12)).put (some 39) (.slice p5 R2.length c5)).put (some 40) (v14)).put (some 41) (.bool true)).put (some 4) (.bool true)) ∧ Grew w5 w2_) ?_ ?_
    · have hgd : Grew w5 w5.drew := (Grew.refl _).drw
      have hg9 := Grew.refl w5.drew
      obtain ⟨B0, hB0⟩ : ∃ B0, B0 = w5.drew.heap.size := ⟨_, rfl⟩
      have hK : (fun _ : World => True) w5.drew := trivial
      refine wp_region_held_drew (S := fun _ => True) (by kernel_rfl) trivial fun _ => ?_
      refine wpAnyH_take (i := 0) (v := .string a0) rfl (by kernel_rfl) (by kernel_rfl) (by kernel_rfl) (fun _ _ _ h => nomatch h.1) ((Or.inl ⟨by rfl, fun W9 _ => by simp only [execOp]; go_simp⟩)) hK ?_
      simp only [List.getElem_toArray, List.getElem_cons_zero, List.getElem_cons_succ, Act.put, mixA, mixL, cond_true, cond_false, List.setIfInBounds_toArray, List.set_cons_zero, List.set_cons_succ]
      refine wpAnyH_take (i := 1) (v := .string zc) rfl (by kernel_rfl) (by kernel_rfl) (by kernel_rfl) (fun _ _ _ h => nomatch h.1) (Or.inl ⟨by rfl, fun W9 _ => cat_run rfl rfl HZ1.out hcb1 W9⟩) hK ?_
      simp only [List.getElem_toArray, List.getElem_cons_zero, List.getElem_cons_succ, Act.put, mixA, mixL, cond_true, cond_false, List.setIfInBounds_toArray, List.set_cons_zero, List.set_cons_succ]
      refine wpAnyH_take (i := 2) (v := .string a1) rfl (by kernel_rfl) (by kernel_rfl) (by kernel_rfl) (fun _ _ _ h => nomatch h.1) ((Or.inl ⟨by rfl, fun W9 _ => by simp only [execOp]; go_simp⟩)) hK ?_
      simp only [List.getElem_toArray, List.getElem_cons_zero, List.getElem_cons_succ, Act.put, mixA, mixL, cond_true, cond_false, List.setIfInBounds_toArray, List.set_cons_zero, List.set_cons_succ]
      refine wpAnyH_take (i := 3) (v := .string Z) rfl (by kernel_rfl) (by kernel_rfl) (by kernel_rfl) (fun _ _ _ h => nomatch h.1) (Or.inl ⟨by rfl, fun W9 _ => cat_run rfl rfl HZ2.out hcb2 W9⟩) hK ?_
      simp only [List.getElem_toArray, List.getElem_cons_zero, List.getElem_cons_succ, Act.put, mixA, mixL, cond_true, cond_false, List.setIfInBounds_toArray, List.set_cons_zero, List.set_cons_succ]
      refine wpAnyH_take (i := 7) (v := .slice p3 R1.length c3) rfl (by kernel_rfl) (by kernel_rfl) (by kernel_rfl) (fun _ _ _ h => nomatch h.1) ((Or.inl ⟨by rfl, fun W9 _ => by simp only [execOp]; go_simp⟩)) hK ?_
      simp only [List.getElem_toArray, List.getElem_cons_zero, List.getElem_cons_succ, Act.put, mixA, mixL, cond_true, cond_false, List.setIfInBounds_toArray, List.set_cons_zero, List.set_cons_succ]
      refine wpAnyH_take (i := 8) (v := .slice p3 R1.length c3) rfl (by kernel_rfl) (by kernel_rfl) (by kernel_rfl) (fun _ _ _ h => nomatch h.1) ((Or.inl ⟨by rfl, fun W9 _ => by simp only [execOp]; go_simp⟩)) hK ?_
      simp only [List.getElem_toArray, List.getElem_cons_zero, List.getElem_cons_succ, Act.put, mixA, mixL, cond_true, cond_false, List.setIfInBounds_toArray, List.set_cons_zero, List.set_cons_succ]
      refine wpAnyH_take (i := 9) (v := .int .i64 ((R1.length : Nat) : Int)) rfl (by kernel_rfl) (by kernel_rfl) (by kernel_rfl) (fun _ _ _ h => nomatch h.1) ((Or.inl ⟨by rfl, fun W9 _ => by simp only [execOp]; go_simp⟩)) hK ?_
      simp only [List.getElem_toArray, List.getElem_cons_zero, List.getElem_cons_succ, Act.put, mixA, mixL, cond_true, cond_false, List.setIfInBounds_toArray, List.set_cons_zero, List.set_cons_succ]
      refine wpAnyH_take (i := 10) (v := .int .i64 ((R1.length - 1 : Nat) : Int)) rfl (by kernel_rfl) (by kernel_rfl) (by kernel_rfl) (fun _ _ _ h => nomatch h.1) (Or.inl ⟨by rfl, fun W9 _ => sub_run rfl hpos W9⟩) hK ?_
      simp only [List.getElem_toArray, List.getElem_cons_zero, List.getElem_cons_succ, Act.put, mixA, mixL, cond_true, cond_false, List.setIfInBounds_toArray, List.set_cons_zero, List.set_cons_succ]
      refine wpAnyH_take (i := 11) (v := .slice p3 (R1.length - 1) c3) rfl (by kernel_rfl) (by kernel_rfl) (by kernel_rfl) (fun _ _ _ h => nomatch h.1) (Or.inl ⟨by rfl, fun W9 _ => up_run rfl rfl (Nat.sub_le _ _) hcap W9⟩) hK ?_
      simp only [List.getElem_toArray, List.getElem_cons_zero, List.getElem_cons_succ, Act.put, mixA, mixL, cond_true, cond_false, List.setIfInBounds_toArray, List.set_cons_zero, List.set_cons_succ]
      refine wpAnyH_take (i := 13) (v := .slice p5 R2.length c5) rfl (by kernel_rfl) (by kernel_rfl) (by kernel_rfl) (fun _ _ _ h => nomatch h.1) ((Or.inl ⟨by rfl, fun W9 _ => by simp only [execOp]; go_simp⟩)) hK ?_
      simp only [List.getElem_toArray, List.getElem_cons_zero, List.getElem_cons_succ, Act.put, mixA, mixL, cond_true, cond_false, List.setIfInBounds_toArray, List.set_cons_zero, List.set_cons_succ]
      refine wpAnyH_go [4, 6] (by kernel_rfl) (by simp) ⟨⟨_, rfl, rfl, ?_⟩, ⟨_, rfl, rfl, ?_⟩, trivial⟩
      · refine runs_c1 enters_pscan (ev rfl) ((HS3.out _ (HE.out.grew (HGW.out.trans (hgd.trans hg9)))).mono ?_)
        rintro e x1 ⟨u4, k4, rfl, h4, gx⟩
        have hg2 := hg9.trans gx
        refine ⟨_, rfl, trivial, ?_⟩
        clear hg9 gx
        have hg9 := hg2
        clear hg2
        simp only [List.getElem_toArray, List.getElem_cons_zero, List.getElem_cons_succ, Act.put, mixA, mixL, cond_true, cond_false, List.setIfInBounds_toArray, List.set_cons_zero, List.set_cons_succ]
        refine wpAnyH_go [5, 6] (by kernel_rfl) (by simp) ⟨⟨_, rfl, rfl, ?_⟩, ⟨_, rfl, rfl, ?_⟩, trivial⟩
        · refine runs_c1 enters_plain (ev rfl) ((plainO_any u4 k4 R3 _ h4 HL3.out).mono ?_)
          rintro e x2 ⟨u5, k5, rfl, ho5, gx⟩
          have l5 := ho5.place encT
          have r5 := (ho5.rd encT).2
          clear ho5 h4
          have hg2 := hg9.trans gx
          refine ⟨_, rfl, trivial, ?_⟩
          clear hg9 gx
          have hg9 := hg2
          clear hg2
          simp only [List.getElem_toArray, List.getElem_cons_zero, List.getElem_cons_succ, Act.put, mixA, mixL, cond_true, cond_false, List.setIfInBounds_toArray, List.set_cons_zero, List.set_cons_succ]
          refine wpAnyH_go [6] (by kernel_rfl) (by simp) ⟨⟨_, rfl, rfl, ?_⟩, trivial⟩
          have h6 : OwR (x2.alloc (Obj.cells #[] 38)) B0 38 4 tkc (.slice (some ⟨x2.heap.size, 0, none⟩) 0 0) ([] : List Tk) := OwR.lit encT x2 [] 0 B0 38 #[] rfl rfl (by omega) (hB0 ▸ hg9.sz)
          refine runs_bs0 ?_
          have gx : Grew x2 (x2.alloc (Obj.cells #[] 38)) := (Grew.refl _).alloc _
          have n5 : ∀ a, u5 = some a → a.block ≠ x2.heap.size := fun a ha e => by have h1 := (l5 a ha).2; omega
          replace r5 := r5.kept gx
          have l6 := fun a ha => Nat.lt_of_lt_of_le (l5 a ha).2 gx.sz
          generalize x2.heap.size = q6 at h6 n5 ⊢
          generalize x2.alloc (Obj.cells #[] 38) = x3 at h6 gx r5 l6 ⊢
          have hg2 := hg9.trans gx
          refine ⟨trivial, ?_⟩
          clear hg9 gx
          have hg9 := hg2
          clear hg2
          simp only [List.getElem_toArray, List.getElem_cons_zero, List.getElem_cons_succ, Act.put, mixA, mixL, cond_true, cond_false, List.setIfInBounds_toArray, List.set_cons_zero, List.set_cons_succ]
          refine wpAnyH_go [12] (by kernel_rfl) (by simp) ⟨⟨_, rfl, rfl, ?_⟩, trivial⟩
          refine runs_append_rowO encT B0 38 (tkv ⟨0, ⟨#[]⟩, 0, 0⟩) 40 Tryd.underlying24 infoU rfl (.slice (some ⟨q6, 0, none⟩) 0 0) [] (ev rfl) h6 _ _ _ (R1.take (R1.length - 1)) (ev rfl) HTL.out (HRXT.out.kept (hgd.trans hg9)) (by rw [HTL.out]; have := HL1.out; simp; omega) (by rw [HTL.out]; have := HL1.out; simp; omega) (hB0 ▸ hg9.sz) fun u7 k7 x4 ho7 bx cx7 own7 => ?_
          have r5b := r5.chg cx7 (fun a ha e => n5 a ha (by simpa [ownBlock_sl] using e.symm))
          have l5b : ∀ a, u5 = some a → a.block < x3.heap.size := fun a ha => l6 a ha
          have n5b : ∀ a, u5 = some a → ∀ b, u7 = some b → a.block ≠ b.block := fun a ha b hb e => by
            subst hb
            rcases own7 with h1 | h1
            · have h2 : b.block = q6 := by simpa [ownBlock_sl] using h1
              exact n5 a ha (e.trans h2)
            · have h2 : b.block = x3.heap.size := by simpa [ownBlock_sl] using h1
              have h3 := l5b a ha
              omega
          have hg2 : Grew w5.drew x4 := Below.trans hg9 (hB0 ▸ bx)
          refine ⟨trivial, ?_⟩
          clear hg9 bx cx7 own7 h6 r5 l5b n5
          have hg9 := hg2
          clear hg2
          rw [List.nil_append] at ho7
          rw [List.length_nil, Nat.zero_add] at ho7 ⊢
          simp only [List.getElem_toArray, List.getElem_cons_zero, List.getElem_cons_succ, Act.put, mixA, mixL, cond_true, cond_false, List.setIfInBounds_toArray, List.set_cons_zero, List.set_cons_succ]
          refine wpAnyH_go [14] (by kernel_rfl) (by simp) ⟨⟨_, rfl, rfl, ?_⟩, trivial⟩
          refine runs_append_rowO encT B0 38 (tkv ⟨0, ⟨#[]⟩, 0, 0⟩) 40 Tryd.underlying24 infoU rfl (.slice u7 (R1.take (R1.length - 1)).length k7) (R1.take (R1.length - 1)) (ev rfl) ho7 _ _ _ R2 (ev rfl) rfl (HRY.out.kept (hgd.trans hg9)) (by rw [HTL.out]; have := HL1.out; have := HL2.out; omega) (by rw [HTL.out]; have := HL1.out; have := HL2.out; omega) (hB0 ▸ hg9.sz) fun u8 k8 x5 ho8 bx cx8 own8 => ?_
          have r5c := r5b.chg cx8 (fun a ha e => by
            cases u7 with
            | none => simp [ownBlock_sl] at e
            | some b => exact n5b a ha b rfl (by simpa [ownBlock_sl] using e.symm))
          have hg2 : Grew w5.drew x5 := Below.trans hg9 (hB0 ▸ bx)
          have r8 := (ho8.rd encT).2
          skip
          refine ⟨trivial, ?_⟩
          clear hg9 bx cx8 own8 ho7 ho8 r5b n5b
          have hg9 := hg2
          clear hg2
          simp only [List.getElem_toArray, List.getElem_cons_zero, List.getElem_cons_succ, Act.put, mixA, mixL, cond_true, cond_false, List.setIfInBounds_toArray, List.set_cons_zero, List.set_cons_succ]
          refine wpAnyH_go [15] (by kernel_rfl) (by simp) ⟨⟨_, rfl, rfl, ?_⟩, trivial⟩
          refine runs_c3 enters_same (ev rfl) (ev rfl) rfl ((HSM.out _ _ _ _ _ r5c r8).mono ?_)
          rintro e x6 ⟨rfl, gx⟩
          have hg2 := hg9.trans gx
          refine ⟨_, rfl, trivial, ?_⟩
          clear hg9 gx
          have hg9 := hg2
          clear hg2
          simp only [List.getElem_toArray, List.getElem_cons_zero, List.getElem_cons_succ, Act.put, mixA, mixL, cond_true, cond_false, List.setIfInBounds_toArray, List.set_cons_zero, List.set_cons_succ]
          refine wpAnyH_go [16] (by kernel_rfl) (by simp) ⟨⟨_, rfl, rfl, ?_⟩, trivial⟩
          refine runs_mva (ev rfl) ⟨trivial, ?_⟩
          simp only [List.getElem_toArray, List.getElem_cons_zero, List.getElem_cons_succ, Act.put, mixA, mixL, cond_true, cond_false, List.setIfInBounds_toArray, List.set_cons_zero, List.set_cons_succ]
          refine wpAnyH_done (by kernel_rfl) ?_ _
          exact ⟨rfl, .slice u4 R3.length k4, .slice u5 R3.length k5, .slice (some ⟨q6, 0, none⟩) 0 0, .slice u7 (R1.take (R1.length - 1)).length k7, .slice u8 ((R1.take (R1.length - 1)).length + R2.length) k8, by kernel_rfl, (Grew.refl w5).drw.trans hg9⟩
        · have h6 : OwR (x1.alloc (Obj.cells #[] 38)) B0 38 4 tkc (.slice (some ⟨x1.heap.size, 0, none⟩) 0 0) ([] : List Tk) := OwR.lit encT x1 [] 0 B0 38 #[] rfl rfl (by omega) (hB0 ▸ hg9.sz)
          refine runs_bs0 ?_
          have gx : Grew x1 (x1.alloc (Obj.cells #[] 38)) := (Grew.refl _).alloc _
          replace h4 := h4.kept gx
          generalize x1.heap.size = q6 at h6 ⊢
          generalize x1.alloc (Obj.cells #[] 38) = x8 at h6 gx h4 ⊢
          have hg2 := hg9.trans gx
          refine ⟨trivial, ?_⟩
          clear hg9 gx
          have hg9 := hg2
          clear hg2
          simp only [List.getElem_toArray, List.getElem_cons_zero, List.getElem_cons_succ, Act.put, mixA, mixL, cond_true, cond_false, List.setIfInBounds_toArray, List.set_cons_zero, List.set_cons_succ]
          refine wpAnyH_go [5] (by kernel_rfl) (by simp) ⟨⟨_, rfl, rfl, ?_⟩, trivial⟩
          refine runs_c1 enters_plain (ev rfl) ((plainO_any u4 k4 R3 _ h4 HL3.out).mono ?_)
          rintro e x9 ⟨u5, k5, rfl, ho5, gx⟩
          have l5 := ho5.place encT
          have r5 := (ho5.rd encT).2
          clear ho5 h4
          have n5 : ∀ a, u5 = some a → a.block ≠ q6 := fun a ha e => by have h1 := (l5 a ha).1; have h2 := ((h6.place encT) ⟨q6, 0, none⟩ rfl).2; dsimp only at h2; omega
          replace h6 := h6.kept gx
          have hg2 := hg9.trans gx
          refine ⟨_, rfl, trivial, ?_⟩
          clear hg9 gx
          have hg9 := hg2
          clear hg2
          simp only [List.getElem_toArray, List.getElem_cons_zero, List.getElem_cons_succ, Act.put, mixA, mixL, cond_true, cond_false, List.setIfInBounds_toArray, List.set_cons_zero, List.set_cons_succ]
          refine wpAnyH_go [12] (by kernel_rfl) (by simp) ⟨⟨_, rfl, rfl, ?_⟩, trivial⟩
          refine runs_append_rowO encT B0 38 (tkv ⟨0, ⟨#[]⟩, 0, 0⟩) 40 Tryd.underlying24 infoU rfl (.slice (some ⟨q6, 0, none⟩) 0 0) [] (ev rfl) h6 _ _ _ (R1.take (R1.length - 1)) (ev rfl) HTL.out (HRXT.out.kept (hgd.trans hg9)) (by rw [HTL.out]; have := HL1.out; simp; omega) (by rw [HTL.out]; have := HL1.out; simp; omega) (hB0 ▸ hg9.sz) fun u7 k7 x10 ho7 bx cx7 own7 => ?_
          have r5b := r5.chg cx7 (fun a ha e => n5 a ha (by simpa [ownBlock_sl] using e.symm))
          have l5b : ∀ a, u5 = some a → a.block < x9.heap.size := fun a ha => (l5 a ha).2
          have n5b : ∀ a, u5 = some a → ∀ b, u7 = some b → a.block ≠ b.block := fun a ha b hb e => by
            subst hb
            rcases own7 with h1 | h1
            · have h2 : b.block = q6 := by simpa [ownBlock_sl] using h1
              exact n5 a ha (e.trans h2)
            · have h2 : b.block = x9.heap.size := by simpa [ownBlock_sl] using h1
              have h3 := l5b a ha
              omega
          have hg2 : Grew w5.drew x10 := Below.trans hg9 (hB0 ▸ bx)
          refine ⟨trivial, ?_⟩
          clear hg9 bx cx7 own7 h6 r5 l5b n5
          have hg9 := hg2
          clear hg2
          rw [List.nil_append] at ho7
          rw [List.length_nil, Nat.zero_add] at ho7 ⊢
          simp only [List.getElem_toArray, List.getElem_cons_zero, List.getElem_cons_succ, Act.put, mixA, mixL, cond_true, cond_false, List.setIfInBounds_toArray, List.set_cons_zero, List.set_cons_succ]
          refine wpAnyH_go [14] (by kernel_rfl) (by simp) ⟨⟨_, rfl, rfl, ?_⟩, trivial⟩
          refine runs_append_rowO encT B0 38 (tkv ⟨0, ⟨#[]⟩, 0, 0⟩) 40 Tryd.underlying24 infoU rfl (.slice u7 (R1.take (R1.length - 1)).length k7) (R1.take (R1.length - 1)) (ev rfl) ho7 _ _ _ R2 (ev rfl) rfl (HRY.out.kept (hgd.trans hg9)) (by rw [HTL.out]; have := HL1.out; have := HL2.out; omega) (by rw [HTL.out]; have := HL1.out; have := HL2.out; omega) (hB0 ▸ hg9.sz) fun u8 k8 x11 ho8 bx cx8 own8 => ?_
          have r5c := r5b.chg cx8 (fun a ha e => by
            cases u7 with
            | none => simp [ownBlock_sl] at e
            | some b => exact n5b a ha b rfl (by simpa [ownBlock_sl] using e.symm))
          have hg2 : Grew w5.drew x11 := Below.trans hg9 (hB0 ▸ bx)
          have r8 := (ho8.rd encT).2
          skip
          refine ⟨trivial, ?_⟩
          clear hg9 bx cx8 own8 ho7 ho8 r5b n5b
          have hg9 := hg2
          clear hg2
          simp only [List.getElem_toArray, List.getElem_cons_zero, List.getElem_cons_succ, Act.put, mixA, mixL, cond_true, cond_false, List.setIfInBounds_toArray, List.set_cons_zero, List.set_cons_succ]
          refine wpAnyH_go [15] (by kernel_rfl) (by simp) ⟨⟨_, rfl, rfl, ?_⟩, trivial⟩
          refine runs_c3 enters_same (ev rfl) (ev rfl) rfl ((HSM.out _ _ _ _ _ r5c r8).mono ?_)
          rintro e x12 ⟨rfl, gx⟩
          have hg2 := hg9.trans gx
          refine ⟨_, rfl, trivial, ?_⟩
          clear hg9 gx
          have hg9 := hg2
          clear hg2
          simp only [List.getElem_toArray, List.getElem_cons_zero, List.getElem_cons_succ, Act.put, mixA, mixL, cond_true, cond_false, List.setIfInBounds_toArray, List.set_cons_zero, List.set_cons_succ]
          refine wpAnyH_go [16] (by kernel_rfl) (by simp) ⟨⟨_, rfl, rfl, ?_⟩, trivial⟩
          refine runs_mva (ev rfl) ⟨trivial, ?_⟩
          simp only [List.getElem_toArray, List.getElem_cons_zero, List.getElem_cons_succ, Act.put, mixA, mixL, cond_true, cond_false, List.setIfInBounds_toArray, List.set_cons_zero, List.set_cons_succ]
          refine wpAnyH_done (by kernel_rfl) ?_ _
          exact ⟨rfl, .slice u4 R3.length k4, .slice u5 R3.length k5, .slice (some ⟨q6, 0, none⟩) 0 0, .slice u7 (R1.take (R1.length - 1)).length k7, .slice u8 ((R1.take (R1.length - 1)).length + R2.length) k8, by kernel_rfl, (Grew.refl w5).drw.trans hg9⟩
      · have h6 : OwR (w5.drew.alloc (Obj.cells #[] 38)) B0 38 4 tkc (.slice (some ⟨w5.drew.heap.size, 0, none⟩) 0 0) ([] : List Tk) := OwR.lit encT w5.drew [] 0 B0 38 #[] rfl rfl (by omega) (hB0 ▸ hg9.sz)
        refine runs_bs0 ?_
        have gx : Grew w5.drew (w5.drew.alloc (Obj.cells #[] 38)) := (Grew.refl _).alloc _
        generalize w5.drew.heap.size = q6 at h6 ⊢
        generalize w5.drew.alloc (Obj.cells #[] 38) = x14 at h6 gx ⊢
        have hg2 := hg9.trans gx
        refine ⟨trivial, ?_⟩
        clear hg9 gx
        have hg9 := hg2
        clear hg2
        simp only [List.getElem_toArray, List.getElem_cons_zero, List.getElem_cons_succ, Act.put, mixA, mixL, cond_true, cond_false, List.setIfInBounds_toArray, List.set_cons_zero, List.set_cons_succ]
        refine wpAnyH_go [4] (by kernel_rfl) (by simp) ⟨⟨_, rfl, rfl, ?_⟩, trivial⟩
        refine runs_c1 enters_pscan (ev rfl) ((HS3.out _ (HE.out.grew (HGW.out.trans (hgd.trans hg9)))).mono ?_)
        rintro e x15 ⟨u4, k4, rfl, h4, gx⟩
        replace h6 := h6.kept gx
        have hg2 := hg9.trans gx
        refine ⟨_, rfl, trivial, ?_⟩
        clear hg9 gx
        have hg9 := hg2
        clear hg2
        simp only [List.getElem_toArray, List.getElem_cons_zero, List.getElem_cons_succ, Act.put, mixA, mixL, cond_true, cond_false, List.setIfInBounds_toArray, List.set_cons_zero, List.set_cons_succ]
        refine wpAnyH_go [5] (by kernel_rfl) (by simp) ⟨⟨_, rfl, rfl, ?_⟩, trivial⟩
        refine runs_c1 enters_plain (ev rfl) ((plainO_any u4 k4 R3 _ h4 HL3.out).mono ?_)
        rintro e x16 ⟨u5, k5, rfl, ho5, gx⟩
        have l5 := ho5.place encT
        have r5 := (ho5.rd encT).2
        clear ho5 h4
        have n5 : ∀ a, u5 = some a → a.block ≠ q6 := fun a ha e => by have h1 := (l5 a ha).1; have h2 := ((h6.place encT) ⟨q6, 0, none⟩ rfl).2; dsimp only at h2; omega
        replace h6 := h6.kept gx
        have hg2 := hg9.trans gx
        refine ⟨_, rfl, trivial, ?_⟩
        clear hg9 gx
        have hg9 := hg2
        clear hg2
        simp only [List.getElem_toArray, List.getElem_cons_zero, List.getElem_cons_succ, Act.put, mixA, mixL, cond_true, cond_false, List.setIfInBounds_toArray, List.set_cons_zero, List.set_cons_succ]
        refine wpAnyH_go [12] (by kernel_rfl) (by simp) ⟨⟨_, rfl, rfl, ?_⟩, trivial⟩
        refine runs_append_rowO encT B0 38 (tkv ⟨0, ⟨#[]⟩, 0, 0⟩) 40 Tryd.underlying24 infoU rfl (.slice (some ⟨q6, 0, none⟩) 0 0) [] (ev rfl) h6 _ _ _ (R1.take (R1.length - 1)) (ev rfl) HTL.out (HRXT.out.kept (hgd.trans hg9)) (by rw [HTL.out]; have := HL1.out; simp; omega) (by rw [HTL.out]; have := HL1.out; simp; omega) (hB0 ▸ hg9.sz) fun u7 k7 x17 ho7 bx cx7 own7 => ?_
        have r5b := r5.chg cx7 (fun a ha e => n5 a ha (by simpa [ownBlock_sl] using e.symm))
        have l5b : ∀ a, u5 = some a → a.block < x16.heap.size := fun a ha => (l5 a ha).2
        have n5b : ∀ a, u5 = some a → ∀ b, u7 = some b → a.block ≠ b.block := fun a ha b hb e => by
          subst hb
          rcases own7 with h1 | h1
          · have h2 : b.block = q6 := by simpa [ownBlock_sl] using h1
            exact n5 a ha (e.trans h2)
          · have h2 : b.block = x16.heap.size := by simpa [ownBlock_sl] using h1
            have h3 := l5b a ha
            omega
        have hg2 : Grew w5.drew x17 := Below.trans hg9 (hB0 ▸ bx)
        refine ⟨trivial, ?_⟩
        clear hg9 bx cx7 own7 h6 r5 l5b n5
        have hg9 := hg2
        clear hg2
        rw [List.nil_append] at ho7
        rw [List.length_nil, Nat.zero_add] at ho7 ⊢
        simp only [List.getElem_toArray, List.getElem_cons_zero, List.getElem_cons_succ, Act.put, mixA, mixL, cond_true, cond_false, List.setIfInBounds_toArray, List.set_cons_zero, List.set_cons_succ]
        refine wpAnyH_go [14] (by kernel_rfl) (by simp) ⟨⟨_, rfl, rfl, ?_⟩, trivial⟩
        refine runs_append_rowO encT B0 38 (tkv ⟨0, ⟨#[]⟩, 0, 0⟩) 40 Tryd.underlying24 infoU rfl (.slice u7 (R1.take (R1.length - 1)).length k7) (R1.take (R1.length - 1)) (ev rfl) ho7 _ _ _ R2 (ev rfl) rfl (HRY.out.kept (hgd.trans hg9)) (by rw [HTL.out]; have := HL1.out; have := HL2.out; omega) (by rw [HTL.out]; have := HL1.out; have := HL2.out; omega) (hB0 ▸ hg9.sz) fun u8 k8 x18 ho8 bx cx8 own8 => ?_
        have r5c := r5b.chg cx8 (fun a ha e => by
          cases u7 with
          | none => simp [ownBlock_sl] at e
          | some b => exact n5b a ha b rfl (by simpa [ownBlock_sl] using e.symm))
        have hg2 : Grew w5.drew x18 := Below.trans hg9 (hB0 ▸ bx)
        have r8 := (ho8.rd encT).2
        skip
        refine ⟨trivial, ?_⟩
        clear hg9 bx cx8 own8 ho7 ho8 r5b n5b
        have hg9 := hg2
        clear hg2
        simp only [List.getElem_toArray, List.getElem_cons_zero, List.getElem_cons_succ, Act.put, mixA, mixL, cond_true, cond_false, List.setIfInBounds_toArray, List.set_cons_zero, List.set_cons_succ]
        refine wpAnyH_go [15] (by kernel_rfl) (by simp) ⟨⟨_, rfl, rfl, ?_⟩, trivial⟩
        refine runs_c3 enters_same (ev rfl) (ev rfl) rfl ((HSM.out _ _ _ _ _ r5c r8).mono ?_)
        rintro e x19 ⟨rfl, gx⟩
        have hg2 := hg9.trans gx
        refine ⟨_, rfl, trivial, ?_⟩
        clear hg9 gx
        have hg9 := hg2
        clear hg2
        simp only [List.getElem_toArray, List.getElem_cons_zero, List.getElem_cons_succ, Act.put, mixA, mixL, cond_true, cond_false, List.setIfInBounds_toArray, List.set_cons_zero, List.set_cons_succ]
        refine wpAnyH_go [16] (by kernel_rfl) (by simp) ⟨⟨_, rfl, rfl, ?_⟩, trivial⟩
        refine runs_mva (ev rfl) ⟨trivial, ?_⟩
        simp only [List.getElem_toArray, List.getElem_cons_zero, List.getElem_cons_succ, Act.put, mixA, mixL, cond_true, cond_false, List.setIfInBounds_toArray, List.set_cons_zero, List.set_cons_succ]
        refine wpAnyH_done (by kernel_rfl) ?_ _
        exact ⟨rfl, .slice u4 R3.length k4, .slice u5 R3.length k5, .slice (some ⟨q6, 0, none⟩) 0 0, .slice u7 (R1.take (R1.length - 1)).length k7, .slice u8 ((R1.take (R1.length - 1)).length + R2.length) k8, by kernel_rfl, (Grew.refl w5).drw.trans hg9⟩
    · rintro a' V ⟨v4, v5, v6, v12, v14, rfl, g6⟩
      simp only [List.getElem_toArray, List.getElem_cons_zero, List.getElem_cons_succ, Act.put, mixA, mixL, cond_true, cond_false, List.setIfInBounds_toArray, List.set_cons_zero, List.set_cons_succ]
      have HG6 := Lib.hid (HGW.out.trans g6)
      clear g6
      go_wp2
      go_ret
      exact ⟨rfl, HG6.out⟩
end Go.Proofs.YtcajamgajchheaaDoor
