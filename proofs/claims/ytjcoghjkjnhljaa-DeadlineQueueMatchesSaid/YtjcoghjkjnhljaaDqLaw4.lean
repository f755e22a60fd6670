/-
  LAYER 6 (deadlinequeue): the statements' Feasible.
-/
import Derived.Test.YtjcoghjkjnhljaaDqLaw3
namespace Go.Proofs.Ytjcoghjkjnhljaa
open Go Go.RowKit Go.IntWalk Go.Sort
set_option maxRecDepth 8000
set_option linter.unusedSimpArgs false

/-- The jobs lie at S. -/
structure Jx (S : Nat) (p : Option Addr) (n c : Nat) (q : Option Addr) (m d : Nat) (w : World) : Prop where
  c0 : w.cell? ⟨S, 0, none⟩ = some (.slice p n c)
  c1 : w.cell? ⟨S, 1, none⟩ = some (.slice q m d)
theorem Jx.kept {S n c m d : Nat} {p q : Option Addr} {w w' : World} (h : Jx S p n c q m d w) (hg : Grew w w') : Jx S p n c q m d w' := by
  obtain ⟨h0, h1⟩ := h
  have hb := World.block_lt_of_cell? _ _ h0
  exact ⟨(World.cell?_of_block (w := w) (w' := w') (a := ⟨S, 0, none⟩) (hg.block S hb)).trans h0, (World.cell?_of_block (w := w) (w' := w') (a := ⟨S, 1, none⟩) (hg.block S hb)).trans h1⟩
section
variable {dst : Option Tmp} {ty : TypeId} {pos : String} {after : Array Edge} {g : Option (Nat × Bool)} {a : Act} {w : World} {T : Value → World → Prop}
theorem runs_fld50_0 {o : Operand} {q : Nat} (hx : a.eval o = .pointer (some ⟨q, 0, none⟩)) (h : T (.pointer (some ⟨q, 0, none⟩)) w) : Runs Try.prog ⟨dst, .fieldAddr 50 o 0, ty, pos, after, g⟩ a w T := by
  refine Runs.value (v := .pointer (some ⟨q, 0, none⟩)) (w' := w) ?_ h
  simp only [execOp, hx]
  go_simp
theorem runs_bx50 {o : Operand} {S n c m d : Nat} {p q : Option Addr} (hx : a.eval o = .pointer (some ⟨S, 0, none⟩)) (hb : Jx S p n c q m d w) (h : T (.agg #[.slice p n c, .slice q m d]) w) : Runs Try.prog ⟨dst, .load 50 o, ty, pos, after, g⟩ a w T := by
  obtain ⟨c0, c1⟩ := hb
  refine Runs.value (v := .agg #[.slice p n c, .slice q m d]) (w' := w) ?_ h
  simp only [execOp, hx]
  go_simp
theorem runs_c3 {P : Program} {f : FuncId} {x y z : Operand} {ts : Array TypeId} {v u r : Value} (hf : Enters P f) (hx : a.eval x = v) (hy : a.eval y = u) (hz : a.eval z = r) (h : Calls P f #[v, u, r] w fun e w'' => ∃ v, e = .returned v ∧ T v w'') : Runs P ⟨dst, .call { callee := .value (.func f), args := #[x, y, z], argTypes := ts }, ty, pos, after, g⟩ a w T :=
  runs_call hf (by simp [hx, hy, hz]) h
end
theorem enters_dur : Enters Try.prog 24 := fun args w => by go_simp
theorem enters_feas : Enters Try.prog 23 := fun args w => by go_simp
theorem enters_rfeas : Enters Try.prog 25 := fun args w => by go_simp
theorem enters_items : Enters Try.prog 16 := fun args w => by go_simp
set_option maxHeartbeats 4000000 in
theorem feasible_law (t : Int) (p : Option Addr) (n c : Nat) (xs : List It) (q : Option Addr) (m d : Nat) (ds : List Int) (w : World) (hl : xs.length = n) (hl2 : ds.length = m) (hJ : JobsOk w p c xs q d ds) (ht : In64 t) :
    Calls Try.prog 6 #[.int .i64 t, .agg #[.slice p n c, .slice q m d]] w fun e w' => e = .returned (.bool true) ∧ Grew w w' := by
  by_cases hn : n ≤ 40
  · have HD : Hid (∀ W, Grew w W → Calls Try.prog 24 #[.agg #[.slice p n c, .slice q m d]] W fun e w' => ∃ b, e = .returned (.map (some b)) ∧ Dur w' b (durG xs ds) ∧ Grew W w') := Lib.hid (by rw [← hl, ← hl2]; exact hJ.dur (by omega))
    have HF : Hid (∀ b W, Grew w W → Dur W b (durG xs ds) → Calls Try.prog 23 #[.int .i64 t, .slice p n c, .map (some b)] W fun e w' => e = .returned (.tuple #[.int .i64 (feas (durG xs ds) t xs).1, .int .i64 (feas (durG xs ds) t xs).2]) ∧ Grew W w') :=
      Lib.hid fun b W hW hb => feasible_any t p _ c b xs _ W hl (by omega) (hJ.rd.kept hW) hJ.ok hb
    have HR : Hid (∀ b p' c' W, RdI W p' c' xs → Dur W b (durG xs ds) → Calls Try.prog 25 #[.int .i64 t, .slice p' n c', .map (some b)] W fun e w' => e = .returned (.tuple #[.int .i64 (feas (durG xs ds) t xs).1, .int .i64 (feas (durG xs ds) t xs).2]) ∧ Grew W w') :=
      Lib.hid fun b p' c' W hr hb => rfeasible_any t p' _ c' b xs _ W hl (by omega) hr hJ.ok hb ht
    have HI : Hid (∀ W, Grew w W → Calls Try.prog 16 #[.slice p n c] W fun e w' => ∃ p' c', e = .returned (.slice p' n c') ∧ OwI w' W.heap.size 36 (.slice p' n c') xs ∧ Grew W w') :=
      Lib.hid fun W hW => toref_any p _ c xs W hl (by omega) (hJ.rd.kept hW)
    clear hJ hl hl2 ht
    generalize durG xs ds = g at HD HF HR
    generalize feas g t xs = r at HF HR
    obtain ⟨r1, r2⟩ := r
    simp only [] at HF HR
    have hk : ¬ ((40 : Int) < (n : Int)) := by omega
    clear hn
    go_enter Try.func6, Try.ntmps6
    go_wp2_with fail
    have hZ0 : Cel w.heap.size 0 (.slice p n c) (w.alloc (.cells #[.slice p n c, .slice q m d] 50)) := ⟨by go_simp⟩
    have hJ0 : Jx w.heap.size p n c q m d (w.alloc (.cells #[.slice p n c, .slice q m d] 50)) := ⟨by go_simp, by go_simp⟩
    have hV0 : Grew w (w.alloc (.cells #[.slice p n c, .slice q m d] 50)) := (Grew.refl w).alloc _
    generalize World.alloc w _ = V0 at hZ0 hJ0 hV0 ⊢
    generalize w.heap.size = S at hZ0 hJ0 ⊢
    have HZ0 := Lib.hid hZ0
    have HJ0 := Lib.hid hJ0
    have HV0 := Lib.hid hV0
    have hZ := hZ0.grew (Grew.drew V0)
    have hJ := hJ0.kept (Grew.drew V0)
    have hV := hV0.trans (Grew.drew V0)
    clear hZ0 hJ0 hV0
    replace HD := HD.out
    replace HF := HF.out
    refine wp_posts [some 15, some 16, some 17, some 18, some 19, some 20, some 14, some 21, some 22, some 5, some 6] [false, false, false, false, false, true, true, false, false, false, false, false, false, false, true, true, true, true, true, true, true, true, true, false, false, false, false, false, false, false, false, false, false, false, false, false, false, false, false, false, false, false, false, false] [fun v _ => v = .int .i64 (t), fun v _ => v = .pointer (some ⟨S, 0, none⟩), fun v _ => v = .slice p n c, fun v _ => v = .agg #[.slice p n c, .slice q m d], fun v w => ∃ b, v = .map (some b) ∧ Dur w b g, fun v _ => v = .tuple #[.int .i64 (r1), .int .i64 (r2)], fun v _ => v = .tuple #[.int .i64 (r1), .int .i64 (r2)], fun v _ => v = .int .i64 (r1), fun v _ => v = .int .i64 (r2), fun v _ => v = .int .i64 (r1), fun v _ => v = .int .i64 (r2)] (by kernel_rfl) (by kernel_rfl) rfl ?_ ⟨?_, ?_, ?_, ?_, ?_, ?_, ?_, ?_, ?_, ?_, ?_, trivial⟩ ?_
    · exact ⟨fun _ _ _ _ h => h, fun _ _ _ _ h => h, fun _ _ _ _ h => h, fun _ _ _ _ h => h, fun _ _ _ hg h => h.imp fun _ h => ⟨h.1, h.2.grew hg⟩, fun _ _ _ _ h => h, fun _ _ _ _ h => h, fun _ _ _ _ h => h, fun _ _ _ _ h => h, fun _ _ _ _ h => h, fun _ _ _ _ h => h, trivial⟩
    · intro u w hR hd; exact runs_mv (ev rfl) ⟨Grew.refl _, rfl⟩
    · intro u w hR hd; exact runs_fld50_0 (ev rfl) ⟨Grew.refl _, rfl⟩
    · intro u w hR hd; exact runs_ld39 (ev (hd.1 rfl)) (hZ.kept hR) ⟨Grew.refl _, rfl⟩
    · intro u w hR hd; exact runs_bx50 (ev rfl) (hJ.kept hR) ⟨Grew.refl _, rfl⟩
    · intro u w hR hd; exact runs_c1 enters_dur (ev (hd.1 rfl)) ((HD w (hV.trans hR)).mono fun _ _ ⟨b, e1, h1, h2⟩ => ⟨_, e1, h2, b, rfl, h1⟩)
    · intro u w hR hd; exact match (hd.2.2.1 rfl) with | ⟨b, e1, h1⟩ => runs_c3 enters_feas (ev (hd.1 rfl)) (ev (hd.2.1 rfl)) (ev e1) (callp (fun _ e => e) (HF b w (hV.trans hR) h1))
    · intro u w hR hd; exact runs_mv (ev (hd.1 rfl)) ⟨Grew.refl _, rfl⟩
    · intro u w hR hd; exact runs_ext (ev (hd.1 rfl)) rfl ⟨Grew.refl _, rfl⟩
    · intro u w hR hd; exact runs_ext (ev (hd.1 rfl)) rfl ⟨Grew.refl _, rfl⟩
    · intro u w hR hd; exact runs_mva (ev (hd.1 rfl)) ⟨Grew.refl _, rfl⟩
    · intro u w hR hd; exact runs_mva (ev (hd.1 rfl)) ⟨Grew.refl _, rfl⟩
    · intro u V1 hR h
      have e5 : u 5 = .int .i64 r1 := h 9 (by decide)
      have e6 : u 6 = .int .i64 r2 := h 10 (by decide)
      have HZ1 := Lib.hid (hZ.grew hR)
      have HJ1 := Lib.hid (hJ.kept hR)
      have HV1 := Lib.hid (hV.trans hR)
      have HD' := Lib.hid HD
      simp only [mixA, mixL, cond_true, cond_false]
      rw [e5, e6]
      clear h hR hZ hJ hV e5 e6 HZ0 HJ0 HV0 HF HD
      go_wp2_with fail
      have hZ := HZ1.out.grew (Grew.drew V1)
      have hJ := HJ1.out.kept (Grew.drew V1)
      have hV := HV1.out.trans (Grew.drew V1)
      have HD := HD'.out
      replace HI := HI.out
      replace HR := HR.out
      refine wp_posts [some 24, some 25, some 26, some 27, some 28, some 29, some 30, some 23, some 31, some 32, some 7, some 8] [false, false, false, false, false, false, false, true, true, false, false, false, false, false, false, false, false, false, false, false, false, false, false, true, true, true, true, true, true, true, true, true, true, false, false, false, false, false, false, false, false, false, false, false] [fun v _ => v = .int .i64 (t), fun v _ => v = .pointer (some ⟨S, 0, none⟩), fun v _ => v = .slice p n c, fun v w => ∃ p' c', v = .slice p' n c' ∧ RdI w p' c' xs, fun v _ => v = .agg #[.slice p n c, .slice q m d], fun v w => ∃ b, v = .map (some b) ∧ Dur w b g, fun v _ => v = .tuple #[.int .i64 (r1), .int .i64 (r2)], fun v _ => v = .tuple #[.int .i64 (r1), .int .i64 (r2)], fun v _ => v = .int .i64 (r1), fun v _ => v = .int .i64 (r2), fun v _ => v = .int .i64 (r1), fun v _ => v = .int .i64 (r2)] (by kernel_rfl) (by kernel_rfl) rfl ?_ ⟨?_, ?_, ?_, ?_, ?_, ?_, ?_, ?_, ?_, ?_, ?_, ?_, trivial⟩ ?_
      · exact ⟨fun _ _ _ _ h => h, fun _ _ _ _ h => h, fun _ _ _ _ h => h, fun _ _ _ hg ⟨p', c', h1, h2⟩ => ⟨p', c', h1, h2.kept hg⟩, fun _ _ _ _ h => h, fun _ _ _ hg h => h.imp fun _ h => ⟨h.1, h.2.grew hg⟩, fun _ _ _ _ h => h, fun _ _ _ _ h => h, fun _ _ _ _ h => h, fun _ _ _ _ h => h, fun _ _ _ _ h => h, fun _ _ _ _ h => h, trivial⟩
      · intro u w hR hd; exact runs_mv (ev rfl) ⟨Grew.refl _, rfl⟩
      · intro u w hR hd; exact runs_fld50_0 (ev rfl) ⟨Grew.refl _, rfl⟩
      · intro u w hR hd; exact runs_ld39 (ev (hd.1 rfl)) (hZ.kept hR) ⟨Grew.refl _, rfl⟩
      · intro u w hR hd; exact runs_c1 enters_items (ev (hd.1 rfl)) ((HI w (hV.trans hR)).mono fun _ _ ⟨p', c', e1, h1, h2⟩ => ⟨_, e1, h2, p', c', rfl, (OwI.rd h1).2⟩)
      · intro u w hR hd; exact runs_bx50 (ev rfl) (hJ.kept hR) ⟨Grew.refl _, rfl⟩
      · intro u w hR hd; exact runs_c1 enters_dur (ev (hd.1 rfl)) ((HD w (hV.trans hR)).mono fun _ _ ⟨b, e1, h1, h2⟩ => ⟨_, e1, h2, b, rfl, h1⟩)
      · intro u w hR hd; exact match (hd.2.1 rfl), (hd.2.2.1 rfl) with | ⟨p', c', e0, h0⟩, ⟨b, e1, h1⟩ => runs_c3 enters_rfeas (ev (hd.1 rfl)) (ev e0) (ev e1) (callp (fun _ e => e) (HR b p' c' w h0 h1))
      · intro u w hR hd; exact runs_mv (ev (hd.1 rfl)) ⟨Grew.refl _, rfl⟩
      · intro u w hR hd; exact runs_ext (ev (hd.1 rfl)) rfl ⟨Grew.refl _, rfl⟩
      · intro u w hR hd; exact runs_ext (ev (hd.1 rfl)) rfl ⟨Grew.refl _, rfl⟩
      · intro u w hR hd; exact runs_mva (ev (hd.1 rfl)) ⟨Grew.refl _, rfl⟩
      · intro u w hR hd; exact runs_mva (ev (hd.1 rfl)) ⟨Grew.refl _, rfl⟩
      · intro u V2 hR h
        have e7 : u 7 = .int .i64 r1 := h 10 (by decide)
        have e8 : u 8 = .int .i64 r2 := h 11 (by decide)
        have HV2 := Lib.hid (hV.trans hR)
        simp only [mixA, mixL, cond_true, cond_false]
        rw [e7, e8]
        clear h hR hZ hJ hV e7 e8 HZ1 HJ1 HV1 HR HI HD HD'
        go_wp2_with (go_at_call 11; (with_reducible refine (examples_any _).mono ?_); rintro e w5 ⟨rfl, g5⟩; have G5 := Lib.hid (HV2.out.trans g5); clear g5)
        go_ret
        exact ⟨rfl, G5.out⟩
  · clear hJ hl hl2
    have hn' : ((40 : Int) < (n : Int)) := by omega
    clear hn
    go_enter Try.func6, Try.ntmps6
    go_wp2_with (go_at_call 11; (with_reducible refine (examples_any _).mono ?_); rintro e w5 ⟨rfl, g5⟩; have G5 := Lib.hid ((Grew.alloc (Grew.refl w) _).trans g5); clear g5)
    go_ret
    exact ⟨rfl, G5.out⟩
end Go.Proofs.Ytjcoghjkjnhljaa
