/-
  LAYER 12 (cpu): facts on a step.
-/
import Derived.Test.YtbhglpiiabpdjaaDoorCpuExec
namespace Go.Proofs.YtbhglpiiabpdjaaDoor
open Go Go.RowKit Go.IntWalk Go.WideShapes
set_option linter.unusedSimpArgs false
set_option linter.unusedVariables false
set_option maxRecDepth 8000
def exe (x : Cd) (n : Int) (s : St) (W : Wd) : Bool × St × Wd := if (spend W x.op).okb then perf x n s (spend W x.op) else (false, s, spend W x.op)
theorem go1_exe (x : Cd) (n : Int) (s : St) (W : Wd) : go1 x n s W = if (exe x n s W).1 then ((exe x n s W).2.1, outc x.op, (exe x n s W).2.2) else (s, 4, (exe x n s W).2.2) := by
  unfold go1 exe
  cases (spend W x.op).okb <;> rfl
theorem exe_ok (x : Cd) (n : Int) {s : St} {W : Wd} (hs : s.Ok) (hW : W.Ok) : (exe x n s W).2.1.Ok ∧ (exe x n s W).2.2.Ok := by
  unfold exe
  split
  · exact perf_ok x n hs (hW.call _ _ _)
  · exact ⟨hs, hW.call _ _ _⟩
theorem exec_any (x : Cd) (hv : valid x = true) (n : Int) (hd : memOp x.op = true → dat n = true) (hf : frOp x.op = true → ∃ m : Nat, m < 64 ∧ n = (m : Int)) (N B q : Nat) (S : Nat → Prop) (s : St) (W : Wd) (w : World) (hcb : Blk B (stv s) CPT w) (hbus : Bus N w q W S) (hE : EnvN N w) (hs : s.Ok) (hl : W.cs.length ≤ 80000) (hN : N ≤ w.heap.size) (hNB : N ≤ B) (hp : -9223372036854775808 ≤ s.pc ∧ s.pc < 9223372036854775807) :
    Calls Tryd.prog 27 #[.pointer (some ⟨B, 0, none⟩), cdV x, .int .i64 n, (.iface 47 (.pointer (some ⟨q, 0, none⟩)))] w fun e w' => e = .returned (.bool (exe x n s W).1) ∧ Pf CPT N B q S (exe x n s W).2.1 (exe x n s W).2.2 w w' := by
  unfold exe
  cases ho : (spend W x.op).okb with
  | true => exact exec_yes x hv n hd hf N B q S s W w hcb hbus hE hs hl hN hNB hp ho
  | false => exact exec_no x hv n hd hf N B q S s W w hcb hbus hE hs hl hN hNB hp ho
theorem opnd_any (x : Cd) (hv : valid x = true) (hi : I16 x.i) (I : Im) (s : St) (N c p : Nat) (w : World) (hC : Blk c (stv s) CPT w) (hs : s.Ok) (hIm : ImgAt N w p I) (hIo : I.Ok) (hE : EnvN N w) :
    Calls Tryd.prog 26 #[.pointer (some ⟨c, 0, none⟩), cdV x, .pointer (some ⟨p, 0, none⟩)] w fun e w' => e = .returned (.tuple #[.int .i64 (opnd x s I).1, .bool (opnd x s I).2]) ∧ Grew w w' := by
  have hlo := ((valid_iff x).1 hv).2.2.2.2.2.1
  obtain ⟨k, a, b, d, hk1, hk, h0, h1, h2, hx⟩ := valid_shape hv
  generalize x.i = i at hx hi hlo
  subst hx
  have hi0 : 4 ≤ (ins k).1 → 0 ≤ i := fun h => by have := ins_lo ⟨k, hk⟩ h; simp only at this hlo; omega
  rw [opnd_src k a b d i s I hk]
  rcases ins_cases ⟨k, hk⟩ with h | h | h | h | h | h | h | h
  · rw [show (ins k).1 = 0 from h]; exact opnd_0 k a b d hk h0 h1 i hi hi0 I s N c p w hC hs hIm hIo hE h
  · rw [show (ins k).1 = 1 from h]; exact opnd_1 k a b d hk h0 h1 i hi hi0 I s N c p w hC hs hIm hIo hE h
  · rw [show (ins k).1 = 2 from h]; exact opnd_2 k a b d hk h0 h1 i hi hi0 I s N c p w hC hs hIm hIo hE h
  · rw [show (ins k).1 = 3 from h]; exact opnd_3 k a b d hk h0 h1 i hi hi0 I s N c p w hC hs hIm hIo hE h
  · rw [show (ins k).1 = 4 from h]; exact opnd_4 k a b d hk h0 h1 i hi hi0 I s N c p w hC hs hIm hIo hE h
  · rw [show (ins k).1 = 5 from h]; exact opnd_5 k a b d hk h0 h1 i hi hi0 I s N c p w hC hs hIm hIo hE h
  · rw [show (ins k).1 = 6 from h]; exact opnd_6 k a b d hk h0 h1 i hi hi0 I s N c p w hC hs hIm hIo hE h
  · rw [show (ins k).1 = 7 from h]; exact opnd_7 k a b d hk h0 h1 i hi hi0 I s N c p w hC hs hIm hIo hE h
theorem opnd_mem {x : Cd} {s : St} {I : Im} (h : (opnd x s I).2 = true) (hm : memOp x.op = true) : dat (opnd x s I).1 = true := by
  obtain ⟨op, a, b, c, i⟩ := x
  simp only [memOp, Bool.or_eq_true, beq_iff_eq] at hm
  rcases hm with rfl | rfl | rfl | rfl <;> exact h
theorem opnd_fr {x : Cd} {s : St} {I : Im} (hv : valid x = true) (hm : frOp x.op = true) : ∃ m : Nat, m < 64 ∧ (opnd x s I).1 = (m : Int) := by
  have h1 := ((valid_iff x).1 hv).2.2.2.2.2
  obtain ⟨op, a, b, c, i⟩ := x
  simp only [frOp, Bool.or_eq_true, beq_iff_eq] at hm
  rcases hm with rfl | rfl
  all_goals
    have l0 : (0 : Int) ≤ i := h1.1
    have l1 : i ≤ 63 := h1.2
    exact ⟨i.toNat, by omega, by show i = _; omega⟩
theorem Im.at_some {I : Im} {pc : Int} {x : Cd} (h : I.at pc = some x) : ∃ m : Nat, pc = m ∧ m < I.code.length ∧ I.code[m]? = some x := by
  unfold Im.at at h
  split at h
  · exact ⟨pc.toNat, by omega, (List.getElem?_eq_some_iff.1 h).1, h⟩
  · cases h
theorem Im.at_none {I : Im} {pc : Int} (h : I.at pc = none) : pc < 0 ∨ (0 ≤ pc ∧ (I.code.length : Int) ≤ pc) := by
  unfold Im.at at h
  split at h
  · have := List.getElem?_eq_none_iff.1 h
    exact .inr ⟨by assumption, by omega⟩
  · exact .inl (by omega)
/-- What changes beside is of a block that is new. -/
theorem Moved.skip {T S S1 S2 : Nat → Prop} {w w1 w2 : World} {B : Nat} (hm : Moved T S S1 w w1) (h : Moved (fun k => k = B) S1 S2 w1 w2) (hB : w.heap.size ≤ B) : Moved T S S2 w w2 :=
  ⟨⟨h.chg.os.trans hm.chg.os, h.chg.tape.trans hm.chg.tape, h.chg.output.trans hm.chg.output, Nat.le_trans hm.size h.size, fun k hk hs => (h.chg.block k (by have := hm.size; omega) fun h1 => by
    rcases h1 with h1 | h1
    · omega
    · rcases hm.new k h1 with h2 | h2
      · exact hs (.inr h2)
      · omega).trans (hm.chg.block k hk hs)⟩, fun k hk => by
    rcases h.new k hk with h1 | h1
    · exact hm.new k h1
    · exact .inr (by have := hm.size; omega)⟩
theorem Wd.call_len (W : Wd) (k a b : Int) : (W.call k a b).cs.length = W.cs.length + 1 := by simp [Wd.call]
theorem perf_len (x : Cd) (n : Int) (s : St) (W : Wd) : (perf x n s W).2.2.cs.length ≤ W.cs.length + 1 := by
  show (fun r : Bool × St × Wd => r.2.2.cs.length ≤ W.cs.length + 1) (perf x n s W)
  have hst : ∀ n v, (W.store n v).2.cs.length ≤ W.cs.length + 1 := fun n v => by
    unfold Wd.store Wd.put
    split
    · split <;> simp [Wd.call]
    · simp [Wd.call]
  unfold perf
  refine ite_both (fun r : Bool × St × Wd => r.2.2.cs.length ≤ W.cs.length + 1) (Nat.le_succ _) ?_
  refine ite_both (fun r : Bool × St × Wd => r.2.2.cs.length ≤ W.cs.length + 1) (Nat.le_succ _) ?_
  refine ite_both (fun r : Bool × St × Wd => r.2.2.cs.length ≤ W.cs.length + 1) (Nat.le_succ _) ?_
  refine ite_both (fun r : Bool × St × Wd => r.2.2.cs.length ≤ W.cs.length + 1) (Nat.le_succ _) ?_
  refine ite_both (fun r : Bool × St × Wd => r.2.2.cs.length ≤ W.cs.length + 1) (Nat.le_succ _) ?_
  refine ite_both (fun r : Bool × St × Wd => r.2.2.cs.length ≤ W.cs.length + 1) (by simp [Wd.load, Wd.call]) ?_
  refine ite_both (fun r : Bool × St × Wd => r.2.2.cs.length ≤ W.cs.length + 1) (hst _ _) ?_
  refine ite_both (fun r : Bool × St × Wd => r.2.2.cs.length ≤ W.cs.length + 1) (Nat.le_succ _) ?_
  refine ite_both (fun r : Bool × St × Wd => r.2.2.cs.length ≤ W.cs.length + 1) (Nat.le_succ _) ?_
  refine ite_both (fun r : Bool × St × Wd => r.2.2.cs.length ≤ W.cs.length + 1) (Nat.le_succ _) ?_
  refine ite_both (fun r : Bool × St × Wd => r.2.2.cs.length ≤ W.cs.length + 1) (Nat.le_succ _) ?_
  refine ite_both (fun r : Bool × St × Wd => r.2.2.cs.length ≤ W.cs.length + 1) (by simp [Wd.read, Wd.call]) ?_
  refine ite_both (fun r : Bool × St × Wd => r.2.2.cs.length ≤ W.cs.length + 1) (by simp [Wd.call]) ?_
  refine ite_both (fun r : Bool × St × Wd => r.2.2.cs.length ≤ W.cs.length + 1) (by simp [Wd.call]) ?_
  refine ite_both (fun r : Bool × St × Wd => r.2.2.cs.length ≤ W.cs.length + 1) (by simp [Wd.call]) ?_
  refine ite_both (fun r : Bool × St × Wd => r.2.2.cs.length ≤ W.cs.length + 1) (by simp [Wd.call]) ?_
  exact Nat.le_succ _
theorem exe_len (x : Cd) (n : Int) (s : St) (W : Wd) : (exe x n s W).2.2.cs.length ≤ W.cs.length + 2 := by
  have h1 : (spend W x.op).cs.length = W.cs.length + 1 := W.call_len _ _ _
  unfold exe
  split
  · have := perf_len x n s (spend W x.op); omega
  · show (spend W x.op).cs.length ≤ _; omega
theorem step_len (I : Im) (s : St) (W : Wd) : (step I s W).2.2.cs.length ≤ W.cs.length + 2 := by
  unfold step
  split
  · exact Nat.le_add_right _ _
  · split
    · rw [go1_exe]
      split
      · exact exe_len _ _ _ _
      · exact exe_len _ _ _ _
    · exact Nat.le_add_right _ _
end Go.Proofs.YtbhglpiiabpdjaaDoor
