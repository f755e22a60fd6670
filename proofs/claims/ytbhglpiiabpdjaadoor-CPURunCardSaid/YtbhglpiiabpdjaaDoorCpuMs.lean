/-
  LAYER 12 (cpu): facts on a step.
  LAYER 12 (cpu): Step.
-/
import Derived.Test.YtbhglpiiabpdjaaDoorShort
import Derived.Test.YtbhglpiiabpdjaaDoorCpuExec
namespace Go.Proofs.YtbhglpiiabpdjaaDoor
open Go Go.RowKit Go.IntWalk Go.WideShapes
set_option linter.unusedSimpArgs false
set_option linter.unusedVariables false
set_option maxRecDepth 8000
def exe (x : Cd) (n : Int) (s : St) (W : Wd) : Bool × St × Wd := if (spend W x.op).okb then perf x n s (spend W x.op) else (false, s, spend W x.op)
theorem go1_exe (x : Cd) (n : Int) (s : St) (W : Wd) : go1 x n s W = if (exe x n s W).1 then ((exe x n s W).2.1, outc x.op, (exe x n s W).2.2) else (s, 4, (exe x n s W).2.2) := by
  unfold go1 exe
  cases (spend W x.op).okb <;> rfl
theorem exe_ok (x : Cd) (n : Int) {s : St} {W : Wd} (hs : s.Ok) (hW : W.Ok) : (exe x n s W).2.1.Ok ∧ (exe x n s W).2.2.Ok := by
  unfold exe
  split
  · exact perf_ok x n hs (hW.call _ _ _)
  · exact ⟨hs, hW.call _ _ _⟩
theorem exec_any (x : Cd) (hv : valid x = true) (n : Int) (hd : memOp x.op = true → dat n = true) (hf : frOp x.op = true → ∃ m : Nat, m < 64 ∧ n = (m : Int)) (N B q : Nat) (S : Nat → Prop) (s : St) (W : Wd) (w : World) (hcb : Blk B (stv s) CPT w) (hbus : Bus N w q W S) (hE : EnvN N w) (hs : s.Ok) (hl : W.cs.length ≤ 80000) (hN : N ≤ w.heap.size) (hNB : N ≤ B) (hp : -9223372036854775808 ≤ s.pc ∧ s.pc < 9223372036854775807) :
    Calls Tryd.prog 27 #[.pointer (some ⟨B, 0, none⟩), cdV x, .int .i64 n, (.iface 47 (.pointer (some ⟨q, 0, none⟩)))] w fun e w' => e = .returned (.bool (exe x n s W).1) ∧ Pf CPT N B q S (exe x n s W).2.1 (exe x n s W).2.2 w w' := by
  unfold exe
  cases ho : (spend W x.op).okb with
  | true => exact exec_yes x hv n hd hf N B q S s W w hcb hbus hE hs hl hN hNB hp ho
  | false => exact exec_no x hv n hd hf N B q S s W w hcb hbus hE hs hl hN hNB hp ho
theorem opnd_any (x : Cd) (hv : valid x = true) (hi : I16 x.i) (I : Im) (s : St) (N c p : Nat) (w : World) (hC : Blk c (stv s) CPT w) (hs : s.Ok) (hIm : ImgAt N w p I) (hIo : I.Ok) (hE : EnvN N w) :
    Calls Tryd.prog 26 #[.pointer (some ⟨c, 0, none⟩), cdV x, .pointer (some ⟨p, 0, none⟩)] w fun e w' => e = .returned (.tuple #[.int .i64 (opnd x s I).1, .bool (opnd x s I).2]) ∧ Grew w w' := by
  have hlo := ((valid_iff x).1 hv).2.2.2.2.2.1
  obtain ⟨k, a, b, d, hk1, hk, h0, h1, h2, hx⟩ := valid_shape hv
  generalize x.i = i at hx hi hlo
  subst hx
  have hi0 : 4 ≤ (ins k).1 → 0 ≤ i := fun h => by have := ins_lo ⟨k, hk⟩ h; simp only at this hlo; omega
  rw [opnd_src k a b d i s I hk]
  rcases ins_cases ⟨k, hk⟩ with h | h | h | h | h | h | h | h
  · rw [show (ins k).1 = 0 from h]; exact opnd_0 k a b d hk h0 h1 i hi hi0 I s N c p w hC hs hIm hIo hE h
  · rw [show (ins k).1 = 1 from h]; exact opnd_1 k a b d hk h0 h1 i hi hi0 I s N c p w hC hs hIm hIo hE h
  · rw [show (ins k).1 = 2 from h]; exact opnd_2 k a b d hk h0 h1 i hi hi0 I s N c p w hC hs hIm hIo hE h
  · rw [show (ins k).1 = 3 from h]; exact opnd_3 k a b d hk h0 h1 i hi hi0 I s N c p w hC hs hIm hIo hE h
  · rw [show (ins k).1 = 4 from h]; exact opnd_4 k a b d hk h0 h1 i hi hi0 I s N c p w hC hs hIm hIo hE h
  · rw [show (ins k).1 = 5 from h]; exact opnd_5 k a b d hk h0 h1 i hi hi0 I s N c p w hC hs hIm hIo hE h
  · rw [show (ins k).1 = 6 from h]; exact opnd_6 k a b d hk h0 h1 i hi hi0 I s N c p w hC hs hIm hIo hE h
  · rw [show (ins k).1 = 7 from h]; exact opnd_7 k a b d hk h0 h1 i hi hi0 I s N c p w hC hs hIm hIo hE h
theorem opnd_mem {x : Cd} {s : St} {I : Im} (h : (opnd x s I).2 = true) (hm : memOp x.op = true) : dat (opnd x s I).1 = true := by
  obtain ⟨op, a, b, c, i⟩ := x
  simp only [memOp, Bool.or_eq_true, beq_iff_eq] at hm
  rcases hm with rfl | rfl | rfl | rfl <;> exact h
theorem opnd_fr {x : Cd} {s : St} {I : Im} (hv : valid x = true) (hm : frOp x.op = true) : ∃ m : Nat, m < 64 ∧ (opnd x s I).1 = (m : Int) := by
  have h1 := ((valid_iff x).1 hv).2.2.2.2.2
  obtain ⟨op, a, b, c, i⟩ := x
  simp only [frOp, Bool.or_eq_true, beq_iff_eq] at hm
  rcases hm with rfl | rfl
  all_goals
    have l0 : (0 : Int) ≤ i := h1.1
    have l1 : i ≤ 63 := h1.2
    exact ⟨i.toNat, by omega, by show i = _; omega⟩
theorem Im.at_some {I : Im} {pc : Int} {x : Cd} (h : I.at pc = some x) : ∃ m : Nat, pc = m ∧ m < I.code.length ∧ I.code[m]? = some x := by
  unfold Im.at at h
  split at h
  · exact ⟨pc.toNat, by omega, (List.getElem?_eq_some_iff.1 h).1, h⟩
  · cases h
theorem Im.at_none {I : Im} {pc : Int} (h : I.at pc = none) : pc < 0 ∨ (0 ≤ pc ∧ (I.code.length : Int) ≤ pc) := by
  unfold Im.at at h
  split at h
  · have := List.getElem?_eq_none_iff.1 h
    exact .inr ⟨by assumption, by omega⟩
  · exact .inl (by omega)
/-- What changes beside is of a block that is new. -/
theorem Moved.skip {T S S1 S2 : Nat → Prop} {w w1 w2 : World} {B : Nat} (hm : Moved T S S1 w w1) (h : Moved (fun k => k = B) S1 S2 w1 w2) (hB : w.heap.size ≤ B) : Moved T S S2 w w2 :=
  ⟨⟨h.chg.os.trans hm.chg.os, h.chg.tape.trans hm.chg.tape, h.chg.output.trans hm.chg.output, Nat.le_trans hm.size h.size, fun k hk hs => (h.chg.block k (by have := hm.size; omega) fun h1 => by
    rcases h1 with h1 | h1
    · omega
    · rcases hm.new k h1 with h2 | h2
      · exact hs (.inr h2)
      · omega).trans (hm.chg.block k hk hs)⟩, fun k hk => by
    rcases h.new k hk with h1 | h1
    · exact hm.new k h1
    · exact .inr (by have := hm.size; omega)⟩
theorem Wd.call_len (W : Wd) (k a b : Int) : (W.call k a b).cs.length = W.cs.length + 1 := by simp [Wd.call]
theorem perf_len (x : Cd) (n : Int) (s : St) (W : Wd) : (perf x n s W).2.2.cs.length ≤ W.cs.length + 1 := by
  show (fun r : Bool × St × Wd => r.2.2.cs.length ≤ W.cs.length + 1) (perf x n s W)
  have hst : ∀ n v, (W.store n v).2.cs.length ≤ W.cs.length + 1 := fun n v => by
    unfold Wd.store Wd.put
    split
    · split <;> simp [Wd.call]
    · simp [Wd.call]
  unfold perf
  refine ite_both (fun r : Bool × St × Wd => r.2.2.cs.length ≤ W.cs.length + 1) (Nat.le_succ _) ?_
  refine ite_both (fun r : Bool × St × Wd => r.2.2.cs.length ≤ W.cs.length + 1) (Nat.le_succ _) ?_
  refine ite_both (fun r : Bool × St × Wd => r.2.2.cs.length ≤ W.cs.length + 1) (Nat.le_succ _) ?_
  refine ite_both (fun r : Bool × St × Wd => r.2.2.cs.length ≤ W.cs.length + 1) (Nat.le_succ _) ?_
  refine ite_both (fun r : Bool × St × Wd => r.2.2.cs.length ≤ W.cs.length + 1) (Nat.le_succ _) ?_
  refine ite_both (fun r : Bool × St × Wd => r.2.2.cs.length ≤ W.cs.length + 1) (by simp [Wd.load, Wd.call]) ?_
  refine ite_both (fun r : Bool × St × Wd => r.2.2.cs.length ≤ W.cs.length + 1) (hst _ _) ?_
  refine ite_both (fun r : Bool × St × Wd => r.2.2.cs.length ≤ W.cs.length + 1) (Nat.le_succ _) ?_
  refine ite_both (fun r : Bool × St × Wd => r.2.2.cs.length ≤ W.cs.length + 1) (Nat.le_succ _) ?_
  refine ite_both (fun r : Bool × St × Wd => r.2.2.cs.length ≤ W.cs.length + 1) (Nat.le_succ _) ?_
  refine ite_both (fun r : Bool × St × Wd => r.2.2.cs.length ≤ W.cs.length + 1) (Nat.le_succ _) ?_
  refine ite_both (fun r : Bool × St × Wd => r.2.2.cs.length ≤ W.cs.length + 1) (by simp [Wd.read, Wd.call]) ?_
  refine ite_both (fun r : Bool × St × Wd => r.2.2.cs.length ≤ W.cs.length + 1) (by simp [Wd.call]) ?_
  refine ite_both (fun r : Bool × St × Wd => r.2.2.cs.length ≤ W.cs.length + 1) (by simp [Wd.call]) ?_
  refine ite_both (fun r : Bool × St × Wd => r.2.2.cs.length ≤ W.cs.length + 1) (by simp [Wd.call]) ?_
  refine ite_both (fun r : Bool × St × Wd => r.2.2.cs.length ≤ W.cs.length + 1) (by simp [Wd.call]) ?_
  exact Nat.le_succ _
theorem exe_len (x : Cd) (n : Int) (s : St) (W : Wd) : (exe x n s W).2.2.cs.length ≤ W.cs.length + 2 := by
  have h1 : (spend W x.op).cs.length = W.cs.length + 1 := W.call_len _ _ _
  unfold exe
  split
  · have := perf_len x n s (spend W x.op); omega
  · show (spend W x.op).cs.length ≤ _; omega
theorem step_len (I : Im) (s : St) (W : Wd) : (step I s W).2.2.cs.length ≤ W.cs.length + 2 := by
  unfold step
  split
  · exact Nat.le_add_right _ _
  · split
    · rw [go1_exe]
      split
      · exact exe_len _ _ _ _
      · exact exe_len _ _ _ _
    · exact Nat.le_add_right _ _
end Go.Proofs.YtbhglpiiabpdjaaDoor
namespace Go.Proofs.YtbhglpiiabpdjaaDoor
open Go Go.RowKit Go.IntWalk Go.WideShapes
set_option linter.unusedSimpArgs false
set_option linter.unusedVariables false
set_option maxRecDepth 8000
section
variable {dst : Option Tmp} {ty : TypeId} {pos : String} {after : Array Edge} {g : Option (Nat × Bool)} {a : Act} {w : World} {T : Value → World → Prop}
theorem wpList_runs {ops : Array Oper} {rest : List Oper} {o : Oper} {Q : Exit → Act → World → Prop} (hg : o.guard = none) (d : Option Tmp) (hd : o.dst = d) (h : Runs Tryd.prog o a w fun v w' => wpList Tryd.prog ops Q rest (a.put d v) w') : wpList Tryd.prog ops Q (o :: rest) a w := by
  subst hd
  exact wpList_plain hg fun K hK => h _ _ fun v w' h => hK _ _ h
theorem rn_fld_28_11 {x : Operand} {S o : Nat} (hx : a.eval x = .pointer (some ⟨S, o, none⟩)) (h : T (.pointer (some ⟨S, o + 11, none⟩)) w) : Runs Tryd.prog ⟨dst, .fieldAddr 28 x 11, ty, pos, after, g⟩ a w T := by
  refine Runs.value (v := .pointer (some ⟨S, o + 11, none⟩)) (w' := w) ?_ h
  simp only [execOp, hx]
  go_simp
theorem rn_ld_26 {x : Operand} {q : Addr} {v : Value} (hx : a.eval x = .pointer (some q)) (hc : w.cell? q = some v) (h : T v w) : Runs Tryd.prog ⟨dst, .load 26 x, ty, pos, after, g⟩ a w T := by
  refine Runs.value (v := v) (w' := w) ?_ h
  simp only [execOp, hx]
  go_simp
theorem rn_fld_43_0 {x : Operand} {S o : Nat} (hx : a.eval x = .pointer (some ⟨S, o, none⟩)) (h : T (.pointer (some ⟨S, o, none⟩)) w) : Runs Tryd.prog ⟨dst, .fieldAddr 43 x 0, ty, pos, after, g⟩ a w T := by
  refine Runs.value (v := .pointer (some ⟨S, o, none⟩)) (w' := w) ?_ h
  simp only [execOp, hx]
  go_simp
theorem rn_idx_26 {x y : Operand} {b o n c : Nat} (i : Nat) (hx : a.eval x = .slice (some ⟨b, o, none⟩) n c) (hy : a.eval y = .int .i64 (i : Int)) (hi : i < n) (h : T (.pointer (some ⟨b, o + i * 5, none⟩)) w) : Runs Tryd.prog ⟨dst, .indexAddr 26 x y, ty, pos, after, g⟩ a w T := by
  have hi2 : (i : Int) < (n : Int) := by omega
  refine Runs.value (v := .pointer (some ⟨b, o + i * 5, none⟩)) (w' := w) ?_ h
  simp only [execOp, hx, hy]
  go_simp
theorem rn_ld_72 {x : Operand} {S o : Nat} {v0 v1 v2 v3 v4 : Value} (hx : a.eval x = .pointer (some ⟨S, o, none⟩)) (h0 : w.cell? ⟨S, o, none⟩ = some v0) (h1 : w.cell? ⟨S, o + 1, none⟩ = some v1) (h2 : w.cell? ⟨S, o + 2, none⟩ = some v2) (h3 : w.cell? ⟨S, o + 3, none⟩ = some v3) (h4 : w.cell? ⟨S, o + 4, none⟩ = some v4) (h : T (.agg #[v0, v1, v2, v3, v4]) w) : Runs Tryd.prog ⟨dst, .load 72 x, ty, pos, after, g⟩ a w T := by
  refine Runs.value (v := .agg #[v0, v1, v2, v3, v4]) (w' := w) ?_ h
  simp only [execOp, hx]
  go_simp
theorem rn_alloc_72 (h : T (.pointer (some ⟨w.heap.size, 0, none⟩)) (w.alloc (.cells #[.int .i64 (0), .int .i64 (0), .int .i64 (0), .int .i64 (0), .int .i16 (0)] 72))) : Runs Tryd.prog ⟨dst, .alloc 72, ty, pos, after, g⟩ a w T := by
  refine Runs.value (v := .pointer (some ⟨w.heap.size, 0, none⟩)) (w' := w.alloc (.cells #[.int .i64 (0), .int .i64 (0), .int .i64 (0), .int .i64 (0), .int .i16 (0)] 72)) ?_ h
  simp only [execOp]
  go_simp
theorem rn_st_72 {x y : Operand} {S o : Nat} {v0 : Int} {v1 : Int} {v2 : Int} {v3 : Int} {v4 : Int} {u0 u1 u2 u3 u4 : Value} (hx : a.eval x = .pointer (some ⟨S, o, none⟩)) (hy : a.eval y = .agg #[.int .i64 v0, .int .i64 v1, .int .i64 v2, .int .i64 v3, .int .i16 v4]) (h0 : w.cell? ⟨S, o, none⟩ = some u0) (h1 : w.cell? ⟨S, o + 1, none⟩ = some u1) (h2 : w.cell? ⟨S, o + 2, none⟩ = some u2) (h3 : w.cell? ⟨S, o + 3, none⟩ = some u3) (h4 : w.cell? ⟨S, o + 4, none⟩ = some u4) (hf : ∀ i, w.frozen? ⟨S, i, none⟩ = false) (h : T undef (((((w.setCell ⟨S, o, none⟩ (.int .i64 v0)).setCell ⟨S, o + 1, none⟩ (.int .i64 v1)).setCell ⟨S, o + 2, none⟩ (.int .i64 v2)).setCell ⟨S, o + 3, none⟩ (.int .i64 v3)).setCell ⟨S, o + 4, none⟩ (.int .i16 v4))) : Runs Tryd.prog ⟨dst, .store 72 x y, ty, pos, after, g⟩ a w T := by
  have hf0 := hf o
  have hf1 := hf (o + 1)
  have hf2 := hf (o + 2)
  have hf3 := hf (o + 3)
  have hf4 := hf (o + 4)
  refine Runs.skip (w' := (((((w.setCell ⟨S, o, none⟩ (.int .i64 v0)).setCell ⟨S, o + 1, none⟩ (.int .i64 v1)).setCell ⟨S, o + 2, none⟩ (.int .i64 v2)).setCell ⟨S, o + 3, none⟩ (.int .i64 v3)).setCell ⟨S, o + 4, none⟩ (.int .i16 v4))) ?_ h
  simp only [execOp, hx, hy]
  go_simp
theorem rn_len_26 {x : Operand} {p : Option Addr} {n c : Nat} (hx : a.eval x = .slice p n c) (h : T (.int .i64 (n : Nat)) w) : Runs Tryd.prog ⟨dst, .call { callee := .builtin .len, args := #[x], argTypes := #[26] }, ty, pos, after, g⟩ a w T := by
  refine Runs.value (v := .int .i64 (n : Nat)) (w' := w) ?_ h
  simp [execOp, resolve, invoke, builtin, hx, Result.andThen]
  go_simp
theorem rn_geq_3 {o1 o2 : Operand} {b c : Int} (hx : a.eval o1 = .int .i64 b) (hy : a.eval o2 = .int .i64 c) (h : T (.bool (decide (c ≤ b))) w) : Runs Tryd.prog ⟨dst, .binOp .geq 3 o1 o2 3, ty, pos, after, g⟩ a w T := by
  refine Runs.value (v := .bool (decide (c ≤ b))) (w' := w) ?_ h
  simp only [execOp, hx, hy]
  go_simp
end
theorem enters_va : Enters Tryd.prog 25 := fun args w => by go_simp
/-- The bus has moved on beside the processor. -/
theorem Pf.beside {e : TypeId} {N c q B : Nat} {S S1 : Nat → Prop} {s s2 : St} {W2 : Wd} {w w1 w2 : World} (hm : Moved (fun k => k = c) S S1 w w1) (h8 : Blk c (stv s) e w2) (h : Pf e N B q S1 s2 W2 w1 w2) (hB : w.heap.size ≤ B) : Pf e N c q S s W2 w w2 := by
  obtain ⟨_, S', h2, h3⟩ := h
  exact ⟨h8, S', h2, hm.skip h3 hB⟩
theorem Pf.stored {N c q : Nat} {S : Nat → Prop} {s s2 : St} {W2 : Wd} {w w1 w2 : World} (h : Pf CPT N c q S s W2 w w1) (h8 : Blk c (stv s2) CPT w2) (hc : Chg w1 w2 (fun k => k = c)) : Pf CPT N c q S s2 W2 w w2 := by
  obtain ⟨h1, S', h2, h3⟩ := h
  have hn := h2.aside h1
  exact ⟨h8, S', h2.chg hc fun k hk e => by subst e; exact hn hk, h3.trans ⟨hc.mono fun k e => .inl e, fun k hk => .inl hk⟩⟩
theorem step_neg (I : Im) (s : St) (W : Wd) (N c p q : Nat) (S : Nat → Prop) (w : World) (hcb : Blk c (stv s) CPT w) (hbus : Bus N w q W S) (hIm : ImgAt N w p I) (hIo : I.Ok) (hE : EnvN N w) (hs : s.Ok) (hl : W.cs.length ≤ 70000) (hN : N ≤ w.heap.size) (hNc : N ≤ c) (hc : s.pc < 0) :
    Calls Tryd.prog 14 #[.pointer (some ⟨c, 0, none⟩), .pointer (some ⟨p, 0, none⟩), (.iface 47 (.pointer (some ⟨q, 0, none⟩)))] w fun e w' => e = .returned (.int .i64 5) ∧ Pf CPT N c q S s W w w' := by
  obtain ⟨r, gp, ap, kp, hp, gc, ac, kc, hc', hb, hR⟩ := hIm
  have HC := Lib.hid hc
  have HP := Lib.hid (Pf.start hcb hbus)
  go_enter Tryd.func14, Tryd.ntmps14
  go_upto_region 1 with fail
  have s0 : Atv ⟨c, 0, none⟩ (.int .i64 s.pc) w.drew := (hcb.grew (Grew.refl _).drw).atv 0 rfl
  refine wp_still [some 11, some 12, some 13, some 14, some 15, some 16, some 17, some 18, some 19, some 20, some 21, some 22, some 23, some 24, some 25, some 26, some 27, some 28, some 29, some 30, some 31, some 32, some 33, some 34, some 35, some 36, some 37, some 38, some 39, some 40, some 41] zD5 [fun v _ => v = .pointer (some ⟨c, 0, none⟩), fun v _ => v = .pointer (some ⟨c, 0, none⟩), fun v _ => v = .pointer (some ⟨c, 0, none⟩), fun v _ => v = .int .i64 (s.pc), fun v _ => v = .bool (true), fun v _ => v = .bool (true), fun v _ => v = undef, fun v _ => v = undef, fun v _ => v = undef, fun v _ => v = undef, fun v _ => v = undef, fun v _ => v = undef, fun v _ => v = undef, fun v _ => v = undef, fun v _ => v = undef, fun v _ => v = undef, fun v _ => v = .bool (true), fun v _ => v = .bool (true), fun v _ => v = undef, fun v _ => v = undef, fun v _ => v = undef, fun v _ => v = undef, fun v _ => v = undef, fun v _ => v = undef, fun v _ => v = undef, fun v _ => v = undef, fun v _ => v = undef, fun v _ => v = undef, fun v _ => v = undef, fun v _ => v = undef, fun v _ => v = .bool (true)] (by kernel_rfl) (by kernel_rfl) rfl ⟨?_, ?_, ?_, ?_, ?_, ?_, ?_, ?_, ?_, ?_, ?_, ?_, ?_, ?_, ?_, ?_, ?_, ?_, ?_, ?_, ?_, ?_, ?_, ?_, ?_, ?_, ?_, ?_, ?_, ?_, ?_, trivial⟩ ?_
  · intro u w hR hd; exact runs_mv (ev rfl) ⟨rfl, rfl⟩
  · intro u w hR hd; exact rn_nil (ev (hd.1 rfl)) ⟨rfl, rfl⟩
  · intro u w hR hd; exact rn_fld_43_0 (ev (hd.1 rfl)) ⟨rfl, rfl⟩
  · intro u w hR hd; exact rn_ld_3 (ev (hd.1 rfl)) (s0.kept hR) ⟨rfl, rfl⟩
  · intro u w hR hd; exact rn_lss_3 (ev (hd.1 rfl)) rfl ⟨rfl, (congrArg Value.bool (decide_eq_true HC.out))⟩
  · intro u w hR hd; exact runs_mv (ev (hd.1 rfl)) ⟨rfl, rfl⟩
  · intro u w hR hd; exact ⟨fun hg => absurd ((hd.1 rfl).symm.trans hg) (fun h => by first | cases h | (simp [undef] at h)), fun _ => rfl⟩
  · intro u w hR hd; exact ⟨fun hg => absurd ((hd.2.1 rfl).symm.trans hg) (fun h => by first | cases h | (simp [undef] at h)), fun _ => rfl⟩
  · intro u w hR hd; exact ⟨fun hg => absurd ((hd.2.1 rfl).symm.trans hg) (fun h => by first | cases h | (simp [undef] at h)), fun _ => rfl⟩
  · intro u w hR hd; exact ⟨fun hg => absurd ((hd.2.1 rfl).symm.trans hg) (fun h => by first | cases h | (simp [undef] at h)), fun _ => rfl⟩
  · intro u w hR hd; exact ⟨fun hg => absurd ((hd.1 rfl).symm.trans hg) (fun h => by first | cases h | (simp [undef] at h)), fun _ => rfl⟩
  · intro u w hR hd; exact ⟨fun hg => absurd ((hd.2.1 rfl).symm.trans hg) (fun h => by first | cases h | (simp [undef] at h)), fun _ => rfl⟩
  · intro u w hR hd; exact ⟨fun hg => absurd ((hd.2.1 rfl).symm.trans hg) (fun h => by first | cases h | (simp [undef] at h)), fun _ => rfl⟩
  · intro u w hR hd; exact ⟨fun hg => absurd ((hd.2.1 rfl).symm.trans hg) (fun h => by first | cases h | (simp [undef] at h)), fun _ => rfl⟩
  · intro u w hR hd; exact ⟨fun hg => absurd ((hd.2.1 rfl).symm.trans hg) (fun h => by first | cases h | (simp [undef] at h)), fun _ => rfl⟩
  · intro u w hR hd; exact ⟨fun hg => absurd ((hd.2.2.1 rfl).symm.trans hg) (fun h => by first | cases h | (simp [undef] at h)), fun _ => rfl⟩
  · intro u w hR hd; exact runs_orT (ev (hd.1 rfl)) ⟨rfl, rfl⟩
  · intro u w hR hd; exact runs_mv (ev (hd.1 rfl)) ⟨rfl, rfl⟩
  · intro u w hR hd; exact ⟨fun hg => absurd ((hd.1 rfl).symm.trans hg) (fun h => by first | cases h | (simp [undef] at h)), fun _ => rfl⟩
  · intro u w hR hd; exact ⟨fun hg => absurd ((hd.2.1 rfl).symm.trans hg) (fun h => by first | cases h | (simp [undef] at h)), fun _ => rfl⟩
  · intro u w hR hd; exact ⟨fun hg => absurd ((hd.2.1 rfl).symm.trans hg) (fun h => by first | cases h | (simp [undef] at h)), fun _ => rfl⟩
  · intro u w hR hd; exact ⟨fun hg => absurd ((hd.2.1 rfl).symm.trans hg) (fun h => by first | cases h | (simp [undef] at h)), fun _ => rfl⟩
  · intro u w hR hd; exact ⟨fun hg => absurd ((hd.1 rfl).symm.trans hg) (fun h => by first | cases h | (simp [undef] at h)), fun _ => rfl⟩
  · intro u w hR hd; exact ⟨fun hg => absurd ((hd.2.1 rfl).symm.trans hg) (fun h => by first | cases h | (simp [undef] at h)), fun _ => rfl⟩
  · intro u w hR hd; exact ⟨fun hg => absurd ((hd.2.1 rfl).symm.trans hg) (fun h => by first | cases h | (simp [undef] at h)), fun _ => rfl⟩
  · intro u w hR hd; exact ⟨fun hg => absurd ((hd.2.1 rfl).symm.trans hg) (fun h => by first | cases h | (simp [undef] at h)), fun _ => rfl⟩
  · intro u w hR hd; exact ⟨fun hg => absurd ((hd.2.2.1 rfl).symm.trans hg) (fun h => by first | cases h | (simp [undef] at h)), fun _ => rfl⟩
  · intro u w hR hd; exact ⟨fun hg => absurd ((hd.2.1 rfl).symm.trans hg) (fun h => by first | cases h | (simp [undef] at h)), fun _ => rfl⟩
  · intro u w hR hd; exact ⟨fun hg => absurd ((hd.2.1 rfl).symm.trans hg) (fun h => by first | cases h | (simp [undef] at h)), fun _ => rfl⟩
  · intro u w hR hd; exact ⟨fun hg => absurd ((hd.2.1 rfl).symm.trans hg) (fun h => by first | cases h | (simp [undef] at h)), fun _ => rfl⟩
  · intro u w hR hd; exact runs_orT (ev (hd.1 rfl)) ⟨rfl, rfl⟩
  intro u h
  have he : u 41 = .bool true := h 30 (by decide)
  simp only [mixA, mixL, zz9, zz0]
  rw [he]
  clear h he
  go_wp2
  go_ret
  exact ⟨rfl, HP.out.grew (Grew.refl _).drw⟩
theorem step_far (I : Im) (s : St) (W : Wd) (N c p q : Nat) (S : Nat → Prop) (w : World) (hcb : Blk c (stv s) CPT w) (hbus : Bus N w q W S) (hIm : ImgAt N w p I) (hIo : I.Ok) (hE : EnvN N w) (hs : s.Ok) (hl : W.cs.length ≤ 70000) (hN : N ≤ w.heap.size) (hNc : N ≤ c) (hc : 0 ≤ s.pc ∧ (I.code.length : Int) ≤ s.pc) :
    Calls Tryd.prog 14 #[.pointer (some ⟨c, 0, none⟩), .pointer (some ⟨p, 0, none⟩), (.iface 47 (.pointer (some ⟨q, 0, none⟩)))] w fun e w' => e = .returned (.int .i64 5) ∧ Pf CPT N c q S s W w w' := by
  obtain ⟨r, gp, ap, kp, hp, gc, ac, kc, hc', hb, hR⟩ := hIm
  have HC := Lib.hid (show ¬ s.pc < 0 ∧ (I.code.length : Int) ≤ s.pc from ⟨by omega, hc.2⟩)
  have HP := Lib.hid (Pf.start hcb hbus)
  go_enter Tryd.func14, Tryd.ntmps14
  go_upto_region 1 with fail
  have s0 : Atv ⟨c, 0, none⟩ (.int .i64 s.pc) w.drew := (hcb.grew (Grew.refl _).drw).atv 0 rfl
  have i11 : Atv ⟨p, 11, none⟩ (.slice kp I.code.length kc) w.drew := (hb.grew (Grew.refl _).drw).atv 11 rfl
  refine wp_still [some 11, some 12, some 13, some 14, some 15, some 16, some 17, some 18, some 19, some 20, some 21, some 22, some 23, some 24, some 25, some 26, some 27, some 28, some 29, some 30, some 31, some 32, some 33, some 34, some 35, some 36, some 37, some 38, some 39, some 40, some 41] zD5 [fun v _ => v = .pointer (some ⟨c, 0, none⟩), fun v _ => v = .pointer (some ⟨c, 0, none⟩), fun v _ => v = .pointer (some ⟨c, 0, none⟩), fun v _ => v = .int .i64 (s.pc), fun v _ => v = .bool (false), fun v _ => v = .bool (false), fun v _ => v = .pointer (some ⟨c, 0, none⟩), fun v _ => v = .pointer (some ⟨c, 0, none⟩), fun v _ => v = .pointer (some ⟨c, 0, none⟩), fun v _ => v = .int .i64 (s.pc), fun v _ => v = .pointer (some ⟨p, 0, none⟩), fun v _ => v = .pointer (some ⟨p, 0, none⟩), fun v _ => v = .pointer (some ⟨p, 11, none⟩), fun v _ => v = .slice kp (I.code.length) (kc), fun v _ => v = .int .i64 (((I.code.length : Nat) : Int)), fun v _ => v = .bool (true), fun v _ => v = .bool (true), fun v _ => v = .bool (true), fun v _ => v = undef, fun v _ => v = undef, fun v _ => v = undef, fun v _ => v = undef, fun v _ => v = undef, fun v _ => v = undef, fun v _ => v = undef, fun v _ => v = undef, fun v _ => v = undef, fun v _ => v = undef, fun v _ => v = undef, fun v _ => v = undef, fun v _ => v = .bool (true)] (by kernel_rfl) (by kernel_rfl) rfl ⟨?_, ?_, ?_, ?_, ?_, ?_, ?_, ?_, ?_, ?_, ?_, ?_, ?_, ?_, ?_, ?_, ?_, ?_, ?_, ?_, ?_, ?_, ?_, ?_, ?_, ?_, ?_, ?_, ?_, ?_, ?_, trivial⟩ ?_
  · intro u w hR hd; exact runs_mv (ev rfl) ⟨rfl, rfl⟩
  · intro u w hR hd; exact rn_nil (ev (hd.1 rfl)) ⟨rfl, rfl⟩
  · intro u w hR hd; exact rn_fld_43_0 (ev (hd.1 rfl)) ⟨rfl, rfl⟩
  · intro u w hR hd; exact rn_ld_3 (ev (hd.1 rfl)) (s0.kept hR) ⟨rfl, rfl⟩
  · intro u w hR hd; exact rn_lss_3 (ev (hd.1 rfl)) rfl ⟨rfl, (congrArg Value.bool (decide_eq_false HC.out.1))⟩
  · intro u w hR hd; exact runs_mv (ev (hd.1 rfl)) ⟨rfl, rfl⟩
  · intro u w hR hd; exact ⟨fun _ => runs_mv (ev rfl) ⟨rfl, rfl⟩, fun hn => absurd (hd.1 rfl) hn⟩
  · intro u w hR hd; exact ⟨fun _ => rn_nil (ev (hd.1 rfl)) ⟨rfl, rfl⟩, fun hn => absurd (hd.2.1 rfl) hn⟩
  · intro u w hR hd; exact ⟨fun _ => rn_fld_43_0 (ev (hd.1 rfl)) ⟨rfl, rfl⟩, fun hn => absurd (hd.2.1 rfl) hn⟩
  · intro u w hR hd; exact ⟨fun _ => rn_ld_3 (ev (hd.1 rfl)) (s0.kept hR) ⟨rfl, rfl⟩, fun hn => absurd (hd.2.1 rfl) hn⟩
  · intro u w hR hd; exact ⟨fun _ => runs_mv (ev rfl) ⟨rfl, rfl⟩, fun hn => absurd (hd.1 rfl) hn⟩
  · intro u w hR hd; exact ⟨fun _ => rn_nil (ev (hd.1 rfl)) ⟨rfl, rfl⟩, fun hn => absurd (hd.2.1 rfl) hn⟩
  · intro u w hR hd; exact ⟨fun _ => rn_fld_28_11 (ev (hd.1 rfl)) ⟨rfl, rfl⟩, fun hn => absurd (hd.2.1 rfl) hn⟩
  · intro u w hR hd; exact ⟨fun _ => rn_ld_26 (ev (hd.1 rfl)) (i11.kept hR) ⟨rfl, rfl⟩, fun hn => absurd (hd.2.1 rfl) hn⟩
  · intro u w hR hd; exact ⟨fun _ => rn_len_26 (ev (hd.1 rfl)) ⟨rfl, rfl⟩, fun hn => absurd (hd.2.1 rfl) hn⟩
  · intro u w hR hd; exact ⟨fun _ => rn_geq_3 (ev (hd.1 rfl)) (ev (hd.2.1 rfl)) ⟨rfl, (congrArg Value.bool (decide_eq_true HC.out.2))⟩, fun hn => absurd (hd.2.2.1 rfl) hn⟩
  · intro u w hR hd; exact runs_or2 (ev (hd.1 rfl)) (fun hb => ev ((hd.2.1 rfl))) ⟨rfl, rfl⟩
  · intro u w hR hd; exact runs_mv (ev (hd.1 rfl)) ⟨rfl, rfl⟩
  · intro u w hR hd; exact ⟨fun hg => absurd ((hd.1 rfl).symm.trans hg) (fun h => by first | cases h | (simp [undef] at h)), fun _ => rfl⟩
  · intro u w hR hd; exact ⟨fun hg => absurd ((hd.2.1 rfl).symm.trans hg) (fun h => by first | cases h | (simp [undef] at h)), fun _ => rfl⟩
  · intro u w hR hd; exact ⟨fun hg => absurd ((hd.2.1 rfl).symm.trans hg) (fun h => by first | cases h | (simp [undef] at h)), fun _ => rfl⟩
  · intro u w hR hd; exact ⟨fun hg => absurd ((hd.2.1 rfl).symm.trans hg) (fun h => by first | cases h | (simp [undef] at h)), fun _ => rfl⟩
  · intro u w hR hd; exact ⟨fun hg => absurd ((hd.1 rfl).symm.trans hg) (fun h => by first | cases h | (simp [undef] at h)), fun _ => rfl⟩
  · intro u w hR hd; exact ⟨fun hg => absurd ((hd.2.1 rfl).symm.trans hg) (fun h => by first | cases h | (simp [undef] at h)), fun _ => rfl⟩
  · intro u w hR hd; exact ⟨fun hg => absurd ((hd.2.1 rfl).symm.trans hg) (fun h => by first | cases h | (simp [undef] at h)), fun _ => rfl⟩
  · intro u w hR hd; exact ⟨fun hg => absurd ((hd.2.1 rfl).symm.trans hg) (fun h => by first | cases h | (simp [undef] at h)), fun _ => rfl⟩
  · intro u w hR hd; exact ⟨fun hg => absurd ((hd.2.2.1 rfl).symm.trans hg) (fun h => by first | cases h | (simp [undef] at h)), fun _ => rfl⟩
  · intro u w hR hd; exact ⟨fun hg => absurd ((hd.2.1 rfl).symm.trans hg) (fun h => by first | cases h | (simp [undef] at h)), fun _ => rfl⟩
  · intro u w hR hd; exact ⟨fun hg => absurd ((hd.2.1 rfl).symm.trans hg) (fun h => by first | cases h | (simp [undef] at h)), fun _ => rfl⟩
  · intro u w hR hd; exact ⟨fun hg => absurd ((hd.2.1 rfl).symm.trans hg) (fun h => by first | cases h | (simp [undef] at h)), fun _ => rfl⟩
  · intro u w hR hd; exact runs_orT (ev (hd.1 rfl)) ⟨rfl, rfl⟩
  intro u h
  have he : u 41 = .bool true := h 30 (by decide)
  simp only [mixA, mixL, zz9, zz0]
  rw [he]
  clear h he
  go_wp2
  go_ret
  exact ⟨rfl, HP.out.grew (Grew.refl _).drw⟩
theorem step_inv (I : Im) (s : St) (W : Wd) (N c p q : Nat) (S : Nat → Prop) (w : World) (hcb : Blk c (stv s) CPT w) (hbus : Bus N w q W S) (hIm : ImgAt N w p I) (hIo : I.Ok) (hE : EnvN N w) (hs : s.Ok) (hl : W.cs.length ≤ 70000) (hN : N ≤ w.heap.size) (hNc : N ≤ c) (x : Cd) (hx : I.at s.pc = some x) (hv : valid x = false) :
    Calls Tryd.prog 14 #[.pointer (some ⟨c, 0, none⟩), .pointer (some ⟨p, 0, none⟩), (.iface 47 (.pointer (some ⟨q, 0, none⟩)))] w fun e w' => e = .returned (.int .i64 5) ∧ Pf CPT N c q S s W w w' := by
  obtain ⟨m, hpc, hml, hmx⟩ := Im.at_some hx
  obtain ⟨rr, gp, ap, kp, hp, gc, ac, kc, hc', hb, hR⟩ := hIm
  obtain ⟨kb, ko, rfl, hkc⟩ := hR.code.cells (by omega)
  have hk0 : Atv ⟨kb, ko + m * 5, none⟩ (.int .i64 x.op) w := hkc m x hmx 0 _ rfl
  have hk1 : Atv ⟨kb, ko + m * 5 + 1, none⟩ (.int .i64 x.a) w := hkc m x hmx 1 _ rfl
  have hk2 : Atv ⟨kb, ko + m * 5 + 2, none⟩ (.int .i64 x.b) w := hkc m x hmx 2 _ rfl
  have hk3 : Atv ⟨kb, ko + m * 5 + 3, none⟩ (.int .i64 x.c) w := hkc m x hmx 3 _ rfl
  have hk4 : Atv ⟨kb, ko + m * 5 + 4, none⟩ (.int .i16 x.i) w := hkc m x hmx 4 _ rfl
  have HV := Lib.hid hv
  have HM : Hid ((¬ ((m : Nat) : Int) < 0 ∧ ¬ (I.code.length : Int) ≤ ((m : Nat) : Int)) ∧ m < I.code.length) := Lib.hid ⟨⟨by omega, by omega⟩, hml⟩
  have HPC : Hid (s.pc = (m : Int)) := Lib.hid hpc
  have hP := Pf.start hcb hbus
  have HED := hE.grew (Grew.refl w).drw
  clear hcb hbus hE hs hl hN hNc hx hv hpc hml hmx hkc hIo
  go_enter Tryd.func14, Tryd.ntmps14
  go_upto_region 1 with fail
  have s0 : Atv ⟨c, 0, none⟩ (.int .i64 ((m : Nat) : Int)) w.drew := HPC.out ▸ (hP.cpu.grew (Grew.refl _).drw).atv 0 rfl
  have i11 : Atv ⟨p, 11, none⟩ (.slice (some ⟨kb, ko, none⟩) I.code.length kc) w.drew := (hb.grew (Grew.refl _).drw).atv 11 rfl
  have k0 : Atv ⟨kb, ko + m * 5, none⟩ (.int .i64 x.op) w.drew := Atv.grew (w := w) (hk0) (Grew.refl _).drw
  have k1 : Atv ⟨kb, ko + m * 5 + 1, none⟩ (.int .i64 x.a) w.drew := Atv.grew (w := w) (hk1) (Grew.refl _).drw
  have k2 : Atv ⟨kb, ko + m * 5 + 2, none⟩ (.int .i64 x.b) w.drew := Atv.grew (w := w) (hk2) (Grew.refl _).drw
  have k3 : Atv ⟨kb, ko + m * 5 + 3, none⟩ (.int .i64 x.c) w.drew := Atv.grew (w := w) (hk3) (Grew.refl _).drw
  have k4 : Atv ⟨kb, ko + m * 5 + 4, none⟩ (.int .i16 x.i) w.drew := Atv.grew (w := w) (hk4) (Grew.refl _).drw
  refine wp_posts [some 11, some 12, some 13, some 14, some 15, some 16, some 17, some 18, some 19, some 20, some 21, some 22, some 23, some 24, some 25, some 26, some 27, some 28, some 29, some 30, some 31, some 32, some 33, some 34, some 35, some 36, some 37, some 38, some 39, some 40, some 41] zD5 [fun v _ => v = .pointer (some ⟨c, 0, none⟩), fun v _ => v = .pointer (some ⟨c, 0, none⟩), fun v _ => v = .pointer (some ⟨c, 0, none⟩), fun v _ => v = .int .i64 (((m : Nat) : Int)), fun v _ => v = .bool (false), fun v _ => v = .bool (false), fun v _ => v = .pointer (some ⟨c, 0, none⟩), fun v _ => v = .pointer (some ⟨c, 0, none⟩), fun v _ => v = .pointer (some ⟨c, 0, none⟩), fun v _ => v = .int .i64 (((m : Nat) : Int)), fun v _ => v = .pointer (some ⟨p, 0, none⟩), fun v _ => v = .pointer (some ⟨p, 0, none⟩), fun v _ => v = .pointer (some ⟨p, 11, none⟩), fun v _ => v = .slice (some ⟨kb, ko, none⟩) (I.code.length) (kc), fun v _ => v = .int .i64 (((I.code.length : Nat) : Int)), fun v _ => v = .bool (false), fun v _ => v = .bool (false), fun v _ => v = .bool (false), fun v _ => v = .pointer (some ⟨p, 0, none⟩), fun v _ => v = .pointer (some ⟨p, 0, none⟩), fun v _ => v = .pointer (some ⟨p, 11, none⟩), fun v _ => v = .slice (some ⟨kb, ko, none⟩) (I.code.length) (kc), fun v _ => v = .pointer (some ⟨c, 0, none⟩), fun v _ => v = .pointer (some ⟨c, 0, none⟩), fun v _ => v = .pointer (some ⟨c, 0, none⟩), fun v _ => v = .int .i64 (((m : Nat) : Int)), fun v _ => v = .pointer (some ⟨kb, ko + m * 5, none⟩), fun v _ => v = .agg #[.int .i64 (x.op), .int .i64 (x.a), .int .i64 (x.b), .int .i64 (x.c), .int .i16 (x.i)], fun v _ => v = .bool (false), fun v _ => v = .bool (true), fun v _ => v = .bool (true)] (by kernel_rfl) (by kernel_rfl) rfl ?_ ⟨?_, ?_, ?_, ?_, ?_, ?_, ?_, ?_, ?_, ?_, ?_, ?_, ?_, ?_, ?_, ?_, ?_, ?_, ?_, ?_, ?_, ?_, ?_, ?_, ?_, ?_, ?_, ?_, ?_, ?_, ?_, trivial⟩ ?_
  · exact ⟨fun _ _ _ _ h => h, fun _ _ _ _ h => h, fun _ _ _ _ h => h, fun _ _ _ _ h => h, fun _ _ _ _ h => h, fun _ _ _ _ h => h, fun _ _ _ _ h => h, fun _ _ _ _ h => h, fun _ _ _ _ h => h, fun _ _ _ _ h => h, fun _ _ _ _ h => h, fun _ _ _ _ h => h, fun _ _ _ _ h => h, fun _ _ _ _ h => h, fun _ _ _ _ h => h, fun _ _ _ _ h => h, fun _ _ _ _ h => h, fun _ _ _ _ h => h, fun _ _ _ _ h => h, fun _ _ _ _ h => h, fun _ _ _ _ h => h, fun _ _ _ _ h => h, fun _ _ _ _ h => h, fun _ _ _ _ h => h, fun _ _ _ _ h => h, fun _ _ _ _ h => h, fun _ _ _ _ h => h, fun _ _ _ _ h => h, fun _ _ _ _ h => h, fun _ _ _ _ h => h, fun _ _ _ _ h => h, trivial⟩
  · intro u w hR hd; exact runs_mv (ev rfl) ⟨Grew.refl _, rfl⟩
  · intro u w hR hd; exact rn_nil (ev (hd.1 rfl)) ⟨Grew.refl _, rfl⟩
  · intro u w hR hd; exact rn_fld_43_0 (ev (hd.1 rfl)) ⟨Grew.refl _, rfl⟩
  · intro u w hR hd; exact rn_ld_3 (ev (hd.1 rfl)) (s0.kept hR) ⟨Grew.refl _, rfl⟩
  · intro u w hR hd; exact rn_lss_3 (ev (hd.1 rfl)) rfl ⟨Grew.refl _, (congrArg Value.bool (decide_eq_false HM.out.1.1))⟩
  · intro u w hR hd; exact runs_mv (ev (hd.1 rfl)) ⟨Grew.refl _, rfl⟩
  · intro u w hR hd; exact ⟨fun _ => runs_mv (ev rfl) ⟨Grew.refl _, rfl⟩, fun hn => absurd (hd.1 rfl) hn⟩
  · intro u w hR hd; exact ⟨fun _ => rn_nil (ev (hd.1 rfl)) ⟨Grew.refl _, rfl⟩, fun hn => absurd (hd.2.1 rfl) hn⟩
  · intro u w hR hd; exact ⟨fun _ => rn_fld_43_0 (ev (hd.1 rfl)) ⟨Grew.refl _, rfl⟩, fun hn => absurd (hd.2.1 rfl) hn⟩
  · intro u w hR hd; exact ⟨fun _ => rn_ld_3 (ev (hd.1 rfl)) (s0.kept hR) ⟨Grew.refl _, rfl⟩, fun hn => absurd (hd.2.1 rfl) hn⟩
  · intro u w hR hd; exact ⟨fun _ => runs_mv (ev rfl) ⟨Grew.refl _, rfl⟩, fun hn => absurd (hd.1 rfl) hn⟩
  · intro u w hR hd; exact ⟨fun _ => rn_nil (ev (hd.1 rfl)) ⟨Grew.refl _, rfl⟩, fun hn => absurd (hd.2.1 rfl) hn⟩
  · intro u w hR hd; exact ⟨fun _ => rn_fld_28_11 (ev (hd.1 rfl)) ⟨Grew.refl _, rfl⟩, fun hn => absurd (hd.2.1 rfl) hn⟩
  · intro u w hR hd; exact ⟨fun _ => rn_ld_26 (ev (hd.1 rfl)) (i11.kept hR) ⟨Grew.refl _, rfl⟩, fun hn => absurd (hd.2.1 rfl) hn⟩
  · intro u w hR hd; exact ⟨fun _ => rn_len_26 (ev (hd.1 rfl)) ⟨Grew.refl _, rfl⟩, fun hn => absurd (hd.2.1 rfl) hn⟩
  · intro u w hR hd; exact ⟨fun _ => rn_geq_3 (ev (hd.1 rfl)) (ev (hd.2.1 rfl)) ⟨Grew.refl _, (congrArg Value.bool (decide_eq_false HM.out.1.2))⟩, fun hn => absurd (hd.2.2.1 rfl) hn⟩
  · intro u w hR hd; exact runs_or2 (ev (hd.1 rfl)) (fun hb => ev ((hd.2.1 rfl))) ⟨Grew.refl _, rfl⟩
  · intro u w hR hd; exact runs_mv (ev (hd.1 rfl)) ⟨Grew.refl _, rfl⟩
  · intro u w hR hd; exact ⟨fun _ => runs_mv (ev rfl) ⟨Grew.refl _, rfl⟩, fun hn => absurd (hd.1 rfl) hn⟩
  · intro u w hR hd; exact ⟨fun _ => rn_nil (ev (hd.1 rfl)) ⟨Grew.refl _, rfl⟩, fun hn => absurd (hd.2.1 rfl) hn⟩
  · intro u w hR hd; exact ⟨fun _ => rn_fld_28_11 (ev (hd.1 rfl)) ⟨Grew.refl _, rfl⟩, fun hn => absurd (hd.2.1 rfl) hn⟩
  · intro u w hR hd; exact ⟨fun _ => rn_ld_26 (ev (hd.1 rfl)) (i11.kept hR) ⟨Grew.refl _, rfl⟩, fun hn => absurd (hd.2.1 rfl) hn⟩
  · intro u w hR hd; exact ⟨fun _ => runs_mv (ev rfl) ⟨Grew.refl _, rfl⟩, fun hn => absurd (hd.1 rfl) hn⟩
  · intro u w hR hd; exact ⟨fun _ => rn_nil (ev (hd.1 rfl)) ⟨Grew.refl _, rfl⟩, fun hn => absurd (hd.2.1 rfl) hn⟩
  · intro u w hR hd; exact ⟨fun _ => rn_fld_43_0 (ev (hd.1 rfl)) ⟨Grew.refl _, rfl⟩, fun hn => absurd (hd.2.1 rfl) hn⟩
  · intro u w hR hd; exact ⟨fun _ => rn_ld_3 (ev (hd.1 rfl)) (s0.kept hR) ⟨Grew.refl _, rfl⟩, fun hn => absurd (hd.2.1 rfl) hn⟩
  · intro u w hR hd; exact ⟨fun _ => rn_idx_26 (m) (ev (hd.1 rfl)) (ev (hd.2.1 rfl)) (by have := HM.out; omega) ⟨Grew.refl _, rfl⟩, fun hn => absurd (hd.2.2.1 rfl) hn⟩
  · intro u w hR hd; exact ⟨fun _ => rn_ld_72 (ev (hd.1 rfl)) (k0.kept hR) (k1.kept hR) (k2.kept hR) (k3.kept hR) (k4.kept hR) ⟨Grew.refl _, rfl⟩, fun hn => absurd (hd.2.1 rfl) hn⟩
  · intro u w hR hd; exact ⟨fun _ => runs_c1 enters_va (ev (hd.1 rfl)) (callp (fun _ e => e) (valid_is x _ false HV.out (HED.grew hR).ops)), fun hn => absurd (hd.2.1 rfl) hn⟩
  · intro u w hR hd; exact ⟨fun _ => runs_nt (ev (hd.1 rfl)) ⟨Grew.refl _, rfl⟩, fun hn => absurd (hd.2.1 rfl) hn⟩
  · intro u w hR hd; exact runs_or2 (ev (hd.1 rfl)) (fun hb => ev ((hd.2.1 rfl))) ⟨Grew.refl _, rfl⟩
  · intro u w1 hR1 h
    have he : u 41 = .bool true := h 30 (by decide)
    simp only [mixA, mixL, zz9, zz0]
    rw [he]
    clear h he
    have HP := Lib.hid (hP.grew ((Grew.refl w).drw.trans hR1))
    clear hP
    go_wp2
    go_ret
    exact ⟨rfl, HP.out⟩
set_option maxHeartbeats 4000000 in
theorem step_bad (I : Im) (s : St) (W : Wd) (N c p q : Nat) (S : Nat → Prop) (w : World) (hcb : Blk c (stv s) CPT w) (hbus : Bus N w q W S) (hIm : ImgAt N w p I) (hIo : I.Ok) (hE : EnvN N w) (hs : s.Ok) (hl : W.cs.length ≤ 70000) (hN : N ≤ w.heap.size) (hNc : N ≤ c) (x : Cd) (hx : I.at s.pc = some x) (hv : valid x = true) (hi : I16 x.i) (ho : (opnd x s I).2 = false) :
    Calls Tryd.prog 14 #[.pointer (some ⟨c, 0, none⟩), .pointer (some ⟨p, 0, none⟩), (.iface 47 (.pointer (some ⟨q, 0, none⟩)))] w fun e w' => e = .returned (.int .i64 5) ∧ Pf CPT N c q S s W w w' := by
  have hIm0 := hIm
  have HP0 := Lib.hid hcb
  have HE0 := Lib.hid hE
  obtain ⟨m, hpc, hml, hmx⟩ := Im.at_some hx
  obtain ⟨rr, gp, ap, kp, hp, gc, ac, kc, hc', hb, hR⟩ := hIm
  obtain ⟨kb, ko, rfl, hkc⟩ := hR.code.cells (by omega)
  have hk0 : Atv ⟨kb, ko + m * 5, none⟩ (.int .i64 x.op) w := hkc m x hmx 0 _ rfl
  have hk1 : Atv ⟨kb, ko + m * 5 + 1, none⟩ (.int .i64 x.a) w := hkc m x hmx 1 _ rfl
  have hk2 : Atv ⟨kb, ko + m * 5 + 2, none⟩ (.int .i64 x.b) w := hkc m x hmx 2 _ rfl
  have hk3 : Atv ⟨kb, ko + m * 5 + 3, none⟩ (.int .i64 x.c) w := hkc m x hmx 3 _ rfl
  have hk4 : Atv ⟨kb, ko + m * 5 + 4, none⟩ (.int .i16 x.i) w := hkc m x hmx 4 _ rfl
  have HV := Lib.hid hv
  have HM : Hid ((¬ ((m : Nat) : Int) < 0 ∧ ¬ (I.code.length : Int) ≤ ((m : Nat) : Int)) ∧ m < I.code.length) := Lib.hid ⟨⟨by omega, by omega⟩, hml⟩
  have HPC : Hid (s.pc = (m : Int)) := Lib.hid hpc
  have hP := Pf.start hcb hbus
  have HED := hE.grew (Grew.refl w).drw
  have HI := Lib.hid hIm0
  have HIo := Lib.hid hIo
  have HS := Lib.hid hs
  have HIX := Lib.hid hi
  have HO := Lib.hid ho
  have HL := Lib.hid hl
  have HN := Lib.hid hN
  have HNc := Lib.hid hNc
  have HBUS := Lib.hid hbus
  have HNE : Hid (p ≠ c) := Lib.hid (hIm0.ne hcb (by decide))
  have hcl := hcb.lt
  clear hcb hbus hE hs hl hN hNc hx hv hpc hml hmx hkc hIo hIm0 hi ho
  go_enter Tryd.func14, Tryd.ntmps14
  go_upto_region 1 with fail
  have s0 : Atv ⟨c, 0, none⟩ (.int .i64 ((m : Nat) : Int)) w.drew := HPC.out ▸ (hP.cpu.grew (Grew.refl _).drw).atv 0 rfl
  have i11 : Atv ⟨p, 11, none⟩ (.slice (some ⟨kb, ko, none⟩) I.code.length kc) w.drew := (hb.grew (Grew.refl _).drw).atv 11 rfl
  have k0 : Atv ⟨kb, ko + m * 5, none⟩ (.int .i64 x.op) w.drew := Atv.grew (w := w) (hk0) (Grew.refl _).drw
  have k1 : Atv ⟨kb, ko + m * 5 + 1, none⟩ (.int .i64 x.a) w.drew := Atv.grew (w := w) (hk1) (Grew.refl _).drw
  have k2 : Atv ⟨kb, ko + m * 5 + 2, none⟩ (.int .i64 x.b) w.drew := Atv.grew (w := w) (hk2) (Grew.refl _).drw
  have k3 : Atv ⟨kb, ko + m * 5 + 3, none⟩ (.int .i64 x.c) w.drew := Atv.grew (w := w) (hk3) (Grew.refl _).drw
  have k4 : Atv ⟨kb, ko + m * 5 + 4, none⟩ (.int .i16 x.i) w.drew := Atv.grew (w := w) (hk4) (Grew.refl _).drw
  refine wp_posts [some 11, some 12, some 13, some 14, some 15, some 16, some 17, some 18, some 19, some 20, some 21, some 22, some 23, some 24, some 25, some 26, some 27, some 28, some 29, some 30, some 31, some 32, some 33, some 34, some 35, some 36, some 37, some 38, some 39, some 40, some 41] zD5 [fun v _ => v = .pointer (some ⟨c, 0, none⟩), fun v _ => v = .pointer (some ⟨c, 0, none⟩), fun v _ => v = .pointer (some ⟨c, 0, none⟩), fun v _ => v = .int .i64 (((m : Nat) : Int)), fun v _ => v = .bool (false), fun v _ => v = .bool (false), fun v _ => v = .pointer (some ⟨c, 0, none⟩), fun v _ => v = .pointer (some ⟨c, 0, none⟩), fun v _ => v = .pointer (some ⟨c, 0, none⟩), fun v _ => v = .int .i64 (((m : Nat) : Int)), fun v _ => v = .pointer (some ⟨p, 0, none⟩), fun v _ => v = .pointer (some ⟨p, 0, none⟩), fun v _ => v = .pointer (some ⟨p, 11, none⟩), fun v _ => v = .slice (some ⟨kb, ko, none⟩) (I.code.length) (kc), fun v _ => v = .int .i64 (((I.code.length : Nat) : Int)), fun v _ => v = .bool (false), fun v _ => v = .bool (false), fun v _ => v = .bool (false), fun v _ => v = .pointer (some ⟨p, 0, none⟩), fun v _ => v = .pointer (some ⟨p, 0, none⟩), fun v _ => v = .pointer (some ⟨p, 11, none⟩), fun v _ => v = .slice (some ⟨kb, ko, none⟩) (I.code.length) (kc), fun v _ => v = .pointer (some ⟨c, 0, none⟩), fun v _ => v = .pointer (some ⟨c, 0, none⟩), fun v _ => v = .pointer (some ⟨c, 0, none⟩), fun v _ => v = .int .i64 (((m : Nat) : Int)), fun v _ => v = .pointer (some ⟨kb, ko + m * 5, none⟩), fun v _ => v = .agg #[.int .i64 (x.op), .int .i64 (x.a), .int .i64 (x.b), .int .i64 (x.c), .int .i16 (x.i)], fun v _ => v = .bool (true), fun v _ => v = .bool (false), fun v _ => v = .bool (false)] (by kernel_rfl) (by kernel_rfl) rfl ?_ ⟨?_, ?_, ?_, ?_, ?_, ?_, ?_, ?_, ?_, ?_, ?_, ?_, ?_, ?_, ?_, ?_, ?_, ?_, ?_, ?_, ?_, ?_, ?_, ?_, ?_, ?_, ?_, ?_, ?_, ?_, ?_, trivial⟩ ?_
  · exact ⟨fun _ _ _ _ h => h, fun _ _ _ _ h => h, fun _ _ _ _ h => h, fun _ _ _ _ h => h, fun _ _ _ _ h => h, fun _ _ _ _ h => h, fun _ _ _ _ h => h, fun _ _ _ _ h => h, fun _ _ _ _ h => h, fun _ _ _ _ h => h, fun _ _ _ _ h => h, fun _ _ _ _ h => h, fun _ _ _ _ h => h, fun _ _ _ _ h => h, fun _ _ _ _ h => h, fun _ _ _ _ h => h, fun _ _ _ _ h => h, fun _ _ _ _ h => h, fun _ _ _ _ h => h, fun _ _ _ _ h => h, fun _ _ _ _ h => h, fun _ _ _ _ h => h, fun _ _ _ _ h => h, fun _ _ _ _ h => h, fun _ _ _ _ h => h, fun _ _ _ _ h => h, fun _ _ _ _ h => h, fun _ _ _ _ h => h, fun _ _ _ _ h => h, fun _ _ _ _ h => h, fun _ _ _ _ h => h, trivial⟩
  · intro u w hR hd; exact runs_mv (ev rfl) ⟨Grew.refl _, rfl⟩
  · intro u w hR hd; exact rn_nil (ev (hd.1 rfl)) ⟨Grew.refl _, rfl⟩
  · intro u w hR hd; exact rn_fld_43_0 (ev (hd.1 rfl)) ⟨Grew.refl _, rfl⟩
  · intro u w hR hd; exact rn_ld_3 (ev (hd.1 rfl)) (s0.kept hR) ⟨Grew.refl _, rfl⟩
  · intro u w hR hd; exact rn_lss_3 (ev (hd.1 rfl)) rfl ⟨Grew.refl _, (congrArg Value.bool (decide_eq_false HM.out.1.1))⟩
  · intro u w hR hd; exact runs_mv (ev (hd.1 rfl)) ⟨Grew.refl _, rfl⟩
  · intro u w hR hd; exact ⟨fun _ => runs_mv (ev rfl) ⟨Grew.refl _, rfl⟩, fun hn => absurd (hd.1 rfl) hn⟩
  · intro u w hR hd; exact ⟨fun _ => rn_nil (ev (hd.1 rfl)) ⟨Grew.refl _, rfl⟩, fun hn => absurd (hd.2.1 rfl) hn⟩
  · intro u w hR hd; exact ⟨fun _ => rn_fld_43_0 (ev (hd.1 rfl)) ⟨Grew.refl _, rfl⟩, fun hn => absurd (hd.2.1 rfl) hn⟩
  · intro u w hR hd; exact ⟨fun _ => rn_ld_3 (ev (hd.1 rfl)) (s0.kept hR) ⟨Grew.refl _, rfl⟩, fun hn => absurd (hd.2.1 rfl) hn⟩
  · intro u w hR hd; exact ⟨fun _ => runs_mv (ev rfl) ⟨Grew.refl _, rfl⟩, fun hn => absurd (hd.1 rfl) hn⟩
  · intro u w hR hd; exact ⟨fun _ => rn_nil (ev (hd.1 rfl)) ⟨Grew.refl _, rfl⟩, fun hn => absurd (hd.2.1 rfl) hn⟩
  · intro u w hR hd; exact ⟨fun _ => rn_fld_28_11 (ev (hd.1 rfl)) ⟨Grew.refl _, rfl⟩, fun hn => absurd (hd.2.1 rfl) hn⟩
  · intro u w hR hd; exact ⟨fun _ => rn_ld_26 (ev (hd.1 rfl)) (i11.kept hR) ⟨Grew.refl _, rfl⟩, fun hn => absurd (hd.2.1 rfl) hn⟩
  · intro u w hR hd; exact ⟨fun _ => rn_len_26 (ev (hd.1 rfl)) ⟨Grew.refl _, rfl⟩, fun hn => absurd (hd.2.1 rfl) hn⟩
  · intro u w hR hd; exact ⟨fun _ => rn_geq_3 (ev (hd.1 rfl)) (ev (hd.2.1 rfl)) ⟨Grew.refl _, (congrArg Value.bool (decide_eq_false HM.out.1.2))⟩, fun hn => absurd (hd.2.2.1 rfl) hn⟩
  · intro u w hR hd; exact runs_or2 (ev (hd.1 rfl)) (fun hb => ev ((hd.2.1 rfl))) ⟨Grew.refl _, rfl⟩
  · intro u w hR hd; exact runs_mv (ev (hd.1 rfl)) ⟨Grew.refl _, rfl⟩
  · intro u w hR hd; exact ⟨fun _ => runs_mv (ev rfl) ⟨Grew.refl _, rfl⟩, fun hn => absurd (hd.1 rfl) hn⟩
  · intro u w hR hd; exact ⟨fun _ => rn_nil (ev (hd.1 rfl)) ⟨Grew.refl _, rfl⟩, fun hn => absurd (hd.2.1 rfl) hn⟩
  · intro u w hR hd; exact ⟨fun _ => rn_fld_28_11 (ev (hd.1 rfl)) ⟨Grew.refl _, rfl⟩, fun hn => absurd (hd.2.1 rfl) hn⟩
  · intro u w hR hd; exact ⟨fun _ => rn_ld_26 (ev (hd.1 rfl)) (i11.kept hR) ⟨Grew.refl _, rfl⟩, fun hn => absurd (hd.2.1 rfl) hn⟩
  · intro u w hR hd; exact ⟨fun _ => runs_mv (ev rfl) ⟨Grew.refl _, rfl⟩, fun hn => absurd (hd.1 rfl) hn⟩
  · intro u w hR hd; exact ⟨fun _ => rn_nil (ev (hd.1 rfl)) ⟨Grew.refl _, rfl⟩, fun hn => absurd (hd.2.1 rfl) hn⟩
  · intro u w hR hd; exact ⟨fun _ => rn_fld_43_0 (ev (hd.1 rfl)) ⟨Grew.refl _, rfl⟩, fun hn => absurd (hd.2.1 rfl) hn⟩
  · intro u w hR hd; exact ⟨fun _ => rn_ld_3 (ev (hd.1 rfl)) (s0.kept hR) ⟨Grew.refl _, rfl⟩, fun hn => absurd (hd.2.1 rfl) hn⟩
  · intro u w hR hd; exact ⟨fun _ => rn_idx_26 (m) (ev (hd.1 rfl)) (ev (hd.2.1 rfl)) (by have := HM.out; omega) ⟨Grew.refl _, rfl⟩, fun hn => absurd (hd.2.2.1 rfl) hn⟩
  · intro u w hR hd; exact ⟨fun _ => rn_ld_72 (ev (hd.1 rfl)) (k0.kept hR) (k1.kept hR) (k2.kept hR) (k3.kept hR) (k4.kept hR) ⟨Grew.refl _, rfl⟩, fun hn => absurd (hd.2.1 rfl) hn⟩
  · intro u w hR hd; exact ⟨fun _ => runs_c1 enters_va (ev (hd.1 rfl)) (callp (fun _ e => e) (valid_is x _ true HV.out (HED.grew hR).ops)), fun hn => absurd (hd.2.1 rfl) hn⟩
  · intro u w hR hd; exact ⟨fun _ => runs_nt (ev (hd.1 rfl)) ⟨Grew.refl _, rfl⟩, fun hn => absurd (hd.2.1 rfl) hn⟩
  · intro u w hR hd; exact runs_or2 (ev (hd.1 rfl)) (fun hb => ev ((hd.2.1 rfl))) ⟨Grew.refl _, rfl⟩
  intro u w1 hR1 h
  have he : u 41 = .bool false := h 30 (by decide)
  simp only [mixA, mixL, zz9, zz0]
  rw [he]
  have hg1 := (Grew.refl w).drw.trans hR1
  clear h he i11 k0 k1 k2 k3 k4 s0 HED
  replace hP := hP.grew hg1
  replace hb := hb.grew hg1
  replace hk0 := hk0.grew hg1
  replace hk1 := hk1.grew hg1
  replace hk2 := hk2.grew hg1
  replace hk3 := hk3.grew hg1
  replace hk4 := hk4.grew hg1
  go_upto_region 3 with fail
  have s0 : Atv ⟨c, 0, none⟩ (.int .i64 ((m : Nat) : Int)) w1.drew := HPC.out ▸ (hP.cpu.grew (Grew.refl _).drw).atv 0 rfl
  have i11 : Atv ⟨p, 11, none⟩ (.slice (some ⟨kb, ko, none⟩) I.code.length kc) w1.drew := (hb.grew (Grew.refl _).drw).atv 11 rfl
  have k0 : Atv ⟨kb, ko + m * 5, none⟩ (.int .i64 x.op) w1.drew := Atv.grew (w := w1) (hk0) (Grew.refl _).drw
  have k1 : Atv ⟨kb, ko + m * 5 + 1, none⟩ (.int .i64 x.a) w1.drew := Atv.grew (w := w1) (hk1) (Grew.refl _).drw
  have k2 : Atv ⟨kb, ko + m * 5 + 2, none⟩ (.int .i64 x.b) w1.drew := Atv.grew (w := w1) (hk2) (Grew.refl _).drw
  have k3 : Atv ⟨kb, ko + m * 5 + 3, none⟩ (.int .i64 x.c) w1.drew := Atv.grew (w := w1) (hk3) (Grew.refl _).drw
  have k4 : Atv ⟨kb, ko + m * 5 + 4, none⟩ (.int .i16 x.i) w1.drew := Atv.grew (w := w1) (hk4) (Grew.refl _).drw
  have hB : Grew w1 w1.drew := (Grew.refl _).drw
  refine wp_grew_tail 11 [some 42, some 43, some 44, some 45, some 46, some 47, some 48, some 49, some 50, some 51, some 7] zD8 [fun v _ => v = .pointer (some ⟨p, 0, none⟩), fun v _ => v = .pointer (some ⟨p, 0, none⟩), fun v _ => v = .pointer (some ⟨p, 11, none⟩), fun v _ => v = .slice (some ⟨kb, ko, none⟩) (I.code.length) (kc), fun v _ => v = .pointer (some ⟨c, 0, none⟩), fun v _ => v = .pointer (some ⟨c, 0, none⟩), fun v _ => v = .pointer (some ⟨c, 0, none⟩), fun v _ => v = .int .i64 (((m : Nat) : Int)), fun v _ => v = .pointer (some ⟨kb, ko + m * 5, none⟩), fun v _ => v = .agg #[.int .i64 (x.op), .int .i64 (x.a), .int .i64 (x.b), .int .i64 (x.c), .int .i16 (x.i)], fun v w => ∃ S, v = .pointer (some ⟨S, 0, none⟩) ∧ w1.heap.size ≤ S ∧ Blk S [.int .i64 (0), .int .i64 (0), .int .i64 (0), .int .i64 (0), .int .i16 (0)] 72 w] (by kernel_rfl) (by kernel_rfl) (by kernel_rfl) rfl ?_ ⟨?_, ?_, ?_, ?_, ?_, ?_, ?_, ?_, ?_, ?_, ?_, trivial⟩ ?_
  · exact ⟨fun _ _ _ _ h => h, fun _ _ _ _ h => h, fun _ _ _ _ h => h, fun _ _ _ _ h => h, fun _ _ _ _ h => h, fun _ _ _ _ h => h, fun _ _ _ _ h => h, fun _ _ _ _ h => h, fun _ _ _ _ h => h, fun _ _ _ _ h => h, fun _ _ _ hg ⟨S, h1, h2, h3⟩ => ⟨S, h1, h2, h3.grew hg⟩, trivial⟩
  · intro u w hR hd; exact runs_mv (ev rfl) ⟨Grew.refl _, rfl⟩
  · intro u w hR hd; exact rn_nil (ev (hd.1 rfl)) ⟨Grew.refl _, rfl⟩
  · intro u w hR hd; exact rn_fld_28_11 (ev (hd.1 rfl)) ⟨Grew.refl _, rfl⟩
  · intro u w hR hd; exact rn_ld_26 (ev (hd.1 rfl)) (i11.kept hR) ⟨Grew.refl _, rfl⟩
  · intro u w hR hd; exact runs_mv (ev rfl) ⟨Grew.refl _, rfl⟩
  · intro u w hR hd; exact rn_nil (ev (hd.1 rfl)) ⟨Grew.refl _, rfl⟩
  · intro u w hR hd; exact rn_fld_43_0 (ev (hd.1 rfl)) ⟨Grew.refl _, rfl⟩
  · intro u w hR hd; exact rn_ld_3 (ev (hd.1 rfl)) (s0.kept hR) ⟨Grew.refl _, rfl⟩
  · intro u w hR hd; exact rn_idx_26 (m) (ev (hd.1 rfl)) (ev (hd.2.1 rfl)) (by have := HM.out.2; omega) ⟨Grew.refl _, rfl⟩
  · intro u w hR hd; exact rn_ld_72 (ev (hd.1 rfl)) (k0.kept hR) (k1.kept hR) (k2.kept hR) (k3.kept hR) (k4.kept hR) ⟨Grew.refl _, rfl⟩
  · intro u w hR hd; exact rn_alloc_72 ⟨(Grew.refl _).alloc _, ⟨_, rfl, Nat.le_trans hB.size hR.size, heap_alloc_new _ _⟩⟩
  intro u3 w2 hR3 h
  obtain ⟨K, h7, hKw, hK⟩ := h 10 (by decide)
  have h51 : u3 51 = cdV x := h 9 (by decide)
  refine wpAny_one (i := 11) none (by kernel_rfl) rfl rfl rfl (rn_st_72 (S := K) (o := 0) (ev h7) (ev h51) (hK.atv 0 rfl) (hK.atv 1 rfl) (hK.atv 2 rfl) (hK.atv 3 rfl) (hK.atv 4 rfl) hK.free ?_)
  refine wpAny_done (by kernel_rfl) ?_ _
  have hg2 : Grew w w2 := (hg1.trans hB).trans hR3
  have hKw2 : w.heap.size ≤ K := Nat.le_trans hg1.sz hKw
  have hK3 := ((((hK.set 0 (.int .i64 x.op)).set 1 (.int .i64 x.a)).set 2 (.int .i64 x.b)).set 3 (.int .i64 x.c)).set 4 (.int .i16 x.i)
  have hg3 := ((((hg2.sc hKw2 0 (.int .i64 x.op)).sc hKw2 1 (.int .i64 x.a)).sc hKw2 2 (.int .i64 x.b)).sc hKw2 3 (.int .i64 x.c)).sc hKw2 4 (.int .i16 x.i)
  simp only [Act.put, mixA, mixL, zz9, zz0, zz4, zz6, zz5]
  simp only [zz6, zz5] at hK3
  have h7' : u3 7 = .pointer (some ⟨K, 0, none⟩) := h7
  rw [h7']
  generalize hW : World.setCell (World.setCell (World.setCell (World.setCell (World.setCell w2 _ _) _ _) _ _) _ _) _ _ = w3
  have hK3 : Blk K (cdv x) 72 w3 := hW ▸ hK3
  have hg3 : Grew w w3 := hW ▸ hg3
  clear hW h h7 h7' h51 hK hg2 hR3 hB hg1 hR1 hKw i11 k0 k1 k2 k3 k4 s0 hP hb hk0 hk1 hk2 hk3 hk4
  have HP := Lib.hid ((Pf.start HP0.out HBUS.out).grew hg3)
  have HI3 := Lib.hid (HI.out.grew hg3)
  have HE3 := Lib.hid (HE0.out.grew hg3)
  have HK := Lib.hid hK3
  have k0 := hK3.cell 0
  have k1 := hK3.cell 1
  have k2 := hK3.cell 2
  have k3 := hK3.cell 3
  have k4 := hK3.cell 4
  simp only [zz7, zz8] at k0 k1 k2 k3 k4
  clear hK3
  go_wp2_with (go_at_call 26; (with_reducible refine (opnd_any x HV.out HIX.out I s N c p _ HP.out.cpu HS.out HI3.out HIo.out HE3.out).mono ?_); rintro e w4 ⟨rfl, g4⟩; rw [HO.out]; clear k0 k1 k2 k3 k4; replace HP := Lib.hid (HP.out.grew g4); replace HI3 := Lib.hid (HI3.out.grew g4); replace HE3 := Lib.hid (HE3.out.grew g4); have hK3 := HK.out.grew g4; clear HK; have HK := Lib.hid hK3; have HG4 := Lib.hid (hg3.trans g4); clear hg3 g4 hK3)
  go_ret
  exact ⟨rfl, HP.out⟩
set_option maxHeartbeats 4000000 in
theorem step_go_no (I : Im) (s : St) (W : Wd) (N c p q : Nat) (S : Nat → Prop) (w : World) (hcb : Blk c (stv s) CPT w) (hbus : Bus N w q W S) (hIm : ImgAt N w p I) (hIo : I.Ok) (hE : EnvN N w) (hs : s.Ok) (hl : W.cs.length ≤ 70000) (hN : N ≤ w.heap.size) (hNc : N ≤ c) (x : Cd) (hx : I.at s.pc = some x) (hv : valid x = true) (hWo : W.Ok) (hi : I16 x.i) (r : Bool × St × Wd) (hrr : exe x (opnd x s I).1 s W = r) (hr : r.1 = false) (ho : (opnd x s I).2 = true) :
    Calls Tryd.prog 14 #[.pointer (some ⟨c, 0, none⟩), .pointer (some ⟨p, 0, none⟩), (.iface 47 (.pointer (some ⟨q, 0, none⟩)))] w fun e w' => e = .returned (.int .i64 4) ∧ Pf CPT N c q S s r.2.2 w w' := by
  have hIm0 := hIm
  have HP0 := Lib.hid hcb
  have HE0 := Lib.hid hE
  obtain ⟨m, hpc, hml, hmx⟩ := Im.at_some hx
  obtain ⟨rr, gp, ap, kp, hp, gc, ac, kc, hc', hb, hR⟩ := hIm
  obtain ⟨kb, ko, rfl, hkc⟩ := hR.code.cells (by omega)
  have hk0 : Atv ⟨kb, ko + m * 5, none⟩ (.int .i64 x.op) w := hkc m x hmx 0 _ rfl
  have hk1 : Atv ⟨kb, ko + m * 5 + 1, none⟩ (.int .i64 x.a) w := hkc m x hmx 1 _ rfl
  have hk2 : Atv ⟨kb, ko + m * 5 + 2, none⟩ (.int .i64 x.b) w := hkc m x hmx 2 _ rfl
  have hk3 : Atv ⟨kb, ko + m * 5 + 3, none⟩ (.int .i64 x.c) w := hkc m x hmx 3 _ rfl
  have hk4 : Atv ⟨kb, ko + m * 5 + 4, none⟩ (.int .i16 x.i) w := hkc m x hmx 4 _ rfl
  have HV := Lib.hid hv
  have HM : Hid ((¬ ((m : Nat) : Int) < 0 ∧ ¬ (I.code.length : Int) ≤ ((m : Nat) : Int)) ∧ m < I.code.length) := Lib.hid ⟨⟨by omega, by omega⟩, hml⟩
  have HPC : Hid (s.pc = (m : Int)) := Lib.hid hpc
  have hP := Pf.start hcb hbus
  have HED := hE.grew (Grew.refl w).drw
  have HI := Lib.hid hIm0
  have HIo := Lib.hid hIo
  have HS := Lib.hid hs
  have HIX := Lib.hid hi
  have HO := Lib.hid ho
  have HW := Lib.hid hWo
  have HR := Lib.hid hrr
  have HRB := Lib.hid hr
  clear hWo hrr hr
  have HL := Lib.hid hl
  have HN := Lib.hid hN
  have HNc := Lib.hid hNc
  have HBUS := Lib.hid hbus
  have HNE : Hid (p ≠ c) := Lib.hid (hIm0.ne hcb (by decide))
  have hcl := hcb.lt
  clear hcb hbus hE hs hl hN hNc hx hv hpc hml hmx hkc hIo hIm0 hi ho
  go_enter Tryd.func14, Tryd.ntmps14
  go_upto_region 1 with fail
  have s0 : Atv ⟨c, 0, none⟩ (.int .i64 ((m : Nat) : Int)) w.drew := HPC.out ▸ (hP.cpu.grew (Grew.refl _).drw).atv 0 rfl
  have i11 : Atv ⟨p, 11, none⟩ (.slice (some ⟨kb, ko, none⟩) I.code.length kc) w.drew := (hb.grew (Grew.refl _).drw).atv 11 rfl
  have k0 : Atv ⟨kb, ko + m * 5, none⟩ (.int .i64 x.op) w.drew := Atv.grew (w := w) (hk0) (Grew.refl _).drw
  have k1 : Atv ⟨kb, ko + m * 5 + 1, none⟩ (.int .i64 x.a) w.drew := Atv.grew (w := w) (hk1) (Grew.refl _).drw
  have k2 : Atv ⟨kb, ko + m * 5 + 2, none⟩ (.int .i64 x.b) w.drew := Atv.grew (w := w) (hk2) (Grew.refl _).drw
  have k3 : Atv ⟨kb, ko + m * 5 + 3, none⟩ (.int .i64 x.c) w.drew := Atv.grew (w := w) (hk3) (Grew.refl _).drw
  have k4 : Atv ⟨kb, ko + m * 5 + 4, none⟩ (.int .i16 x.i) w.drew := Atv.grew (w := w) (hk4) (Grew.refl _).drw
  refine wp_posts [some 11, some 12, some 13, some 14, some 15, some 16, some 17, some 18, some 19, some 20, some 21, some 22, some 23, some 24, some 25, some 26, some 27, some 28, some 29, some 30, some 31, some 32, some 33, some 34, some 35, some 36, some 37, some 38, some 39, some 40, some 41] zD5 [fun v _ => v = .pointer (some ⟨c, 0, none⟩), fun v _ => v = .pointer (some ⟨c, 0, none⟩), fun v _ => v = .pointer (some ⟨c, 0, none⟩), fun v _ => v = .int .i64 (((m : Nat) : Int)), fun v _ => v = .bool (false), fun v _ => v = .bool (false), fun v _ => v = .pointer (some ⟨c, 0, none⟩), fun v _ => v = .pointer (some ⟨c, 0, none⟩), fun v _ => v = .pointer (some ⟨c, 0, none⟩), fun v _ => v = .int .i64 (((m : Nat) : Int)), fun v _ => v = .pointer (some ⟨p, 0, none⟩), fun v _ => v = .pointer (some ⟨p, 0, none⟩), fun v _ => v = .pointer (some ⟨p, 11, none⟩), fun v _ => v = .slice (some ⟨kb, ko, none⟩) (I.code.length) (kc), fun v _ => v = .int .i64 (((I.code.length : Nat) : Int)), fun v _ => v = .bool (false), fun v _ => v = .bool (false), fun v _ => v = .bool (false), fun v _ => v = .pointer (some ⟨p, 0, none⟩), fun v _ => v = .pointer (some ⟨p, 0, none⟩), fun v _ => v = .pointer (some ⟨p, 11, none⟩), fun v _ => v = .slice (some ⟨kb, ko, none⟩) (I.code.length) (kc), fun v _ => v = .pointer (some ⟨c, 0, none⟩), fun v _ => v = .pointer (some ⟨c, 0, none⟩), fun v _ => v = .pointer (some ⟨c, 0, none⟩), fun v _ => v = .int .i64 (((m : Nat) : Int)), fun v _ => v = .pointer (some ⟨kb, ko + m * 5, none⟩), fun v _ => v = .agg #[.int .i64 (x.op), .int .i64 (x.a), .int .i64 (x.b), .int .i64 (x.c), .int .i16 (x.i)], fun v _ => v = .bool (true), fun v _ => v = .bool (false), fun v _ => v = .bool (false)] (by kernel_rfl) (by kernel_rfl) rfl ?_ ⟨?_, ?_, ?_, ?_, ?_, ?_, ?_, ?_, ?_, ?_, ?_, ?_, ?_, ?_, ?_, ?_, ?_, ?_, ?_, ?_, ?_, ?_, ?_, ?_, ?_, ?_, ?_, ?_, ?_, ?_, ?_, trivial⟩ ?_
  · exact ⟨fun _ _ _ _ h => h, fun _ _ _ _ h => h, fun _ _ _ _ h => h, fun _ _ _ _ h => h, fun _ _ _ _ h => h, fun _ _ _ _ h => h, fun _ _ _ _ h => h, fun _ _ _ _ h => h, fun _ _ _ _ h => h, fun _ _ _ _ h => h, fun _ _ _ _ h => h, fun _ _ _ _ h => h, fun _ _ _ _ h => h, fun _ _ _ _ h => h, fun _ _ _ _ h => h, fun _ _ _ _ h => h, fun _ _ _ _ h => h, fun _ _ _ _ h => h, fun _ _ _ _ h => h, fun _ _ _ _ h => h, fun _ _ _ _ h => h, fun _ _ _ _ h => h, fun _ _ _ _ h => h, fun _ _ _ _ h => h, fun _ _ _ _ h => h, fun _ _ _ _ h => h, fun _ _ _ _ h => h, fun _ _ _ _ h => h, fun _ _ _ _ h => h, fun _ _ _ _ h => h, fun _ _ _ _ h => h, trivial⟩
  · intro u w hR hd; exact runs_mv (ev rfl) ⟨Grew.refl _, rfl⟩
  · intro u w hR hd; exact rn_nil (ev (hd.1 rfl)) ⟨Grew.refl _, rfl⟩
  · intro u w hR hd; exact rn_fld_43_0 (ev (hd.1 rfl)) ⟨Grew.refl _, rfl⟩
  · intro u w hR hd; exact rn_ld_3 (ev (hd.1 rfl)) (s0.kept hR) ⟨Grew.refl _, rfl⟩
  · intro u w hR hd; exact rn_lss_3 (ev (hd.1 rfl)) rfl ⟨Grew.refl _, (congrArg Value.bool (decide_eq_false HM.out.1.1))⟩
  · intro u w hR hd; exact runs_mv (ev (hd.1 rfl)) ⟨Grew.refl _, rfl⟩
  · intro u w hR hd; exact ⟨fun _ => runs_mv (ev rfl) ⟨Grew.refl _, rfl⟩, fun hn => absurd (hd.1 rfl) hn⟩
  · intro u w hR hd; exact ⟨fun _ => rn_nil (ev (hd.1 rfl)) ⟨Grew.refl _, rfl⟩, fun hn => absurd (hd.2.1 rfl) hn⟩
  · intro u w hR hd; exact ⟨fun _ => rn_fld_43_0 (ev (hd.1 rfl)) ⟨Grew.refl _, rfl⟩, fun hn => absurd (hd.2.1 rfl) hn⟩
  · intro u w hR hd; exact ⟨fun _ => rn_ld_3 (ev (hd.1 rfl)) (s0.kept hR) ⟨Grew.refl _, rfl⟩, fun hn => absurd (hd.2.1 rfl) hn⟩
  · intro u w hR hd; exact ⟨fun _ => runs_mv (ev rfl) ⟨Grew.refl _, rfl⟩, fun hn => absurd (hd.1 rfl) hn⟩
  · intro u w hR hd; exact ⟨fun _ => rn_nil (ev (hd.1 rfl)) ⟨Grew.refl _, rfl⟩, fun hn => absurd (hd.2.1 rfl) hn⟩
  · intro u w hR hd; exact ⟨fun _ => rn_fld_28_11 (ev (hd.1 rfl)) ⟨Grew.refl _, rfl⟩, fun hn => absurd (hd.2.1 rfl) hn⟩
  · intro u w hR hd; exact ⟨fun _ => rn_ld_26 (ev (hd.1 rfl)) (i11.kept hR) ⟨Grew.refl _, rfl⟩, fun hn => absurd (hd.2.1 rfl) hn⟩
  · intro u w hR hd; exact ⟨fun _ => rn_len_26 (ev (hd.1 rfl)) ⟨Grew.refl _, rfl⟩, fun hn => absurd (hd.2.1 rfl) hn⟩
  · intro u w hR hd; exact ⟨fun _ => rn_geq_3 (ev (hd.1 rfl)) (ev (hd.2.1 rfl)) ⟨Grew.refl _, (congrArg Value.bool (decide_eq_false HM.out.1.2))⟩, fun hn => absurd (hd.2.2.1 rfl) hn⟩
  · intro u w hR hd; exact runs_or2 (ev (hd.1 rfl)) (fun hb => ev ((hd.2.1 rfl))) ⟨Grew.refl _, rfl⟩
  · intro u w hR hd; exact runs_mv (ev (hd.1 rfl)) ⟨Grew.refl _, rfl⟩
  · intro u w hR hd; exact ⟨fun _ => runs_mv (ev rfl) ⟨Grew.refl _, rfl⟩, fun hn => absurd (hd.1 rfl) hn⟩
  · intro u w hR hd; exact ⟨fun _ => rn_nil (ev (hd.1 rfl)) ⟨Grew.refl _, rfl⟩, fun hn => absurd (hd.2.1 rfl) hn⟩
  · intro u w hR hd; exact ⟨fun _ => rn_fld_28_11 (ev (hd.1 rfl)) ⟨Grew.refl _, rfl⟩, fun hn => absurd (hd.2.1 rfl) hn⟩
  · intro u w hR hd; exact ⟨fun _ => rn_ld_26 (ev (hd.1 rfl)) (i11.kept hR) ⟨Grew.refl _, rfl⟩, fun hn => absurd (hd.2.1 rfl) hn⟩
  · intro u w hR hd; exact ⟨fun _ => runs_mv (ev rfl) ⟨Grew.refl _, rfl⟩, fun hn => absurd (hd.1 rfl) hn⟩
  · intro u w hR hd; exact ⟨fun _ => rn_nil (ev (hd.1 rfl)) ⟨Grew.refl _, rfl⟩, fun hn => absurd (hd.2.1 rfl) hn⟩
  · intro u w hR hd; exact ⟨fun _ => rn_fld_43_0 (ev (hd.1 rfl)) ⟨Grew.refl _, rfl⟩, fun hn => absurd (hd.2.1 rfl) hn⟩
  · intro u w hR hd; exact ⟨fun _ => rn_ld_3 (ev (hd.1 rfl)) (s0.kept hR) ⟨Grew.refl _, rfl⟩, fun hn => absurd (hd.2.1 rfl) hn⟩
  · intro u w hR hd; exact ⟨fun _ => rn_idx_26 (m) (ev (hd.1 rfl)) (ev (hd.2.1 rfl)) (by have := HM.out; omega) ⟨Grew.refl _, rfl⟩, fun hn => absurd (hd.2.2.1 rfl) hn⟩
  · intro u w hR hd; exact ⟨fun _ => rn_ld_72 (ev (hd.1 rfl)) (k0.kept hR) (k1.kept hR) (k2.kept hR) (k3.kept hR) (k4.kept hR) ⟨Grew.refl _, rfl⟩, fun hn => absurd (hd.2.1 rfl) hn⟩
  · intro u w hR hd; exact ⟨fun _ => runs_c1 enters_va (ev (hd.1 rfl)) (callp (fun _ e => e) (valid_is x _ true HV.out (HED.grew hR).ops)), fun hn => absurd (hd.2.1 rfl) hn⟩
  · intro u w hR hd; exact ⟨fun _ => runs_nt (ev (hd.1 rfl)) ⟨Grew.refl _, rfl⟩, fun hn => absurd (hd.2.1 rfl) hn⟩
  · intro u w hR hd; exact runs_or2 (ev (hd.1 rfl)) (fun hb => ev ((hd.2.1 rfl))) ⟨Grew.refl _, rfl⟩
  intro u w1 hR1 h
  have he : u 41 = .bool false := h 30 (by decide)
  simp only [mixA, mixL, zz9, zz0]
  rw [he]
  have hg1 := (Grew.refl w).drw.trans hR1
  clear h he i11 k0 k1 k2 k3 k4 s0 HED
  replace hP := hP.grew hg1
  replace hb := hb.grew hg1
  replace hk0 := hk0.grew hg1
  replace hk1 := hk1.grew hg1
  replace hk2 := hk2.grew hg1
  replace hk3 := hk3.grew hg1
  replace hk4 := hk4.grew hg1
  go_upto_region 3 with fail
  have s0 : Atv ⟨c, 0, none⟩ (.int .i64 ((m : Nat) : Int)) w1.drew := HPC.out ▸ (hP.cpu.grew (Grew.refl _).drw).atv 0 rfl
  have i11 : Atv ⟨p, 11, none⟩ (.slice (some ⟨kb, ko, none⟩) I.code.length kc) w1.drew := (hb.grew (Grew.refl _).drw).atv 11 rfl
  have k0 : Atv ⟨kb, ko + m * 5, none⟩ (.int .i64 x.op) w1.drew := Atv.grew (w := w1) (hk0) (Grew.refl _).drw
  have k1 : Atv ⟨kb, ko + m * 5 + 1, none⟩ (.int .i64 x.a) w1.drew := Atv.grew (w := w1) (hk1) (Grew.refl _).drw
  have k2 : Atv ⟨kb, ko + m * 5 + 2, none⟩ (.int .i64 x.b) w1.drew := Atv.grew (w := w1) (hk2) (Grew.refl _).drw
  have k3 : Atv ⟨kb, ko + m * 5 + 3, none⟩ (.int .i64 x.c) w1.drew := Atv.grew (w := w1) (hk3) (Grew.refl _).drw
  have k4 : Atv ⟨kb, ko + m * 5 + 4, none⟩ (.int .i16 x.i) w1.drew := Atv.grew (w := w1) (hk4) (Grew.refl _).drw
  have hB : Grew w1 w1.drew := (Grew.refl _).drw
  refine wp_grew_tail 11 [some 42, some 43, some 44, some 45, some 46, some 47, some 48, some 49, some 50, some 51, some 7] zD8 [fun v _ => v = .pointer (some ⟨p, 0, none⟩), fun v _ => v = .pointer (some ⟨p, 0, none⟩), fun v _ => v = .pointer (some ⟨p, 11, none⟩), fun v _ => v = .slice (some ⟨kb, ko, none⟩) (I.code.length) (kc), fun v _ => v = .pointer (some ⟨c, 0, none⟩), fun v _ => v = .pointer (some ⟨c, 0, none⟩), fun v _ => v = .pointer (some ⟨c, 0, none⟩), fun v _ => v = .int .i64 (((m : Nat) : Int)), fun v _ => v = .pointer (some ⟨kb, ko + m * 5, none⟩), fun v _ => v = .agg #[.int .i64 (x.op), .int .i64 (x.a), .int .i64 (x.b), .int .i64 (x.c), .int .i16 (x.i)], fun v w => ∃ S, v = .pointer (some ⟨S, 0, none⟩) ∧ w1.heap.size ≤ S ∧ Blk S [.int .i64 (0), .int .i64 (0), .int .i64 (0), .int .i64 (0), .int .i16 (0)] 72 w] (by kernel_rfl) (by kernel_rfl) (by kernel_rfl) rfl ?_ ⟨?_, ?_, ?_, ?_, ?_, ?_, ?_, ?_, ?_, ?_, ?_, trivial⟩ ?_
  · exact ⟨fun _ _ _ _ h => h, fun _ _ _ _ h => h, fun _ _ _ _ h => h, fun _ _ _ _ h => h, fun _ _ _ _ h => h, fun _ _ _ _ h => h, fun _ _ _ _ h => h, fun _ _ _ _ h => h, fun _ _ _ _ h => h, fun _ _ _ _ h => h, fun _ _ _ hg ⟨S, h1, h2, h3⟩ => ⟨S, h1, h2, h3.grew hg⟩, trivial⟩
  · intro u w hR hd; exact runs_mv (ev rfl) ⟨Grew.refl _, rfl⟩
  · intro u w hR hd; exact rn_nil (ev (hd.1 rfl)) ⟨Grew.refl _, rfl⟩
  · intro u w hR hd; exact rn_fld_28_11 (ev (hd.1 rfl)) ⟨Grew.refl _, rfl⟩
  · intro u w hR hd; exact rn_ld_26 (ev (hd.1 rfl)) (i11.kept hR) ⟨Grew.refl _, rfl⟩
  · intro u w hR hd; exact runs_mv (ev rfl) ⟨Grew.refl _, rfl⟩
  · intro u w hR hd; exact rn_nil (ev (hd.1 rfl)) ⟨Grew.refl _, rfl⟩
  · intro u w hR hd; exact rn_fld_43_0 (ev (hd.1 rfl)) ⟨Grew.refl _, rfl⟩
  · intro u w hR hd; exact rn_ld_3 (ev (hd.1 rfl)) (s0.kept hR) ⟨Grew.refl _, rfl⟩
  · intro u w hR hd; exact rn_idx_26 (m) (ev (hd.1 rfl)) (ev (hd.2.1 rfl)) (by have := HM.out.2; omega) ⟨Grew.refl _, rfl⟩
  · intro u w hR hd; exact rn_ld_72 (ev (hd.1 rfl)) (k0.kept hR) (k1.kept hR) (k2.kept hR) (k3.kept hR) (k4.kept hR) ⟨Grew.refl _, rfl⟩
  · intro u w hR hd; exact rn_alloc_72 ⟨(Grew.refl _).alloc _, ⟨_, rfl, Nat.le_trans hB.size hR.size, heap_alloc_new _ _⟩⟩
  intro u3 w2 hR3 h
  obtain ⟨K, h7, hKw, hK⟩ := h 10 (by decide)
  have h51 : u3 51 = cdV x := h 9 (by decide)
  refine wpAny_one (i := 11) none (by kernel_rfl) rfl rfl rfl (rn_st_72 (S := K) (o := 0) (ev h7) (ev h51) (hK.atv 0 rfl) (hK.atv 1 rfl) (hK.atv 2 rfl) (hK.atv 3 rfl) (hK.atv 4 rfl) hK.free ?_)
  refine wpAny_done (by kernel_rfl) ?_ _
  have hg2 : Grew w w2 := (hg1.trans hB).trans hR3
  have hKw2 : w.heap.size ≤ K := Nat.le_trans hg1.sz hKw
  have hK3 := ((((hK.set 0 (.int .i64 x.op)).set 1 (.int .i64 x.a)).set 2 (.int .i64 x.b)).set 3 (.int .i64 x.c)).set 4 (.int .i16 x.i)
  have hg3 := ((((hg2.sc hKw2 0 (.int .i64 x.op)).sc hKw2 1 (.int .i64 x.a)).sc hKw2 2 (.int .i64 x.b)).sc hKw2 3 (.int .i64 x.c)).sc hKw2 4 (.int .i16 x.i)
  simp only [Act.put, mixA, mixL, zz9, zz0, zz4, zz6, zz5]
  simp only [zz6, zz5] at hK3
  have h7' : u3 7 = .pointer (some ⟨K, 0, none⟩) := h7
  rw [h7']
  generalize hW : World.setCell (World.setCell (World.setCell (World.setCell (World.setCell w2 _ _) _ _) _ _) _ _) _ _ = w3
  have hK3 : Blk K (cdv x) 72 w3 := hW ▸ hK3
  have hg3 : Grew w w3 := hW ▸ hg3
  clear hW h h7 h7' h51 hK hg2 hR3 hB hg1 hR1 hKw i11 k0 k1 k2 k3 k4 s0 hP hb hk0 hk1 hk2 hk3 hk4
  have HP := Lib.hid ((Pf.start HP0.out HBUS.out).grew hg3)
  have HI3 := Lib.hid (HI.out.grew hg3)
  have HE3 := Lib.hid (HE0.out.grew hg3)
  have HK := Lib.hid hK3
  have k0 := hK3.cell 0
  have k1 := hK3.cell 1
  have k2 := hK3.cell 2
  have k3 := hK3.cell 3
  have k4 := hK3.cell 4
  simp only [zz7, zz8] at k0 k1 k2 k3 k4
  clear hK3
  go_upto_region 7 with (go_at_call 26; (with_reducible refine (opnd_any x HV.out HIX.out I s N c p _ HP.out.cpu HS.out HI3.out HIo.out HE3.out).mono ?_); rintro e w4 ⟨rfl, g4⟩; rw [HO.out]; clear k0 k1 k2 k3 k4; replace HP := Lib.hid (HP.out.grew g4); replace HI3 := Lib.hid (HI3.out.grew g4); replace HE3 := Lib.hid (HE3.out.grew g4); have hK3 := HK.out.grew g4; clear HK; have HK := Lib.hid hK3; have HG4 := Lib.hid (hg3.trans g4); clear hg3 g4 hK3)
  have HKL : Hid (K < w4.heap.size) := Lib.hid HK.out.lt
  refine wp_region_list ?_
  refine wpList_runs rfl (some 61) rfl (runs_mv (ev rfl) ?_)
  refine wpList_runs rfl (some 62) rfl (rn_nil (ev rfl) ?_)
  refine load_st Tryd.underlying43 sizeC rfl (.tmp 62) rfl c rfl s HS.out HP.out.cpu ?_
  refine alloc_cpu rfl rfl fun w5 hB5 g5 => ?_
  refine store_st sizeC rfl (.tmp 10) (.tmp 63) rfl w4.heap.size rfl s zst HS.out zst_ok rfl hB5 fun w6 hB6 c6 => ?_
  have g6 : Grew w4 w6 := grew_lift g5 c6 fun k hk => by have e : k = w4.heap.size := hk; omega
  replace HP := Lib.hid (HP.out.grew g6)
  replace HI3 := Lib.hid (HI3.out.grew g6)
  replace HE3 := Lib.hid (HE3.out.grew g6)
  replace HK := Lib.hid (HK.out.grew g6)
  have HB6 := Lib.hid hB6
  have HZ4 : Hid (w.heap.size ≤ w4.heap.size) := Lib.hid HG4.out.sz
  have HZ6 : Hid (w.heap.size ≤ w6.heap.size) := Lib.hid (HG4.out.trans g6).sz
  have HKB0 : Hid (K ≠ w4.heap.size) := Lib.hid (by have := HKL.out; omega)
  generalize w4.heap.size = B at HB6 HZ4 hB5 hB6 c6 HKB0 ⊢
  clear hB5 g5 hB6 c6 g6 HG4
  simp only [zz1, zz2, zz3, Act.put, mixA, mixL, zz9, zz0, zz4, zz5, zz6]
  have k0 := HK.out.cell 0
  have k1 := HK.out.cell 1
  have k2 := HK.out.cell 2
  have k3 := HK.out.cell 3
  have k4 := HK.out.cell 4
  simp only [zz7, zz8] at k0 k1 k2 k3 k4
  have HSr : Hid r.2.1.Ok := Lib.hid (HR.out ▸ (exe_ok x (opnd x s I).1 HS.out HW.out).1)
  have HKB : Hid (K ≠ B) := Lib.hid HKB0.out
  have HNK : Hid (¬ K = c) := Lib.hid (by have := hKw2; omega)
  have HNEc : Hid (c ≠ B) := Lib.hid (by have := HZ4.out; omega)
  go_wp2_with (go_at_call 27; clear k0 k1 k2 k3 k4; obtain ⟨c7, S7, b7, m7⟩ := HP.out; (with_reducible refine (exec_any x HV.out (opnd x s I).1 (fun h => opnd_mem HO.out h) (fun h => opnd_fr HV.out h) N B q S7 s W _ HB6.out b7 HE3.out HS.out (Nat.le_trans HL.out (by decide)) (Nat.le_trans HN.out m7.size) (Nat.le_trans HN.out HZ4.out) (by rw [HPC.out]; have := HM.out.2; have := HIo.out.lc; omega)).mono ?_); rintro e w7 ⟨rfl, h7⟩; rw [HR.out] at h7 ⊢; rw [HRB.out]; have c8 := h7.other c7 (b7.aside c7) HNEc.out; have k8 := h7.other HK.out (b7.aside HK.out) (HKB.out); have hP7 := Pf.beside m7 c8 h7 HZ4.out; have hB7 := h7.cpu; clear HP HB6 HK c7 b7 m7 h7; have HP := Lib.hid hP7; have HB6 := Lib.hid hB7; have HK := Lib.hid k8; have k0 := k8.cell 0; have k1 := k8.cell 1; have k2 := k8.cell 2; have k3 := k8.cell 3; have k4 := k8.cell 4; simp only [zz7, zz8] at k0 k1 k2 k3 k4; clear c8 k8 hP7 hB7)
  go_ret
  exact ⟨rfl, HP.out⟩
set_option maxHeartbeats 4000000 in
theorem step_go_yes (I : Im) (s : St) (W : Wd) (N c p q : Nat) (S : Nat → Prop) (w : World) (hcb : Blk c (stv s) CPT w) (hbus : Bus N w q W S) (hIm : ImgAt N w p I) (hIo : I.Ok) (hE : EnvN N w) (hs : s.Ok) (hl : W.cs.length ≤ 70000) (hN : N ≤ w.heap.size) (hNc : N ≤ c) (x : Cd) (hx : I.at s.pc = some x) (hv : valid x = true) (hWo : W.Ok) (hi : I16 x.i) (r : Bool × St × Wd) (hrr : exe x (opnd x s I).1 s W = r) (hr : r.1 = true) (ho : (opnd x s I).2 = true) :
    Calls Tryd.prog 14 #[.pointer (some ⟨c, 0, none⟩), .pointer (some ⟨p, 0, none⟩), (.iface 47 (.pointer (some ⟨q, 0, none⟩)))] w fun e w' => e = .returned (.int .i64 (outc x.op)) ∧ Pf CPT N c q S r.2.1 r.2.2 w w' := by
  have hIm0 := hIm
  have HP0 := Lib.hid hcb
  have HE0 := Lib.hid hE
  obtain ⟨m, hpc, hml, hmx⟩ := Im.at_some hx
  obtain ⟨rr, gp, ap, kp, hp, gc, ac, kc, hc', hb, hR⟩ := hIm
  obtain ⟨kb, ko, rfl, hkc⟩ := hR.code.cells (by omega)
  have hk0 : Atv ⟨kb, ko + m * 5, none⟩ (.int .i64 x.op) w := hkc m x hmx 0 _ rfl
  have hk1 : Atv ⟨kb, ko + m * 5 + 1, none⟩ (.int .i64 x.a) w := hkc m x hmx 1 _ rfl
  have hk2 : Atv ⟨kb, ko + m * 5 + 2, none⟩ (.int .i64 x.b) w := hkc m x hmx 2 _ rfl
  have hk3 : Atv ⟨kb, ko + m * 5 + 3, none⟩ (.int .i64 x.c) w := hkc m x hmx 3 _ rfl
  have hk4 : Atv ⟨kb, ko + m * 5 + 4, none⟩ (.int .i16 x.i) w := hkc m x hmx 4 _ rfl
  have HV := Lib.hid hv
  have HM : Hid ((¬ ((m : Nat) : Int) < 0 ∧ ¬ (I.code.length : Int) ≤ ((m : Nat) : Int)) ∧ m < I.code.length) := Lib.hid ⟨⟨by omega, by omega⟩, hml⟩
  have HPC : Hid (s.pc = (m : Int)) := Lib.hid hpc
  have hP := Pf.start hcb hbus
  have HED := hE.grew (Grew.refl w).drw
  have HI := Lib.hid hIm0
  have HIo := Lib.hid hIo
  have HS := Lib.hid hs
  have HIX := Lib.hid hi
  have HO := Lib.hid ho
  have HW := Lib.hid hWo
  have HR := Lib.hid hrr
  have HRB := Lib.hid hr
  clear hWo hrr hr
  have HL := Lib.hid hl
  have HN := Lib.hid hN
  have HNc := Lib.hid hNc
  have HBUS := Lib.hid hbus
  have HNE : Hid (p ≠ c) := Lib.hid (hIm0.ne hcb (by decide))
  have hcl := hcb.lt
  clear hcb hbus hE hs hl hN hNc hx hv hpc hml hmx hkc hIo hIm0 hi ho
  go_enter Tryd.func14, Tryd.ntmps14
  go_upto_region 1 with fail
  have s0 : Atv ⟨c, 0, none⟩ (.int .i64 ((m : Nat) : Int)) w.drew := HPC.out ▸ (hP.cpu.grew (Grew.refl _).drw).atv 0 rfl
  have i11 : Atv ⟨p, 11, none⟩ (.slice (some ⟨kb, ko, none⟩) I.code.length kc) w.drew := (hb.grew (Grew.refl _).drw).atv 11 rfl
  have k0 : Atv ⟨kb, ko + m * 5, none⟩ (.int .i64 x.op) w.drew := Atv.grew (w := w) (hk0) (Grew.refl _).drw
  have k1 : Atv ⟨kb, ko + m * 5 + 1, none⟩ (.int .i64 x.a) w.drew := Atv.grew (w := w) (hk1) (Grew.refl _).drw
  have k2 : Atv ⟨kb, ko + m * 5 + 2, none⟩ (.int .i64 x.b) w.drew := Atv.grew (w := w) (hk2) (Grew.refl _).drw
  have k3 : Atv ⟨kb, ko + m * 5 + 3, none⟩ (.int .i64 x.c) w.drew := Atv.grew (w := w) (hk3) (Grew.refl _).drw
  have k4 : Atv ⟨kb, ko + m * 5 + 4, none⟩ (.int .i16 x.i) w.drew := Atv.grew (w := w) (hk4) (Grew.refl _).drw
  refine wp_posts [some 11, some 12, some 13, some 14, some 15, some 16, some 17, some 18, some 19, some 20, some 21, some 22, some 23, some 24, some 25, some 26, some 27, some 28, some 29, some 30, some 31, some 32, some 33, some 34, some 35, some 36, some 37, some 38, some 39, some 40, some 41] zD5 [fun v _ => v = .pointer (some ⟨c, 0, none⟩), fun v _ => v = .pointer (some ⟨c, 0, none⟩), fun v _ => v = .pointer (some ⟨c, 0, none⟩), fun v _ => v = .int .i64 (((m : Nat) : Int)), fun v _ => v = .bool (false), fun v _ => v = .bool (false), fun v _ => v = .pointer (some ⟨c, 0, none⟩), fun v _ => v = .pointer (some ⟨c, 0, none⟩), fun v _ => v = .pointer (some ⟨c, 0, none⟩), fun v _ => v = .int .i64 (((m : Nat) : Int)), fun v _ => v = .pointer (some ⟨p, 0, none⟩), fun v _ => v = .pointer (some ⟨p, 0, none⟩), fun v _ => v = .pointer (some ⟨p, 11, none⟩), fun v _ => v = .slice (some ⟨kb, ko, none⟩) (I.code.length) (kc), fun v _ => v = .int .i64 (((I.code.length : Nat) : Int)), fun v _ => v = .bool (false), fun v _ => v = .bool (false), fun v _ => v = .bool (false), fun v _ => v = .pointer (some ⟨p, 0, none⟩), fun v _ => v = .pointer (some ⟨p, 0, none⟩), fun v _ => v = .pointer (some ⟨p, 11, none⟩), fun v _ => v = .slice (some ⟨kb, ko, none⟩) (I.code.length) (kc), fun v _ => v = .pointer (some ⟨c, 0, none⟩), fun v _ => v = .pointer (some ⟨c, 0, none⟩), fun v _ => v = .pointer (some ⟨c, 0, none⟩), fun v _ => v = .int .i64 (((m : Nat) : Int)), fun v _ => v = .pointer (some ⟨kb, ko + m * 5, none⟩), fun v _ => v = .agg #[.int .i64 (x.op), .int .i64 (x.a), .int .i64 (x.b), .int .i64 (x.c), .int .i16 (x.i)], fun v _ => v = .bool (true), fun v _ => v = .bool (false), fun v _ => v = .bool (false)] (by kernel_rfl) (by kernel_rfl) rfl ?_ ⟨?_, ?_, ?_, ?_, ?_, ?_, ?_, ?_, ?_, ?_, ?_, ?_, ?_, ?_, ?_, ?_, ?_, ?_, ?_, ?_, ?_, ?_, ?_, ?_, ?_, ?_, ?_, ?_, ?_, ?_, ?_, trivial⟩ ?_
  · exact ⟨fun _ _ _ _ h => h, fun _ _ _ _ h => h, fun _ _ _ _ h => h, fun _ _ _ _ h => h, fun _ _ _ _ h => h, fun _ _ _ _ h => h, fun _ _ _ _ h => h, fun _ _ _ _ h => h, fun _ _ _ _ h => h, fun _ _ _ _ h => h, fun _ _ _ _ h => h, fun _ _ _ _ h => h, fun _ _ _ _ h => h, fun _ _ _ _ h => h, fun _ _ _ _ h => h, fun _ _ _ _ h => h, fun _ _ _ _ h => h, fun _ _ _ _ h => h, fun _ _ _ _ h => h, fun _ _ _ _ h => h, fun _ _ _ _ h => h, fun _ _ _ _ h => h, fun _ _ _ _ h => h, fun _ _ _ _ h => h, fun _ _ _ _ h => h, fun _ _ _ _ h => h, fun _ _ _ _ h => h, fun _ _ _ _ h => h, fun _ _ _ _ h => h, fun _ _ _ _ h => h, fun _ _ _ _ h => h, trivial⟩
  · intro u w hR hd; exact runs_mv (ev rfl) ⟨Grew.refl _, rfl⟩
  · intro u w hR hd; exact rn_nil (ev (hd.1 rfl)) ⟨Grew.refl _, rfl⟩
  · intro u w hR hd; exact rn_fld_43_0 (ev (hd.1 rfl)) ⟨Grew.refl _, rfl⟩
  · intro u w hR hd; exact rn_ld_3 (ev (hd.1 rfl)) (s0.kept hR) ⟨Grew.refl _, rfl⟩
  · intro u w hR hd; exact rn_lss_3 (ev (hd.1 rfl)) rfl ⟨Grew.refl _, (congrArg Value.bool (decide_eq_false HM.out.1.1))⟩
  · intro u w hR hd; exact runs_mv (ev (hd.1 rfl)) ⟨Grew.refl _, rfl⟩
  · intro u w hR hd; exact ⟨fun _ => runs_mv (ev rfl) ⟨Grew.refl _, rfl⟩, fun hn => absurd (hd.1 rfl) hn⟩
  · intro u w hR hd; exact ⟨fun _ => rn_nil (ev (hd.1 rfl)) ⟨Grew.refl _, rfl⟩, fun hn => absurd (hd.2.1 rfl) hn⟩
  · intro u w hR hd; exact ⟨fun _ => rn_fld_43_0 (ev (hd.1 rfl)) ⟨Grew.refl _, rfl⟩, fun hn => absurd (hd.2.1 rfl) hn⟩
  · intro u w hR hd; exact ⟨fun _ => rn_ld_3 (ev (hd.1 rfl)) (s0.kept hR) ⟨Grew.refl _, rfl⟩, fun hn => absurd (hd.2.1 rfl) hn⟩
  · intro u w hR hd; exact ⟨fun _ => runs_mv (ev rfl) ⟨Grew.refl _, rfl⟩, fun hn => absurd (hd.1 rfl) hn⟩
  · intro u w hR hd; exact ⟨fun _ => rn_nil (ev (hd.1 rfl)) ⟨Grew.refl _, rfl⟩, fun hn => absurd (hd.2.1 rfl) hn⟩
  · intro u w hR hd; exact ⟨fun _ => rn_fld_28_11 (ev (hd.1 rfl)) ⟨Grew.refl _, rfl⟩, fun hn => absurd (hd.2.1 rfl) hn⟩
  · intro u w hR hd; exact ⟨fun _ => rn_ld_26 (ev (hd.1 rfl)) (i11.kept hR) ⟨Grew.refl _, rfl⟩, fun hn => absurd (hd.2.1 rfl) hn⟩
  · intro u w hR hd; exact ⟨fun _ => rn_len_26 (ev (hd.1 rfl)) ⟨Grew.refl _, rfl⟩, fun hn => absurd (hd.2.1 rfl) hn⟩
  · intro u w hR hd; exact ⟨fun _ => rn_geq_3 (ev (hd.1 rfl)) (ev (hd.2.1 rfl)) ⟨Grew.refl _, (congrArg Value.bool (decide_eq_false HM.out.1.2))⟩, fun hn => absurd (hd.2.2.1 rfl) hn⟩
  · intro u w hR hd; exact runs_or2 (ev (hd.1 rfl)) (fun hb => ev ((hd.2.1 rfl))) ⟨Grew.refl _, rfl⟩
  · intro u w hR hd; exact runs_mv (ev (hd.1 rfl)) ⟨Grew.refl _, rfl⟩
  · intro u w hR hd; exact ⟨fun _ => runs_mv (ev rfl) ⟨Grew.refl _, rfl⟩, fun hn => absurd (hd.1 rfl) hn⟩
  · intro u w hR hd; exact ⟨fun _ => rn_nil (ev (hd.1 rfl)) ⟨Grew.refl _, rfl⟩, fun hn => absurd (hd.2.1 rfl) hn⟩
  · intro u w hR hd; exact ⟨fun _ => rn_fld_28_11 (ev (hd.1 rfl)) ⟨Grew.refl _, rfl⟩, fun hn => absurd (hd.2.1 rfl) hn⟩
  · intro u w hR hd; exact ⟨fun _ => rn_ld_26 (ev (hd.1 rfl)) (i11.kept hR) ⟨Grew.refl _, rfl⟩, fun hn => absurd (hd.2.1 rfl) hn⟩
  · intro u w hR hd; exact ⟨fun _ => runs_mv (ev rfl) ⟨Grew.refl _, rfl⟩, fun hn => absurd (hd.1 rfl) hn⟩
  · intro u w hR hd; exact ⟨fun _ => rn_nil (ev (hd.1 rfl)) ⟨Grew.refl _, rfl⟩, fun hn => absurd (hd.2.1 rfl) hn⟩
  · intro u w hR hd; exact ⟨fun _ => rn_fld_43_0 (ev (hd.1 rfl)) ⟨Grew.refl _, rfl⟩, fun hn => absurd (hd.2.1 rfl) hn⟩
  · intro u w hR hd; exact ⟨fun _ => rn_ld_3 (ev (hd.1 rfl)) (s0.kept hR) ⟨Grew.refl _, rfl⟩, fun hn => absurd (hd.2.1 rfl) hn⟩
  · intro u w hR hd; exact ⟨fun _ => rn_idx_26 (m) (ev (hd.1 rfl)) (ev (hd.2.1 rfl)) (by have := HM.out; omega) ⟨Grew.refl _, rfl⟩, fun hn => absurd (hd.2.2.1 rfl) hn⟩
  · intro u w hR hd; exact ⟨fun _ => rn_ld_72 (ev (hd.1 rfl)) (k0.kept hR) (k1.kept hR) (k2.kept hR) (k3.kept hR) (k4.kept hR) ⟨Grew.refl _, rfl⟩, fun hn => absurd (hd.2.1 rfl) hn⟩
  · intro u w hR hd; exact ⟨fun _ => runs_c1 enters_va (ev (hd.1 rfl)) (callp (fun _ e => e) (valid_is x _ true HV.out (HED.grew hR).ops)), fun hn => absurd (hd.2.1 rfl) hn⟩
  · intro u w hR hd; exact ⟨fun _ => runs_nt (ev (hd.1 rfl)) ⟨Grew.refl _, rfl⟩, fun hn => absurd (hd.2.1 rfl) hn⟩
  · intro u w hR hd; exact runs_or2 (ev (hd.1 rfl)) (fun hb => ev ((hd.2.1 rfl))) ⟨Grew.refl _, rfl⟩
  intro u w1 hR1 h
  have he : u 41 = .bool false := h 30 (by decide)
  simp only [mixA, mixL, zz9, zz0]
  rw [he]
  have hg1 := (Grew.refl w).drw.trans hR1
  clear h he i11 k0 k1 k2 k3 k4 s0 HED
  replace hP := hP.grew hg1
  replace hb := hb.grew hg1
  replace hk0 := hk0.grew hg1
  replace hk1 := hk1.grew hg1
  replace hk2 := hk2.grew hg1
  replace hk3 := hk3.grew hg1
  replace hk4 := hk4.grew hg1
  go_upto_region 3 with fail
  have s0 : Atv ⟨c, 0, none⟩ (.int .i64 ((m : Nat) : Int)) w1.drew := HPC.out ▸ (hP.cpu.grew (Grew.refl _).drw).atv 0 rfl
  have i11 : Atv ⟨p, 11, none⟩ (.slice (some ⟨kb, ko, none⟩) I.code.length kc) w1.drew := (hb.grew (Grew.refl _).drw).atv 11 rfl
  have k0 : Atv ⟨kb, ko + m * 5, none⟩ (.int .i64 x.op) w1.drew := Atv.grew (w := w1) (hk0) (Grew.refl _).drw
  have k1 : Atv ⟨kb, ko + m * 5 + 1, none⟩ (.int .i64 x.a) w1.drew := Atv.grew (w := w1) (hk1) (Grew.refl _).drw
  have k2 : Atv ⟨kb, ko + m * 5 + 2, none⟩ (.int .i64 x.b) w1.drew := Atv.grew (w := w1) (hk2) (Grew.refl _).drw
  have k3 : Atv ⟨kb, ko + m * 5 + 3, none⟩ (.int .i64 x.c) w1.drew := Atv.grew (w := w1) (hk3) (Grew.refl _).drw
  have k4 : Atv ⟨kb, ko + m * 5 + 4, none⟩ (.int .i16 x.i) w1.drew := Atv.grew (w := w1) (hk4) (Grew.refl _).drw
  have hB : Grew w1 w1.drew := (Grew.refl _).drw
  refine wp_grew_tail 11 [some 42, some 43, some 44, some 45, some 46, some 47, some 48, some 49, some 50, some 51, some 7] zD8 [fun v _ => v = .pointer (some ⟨p, 0, none⟩), fun v _ => v = .pointer (some ⟨p, 0, none⟩), fun v _ => v = .pointer (some ⟨p, 11, none⟩), fun v _ => v = .slice (some ⟨kb, ko, none⟩) (I.code.length) (kc), fun v _ => v = .pointer (some ⟨c, 0, none⟩), fun v _ => v = .pointer (some ⟨c, 0, none⟩), fun v _ => v = .pointer (some ⟨c, 0, none⟩), fun v _ => v = .int .i64 (((m : Nat) : Int)), fun v _ => v = .pointer (some ⟨kb, ko + m * 5, none⟩), fun v _ => v = .agg #[.int .i64 (x.op), .int .i64 (x.a), .int .i64 (x.b), .int .i64 (x.c), .int .i16 (x.i)], fun v w => ∃ S, v = .pointer (some ⟨S, 0, none⟩) ∧ w1.heap.size ≤ S ∧ Blk S [.int .i64 (0), .int .i64 (0), .int .i64 (0), .int .i64 (0), .int .i16 (0)] 72 w] (by kernel_rfl) (by kernel_rfl) (by kernel_rfl) rfl ?_ ⟨?_, ?_, ?_, ?_, ?_, ?_, ?_, ?_, ?_, ?_, ?_, trivial⟩ ?_
  · exact ⟨fun _ _ _ _ h => h, fun _ _ _ _ h => h, fun _ _ _ _ h => h, fun _ _ _ _ h => h, fun _ _ _ _ h => h, fun _ _ _ _ h => h, fun _ _ _ _ h => h, fun _ _ _ _ h => h, fun _ _ _ _ h => h, fun _ _ _ _ h => h, fun _ _ _ hg ⟨S, h1, h2, h3⟩ => ⟨S, h1, h2, h3.grew hg⟩, trivial⟩
  · intro u w hR hd; exact runs_mv (ev rfl) ⟨Grew.refl _, rfl⟩
  · intro u w hR hd; exact rn_nil (ev (hd.1 rfl)) ⟨Grew.refl _, rfl⟩
  · intro u w hR hd; exact rn_fld_28_11 (ev (hd.1 rfl)) ⟨Grew.refl _, rfl⟩
  · intro u w hR hd; exact rn_ld_26 (ev (hd.1 rfl)) (i11.kept hR) ⟨Grew.refl _, rfl⟩
  · intro u w hR hd; exact runs_mv (ev rfl) ⟨Grew.refl _, rfl⟩
  · intro u w hR hd; exact rn_nil (ev (hd.1 rfl)) ⟨Grew.refl _, rfl⟩
  · intro u w hR hd; exact rn_fld_43_0 (ev (hd.1 rfl)) ⟨Grew.refl _, rfl⟩
  · intro u w hR hd; exact rn_ld_3 (ev (hd.1 rfl)) (s0.kept hR) ⟨Grew.refl _, rfl⟩
  · intro u w hR hd; exact rn_idx_26 (m) (ev (hd.1 rfl)) (ev (hd.2.1 rfl)) (by have := HM.out.2; omega) ⟨Grew.refl _, rfl⟩
  · intro u w hR hd; exact rn_ld_72 (ev (hd.1 rfl)) (k0.kept hR) (k1.kept hR) (k2.kept hR) (k3.kept hR) (k4.kept hR) ⟨Grew.refl _, rfl⟩
  · intro u w hR hd; exact rn_alloc_72 ⟨(Grew.refl _).alloc _, ⟨_, rfl, Nat.le_trans hB.size hR.size, heap_alloc_new _ _⟩⟩
  intro u3 w2 hR3 h
  obtain ⟨K, h7, hKw, hK⟩ := h 10 (by decide)
  have h51 : u3 51 = cdV x := h 9 (by decide)
  refine wpAny_one (i := 11) none (by kernel_rfl) rfl rfl rfl (rn_st_72 (S := K) (o := 0) (ev h7) (ev h51) (hK.atv 0 rfl) (hK.atv 1 rfl) (hK.atv 2 rfl) (hK.atv 3 rfl) (hK.atv 4 rfl) hK.free ?_)
  refine wpAny_done (by kernel_rfl) ?_ _
  have hg2 : Grew w w2 := (hg1.trans hB).trans hR3
  have hKw2 : w.heap.size ≤ K := Nat.le_trans hg1.sz hKw
  have hK3 := ((((hK.set 0 (.int .i64 x.op)).set 1 (.int .i64 x.a)).set 2 (.int .i64 x.b)).set 3 (.int .i64 x.c)).set 4 (.int .i16 x.i)
  have hg3 := ((((hg2.sc hKw2 0 (.int .i64 x.op)).sc hKw2 1 (.int .i64 x.a)).sc hKw2 2 (.int .i64 x.b)).sc hKw2 3 (.int .i64 x.c)).sc hKw2 4 (.int .i16 x.i)
  simp only [Act.put, mixA, mixL, zz9, zz0, zz4, zz6, zz5]
  simp only [zz6, zz5] at hK3
  have h7' : u3 7 = .pointer (some ⟨K, 0, none⟩) := h7
  rw [h7']
  generalize hW : World.setCell (World.setCell (World.setCell (World.setCell (World.setCell w2 _ _) _ _) _ _) _ _) _ _ = w3
  have hK3 : Blk K (cdv x) 72 w3 := hW ▸ hK3
  have hg3 : Grew w w3 := hW ▸ hg3
  clear hW h h7 h7' h51 hK hg2 hR3 hB hg1 hR1 hKw i11 k0 k1 k2 k3 k4 s0 hP hb hk0 hk1 hk2 hk3 hk4
  have HP := Lib.hid ((Pf.start HP0.out HBUS.out).grew hg3)
  have HI3 := Lib.hid (HI.out.grew hg3)
  have HE3 := Lib.hid (HE0.out.grew hg3)
  have HK := Lib.hid hK3
  have k0 := hK3.cell 0
  have k1 := hK3.cell 1
  have k2 := hK3.cell 2
  have k3 := hK3.cell 3
  have k4 := hK3.cell 4
  simp only [zz7, zz8] at k0 k1 k2 k3 k4
  clear hK3
  go_upto_region 7 with (go_at_call 26; (with_reducible refine (opnd_any x HV.out HIX.out I s N c p _ HP.out.cpu HS.out HI3.out HIo.out HE3.out).mono ?_); rintro e w4 ⟨rfl, g4⟩; rw [HO.out]; clear k0 k1 k2 k3 k4; replace HP := Lib.hid (HP.out.grew g4); replace HI3 := Lib.hid (HI3.out.grew g4); replace HE3 := Lib.hid (HE3.out.grew g4); have hK3 := HK.out.grew g4; clear HK; have HK := Lib.hid hK3; have HG4 := Lib.hid (hg3.trans g4); clear hg3 g4 hK3)
  have HKL : Hid (K < w4.heap.size) := Lib.hid HK.out.lt
  refine wp_region_list ?_
  refine wpList_runs rfl (some 61) rfl (runs_mv (ev rfl) ?_)
  refine wpList_runs rfl (some 62) rfl (rn_nil (ev rfl) ?_)
  refine load_st Tryd.underlying43 sizeC rfl (.tmp 62) rfl c rfl s HS.out HP.out.cpu ?_
  refine alloc_cpu rfl rfl fun w5 hB5 g5 => ?_
  refine store_st sizeC rfl (.tmp 10) (.tmp 63) rfl w4.heap.size rfl s zst HS.out zst_ok rfl hB5 fun w6 hB6 c6 => ?_
  have g6 : Grew w4 w6 := grew_lift g5 c6 fun k hk => by have e : k = w4.heap.size := hk; omega
  replace HP := Lib.hid (HP.out.grew g6)
  replace HI3 := Lib.hid (HI3.out.grew g6)
  replace HE3 := Lib.hid (HE3.out.grew g6)
  replace HK := Lib.hid (HK.out.grew g6)
  have HB6 := Lib.hid hB6
  have HZ4 : Hid (w.heap.size ≤ w4.heap.size) := Lib.hid HG4.out.sz
  have HZ6 : Hid (w.heap.size ≤ w6.heap.size) := Lib.hid (HG4.out.trans g6).sz
  have HKB0 : Hid (K ≠ w4.heap.size) := Lib.hid (by have := HKL.out; omega)
  generalize w4.heap.size = B at HB6 HZ4 hB5 hB6 c6 HKB0 ⊢
  clear hB5 g5 hB6 c6 g6 HG4
  simp only [zz1, zz2, zz3, Act.put, mixA, mixL, zz9, zz0, zz4, zz5, zz6]
  have k0 := HK.out.cell 0
  have k1 := HK.out.cell 1
  have k2 := HK.out.cell 2
  have k3 := HK.out.cell 3
  have k4 := HK.out.cell 4
  simp only [zz7, zz8] at k0 k1 k2 k3 k4
  have HSr : Hid r.2.1.Ok := Lib.hid (HR.out ▸ (exe_ok x (opnd x s I).1 HS.out HW.out).1)
  have HKB : Hid (K ≠ B) := Lib.hid HKB0.out
  have HNK : Hid (¬ K = c) := Lib.hid (by have := hKw2; omega)
  have HNEc : Hid (c ≠ B) := Lib.hid (by have := HZ4.out; omega)
  go_upto_region 10 with (go_at_call 27; clear k0 k1 k2 k3 k4; obtain ⟨c7, S7, b7, m7⟩ := HP.out; (with_reducible refine (exec_any x HV.out (opnd x s I).1 (fun h => opnd_mem HO.out h) (fun h => opnd_fr HV.out h) N B q S7 s W _ HB6.out b7 HE3.out HS.out (Nat.le_trans HL.out (by decide)) (Nat.le_trans HN.out m7.size) (Nat.le_trans HN.out HZ4.out) (by rw [HPC.out]; have := HM.out.2; have := HIo.out.lc; omega)).mono ?_); rintro e w7 ⟨rfl, h7⟩; rw [HR.out] at h7 ⊢; rw [HRB.out]; have c8 := h7.other c7 (b7.aside c7) HNEc.out; have k8 := h7.other HK.out (b7.aside HK.out) (HKB.out); have hP7 := Pf.beside m7 c8 h7 HZ4.out; have hB7 := h7.cpu; clear HP HB6 HK c7 b7 m7 h7; have HP := Lib.hid hP7; have HB6 := Lib.hid hB7; have HK := Lib.hid k8; have k0 := k8.cell 0; have k1 := k8.cell 1; have k2 := k8.cell 2; have k3 := k8.cell 3; have k4 := k8.cell 4; simp only [zz7, zz8] at k0 k1 k2 k3 k4; clear c8 k8 hP7 hB7)
  refine wp_region_list ?_
  refine wpList_runs rfl (some 69) rfl (runs_mv (ev rfl) ?_)
  refine load_st Tryd.underlying43 sizeC rfl (.tmp 10) rfl B rfl r.2.1 HSr.out HB6.out ?_
  refine wpList_runs rfl (some 71) rfl (rn_nil (ev rfl) ?_)
  refine store_st sizeC rfl (.tmp 71) (.tmp 70) rfl c rfl r.2.1 s HSr.out HS.out rfl HP.out.cpu fun w8 hc8 c8 => ?_
  have hP8 : Pf CPT N c q S r.2.1 r.2.2 w w8 := Pf.stored HP.out hc8 c8
  have hK8 : Blk K (cdv x) 72 w8 := HK.out.chg c8 (HNK.out)
  simp only [zz1, zz2, zz3, Act.put, mixA, mixL, zz9, zz0, zz4, zz5, zz6]
  clear k0 k1 k2 k3 k4 c8 hc8
  have k0 := hK8.cell 0
  simp only [zz7, zz8] at k0
  have HP8 := Lib.hid hP8
  clear hP8 hK8
  by_cases e1 : x.op = 1
  · have q1 : (x.op == 1) = true := by simpa using e1
    have HU := Lib.hid (show (2 : Int) = outc x.op from by unfold outc; rw [if_pos e1])
    clear e1
    go_wp2
    go_ret
    exact ⟨ret_i64 HU.out, HP8.out⟩
  · have q1 : (x.op == 1) = false := by simpa using e1
    by_cases e2 : x.op = 29
    · have q2 : (x.op == 29) = true := by simpa using e2
      have HU := Lib.hid (show (3 : Int) = outc x.op from by unfold outc; rw [if_neg e1, if_pos e2])
      clear e1 e2
      go_wp2
      go_ret
      exact ⟨ret_i64 HU.out, HP8.out⟩
    · have q2 : (x.op == 29) = false := by simpa using e2
      have HU := Lib.hid (show (1 : Int) = outc x.op from by unfold outc; rw [if_neg e1, if_neg e2])
      clear e1 e2
      go_wp2
      go_ret
      exact ⟨ret_i64 HU.out, HP8.out⟩
theorem step_any (I : Im) (s : St) (W : Wd) (N c p q : Nat) (S : Nat → Prop) (w : World) (hcb : Blk c (stv s) CPT w) (hbus : Bus N w q W S) (hIm : ImgAt N w p I) (hIo : I.Ok) (hE : EnvN N w) (hs : s.Ok) (hl : W.cs.length ≤ 70000) (hN : N ≤ w.heap.size) (hNc : N ≤ c) (hWo : W.Ok) :
    Calls Tryd.prog 14 #[.pointer (some ⟨c, 0, none⟩), .pointer (some ⟨p, 0, none⟩), (.iface 47 (.pointer (some ⟨q, 0, none⟩)))] w fun e w' => e = .returned (.int .i64 (step I s W).2.1) ∧ Pf CPT N c q S (step I s W).1 (step I s W).2.2 w w' := by
  unfold step
  cases hx : I.at s.pc with
  | none =>
    rcases Im.at_none hx with h | h
    · exact step_neg I s W N c p q S w hcb hbus hIm hIo hE hs hl hN hNc h
    · exact step_far I s W N c p q S w hcb hbus hIm hIo hE hs hl hN hNc h
  | some x =>
    simp only
    cases hv : valid x with
    | false =>
      rw [if_neg (by simp)]
      exact step_inv I s W N c p q S w hcb hbus hIm hIo hE hs hl hN hNc x hx hv
    | true =>
      obtain ⟨m, _, _, hm⟩ := Im.at_some hx
      have hi := hIo.code x (List.mem_of_getElem? hm)
      cases ho : (opnd x s I).2 with
      | false =>
        rw [if_neg (by simp)]
        exact step_bad I s W N c p q S w hcb hbus hIm hIo hE hs hl hN hNc x hx hv hi ho
      | true =>
        rw [if_pos (by simp)]
        rw [go1_exe]
        cases hr : (exe x (opnd x s I).1 s W).1 with
        | false => exact step_go_no I s W N c p q S w hcb hbus hIm hIo hE hs hl hN hNc x hx hv hWo hi _ rfl hr ho
        | true => exact step_go_yes I s W N c p q S w hcb hbus hIm hIo hE hs hl hN hNc x hx hv hWo hi _ rfl hr ho
end Go.Proofs.YtbhglpiiabpdjaaDoor
