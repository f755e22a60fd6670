/-
  LAYER 12 (cpu): perform for every valid instruction.
-/
import Derived.Test.YtbhglpiiabpdjaaDoorCpuPerfA
import Derived.Test.YtbhglpiiabpdjaaDoorCpuPerfB
import Derived.Test.YtbhglpiiabpdjaaDoorCpuPerfC
import Derived.Test.YtbhglpiiabpdjaaDoorCpuPerfD
import Derived.Test.YtbhglpiiabpdjaaDoorCpuPerfE
namespace Go.Proofs.YtbhglpiiabpdjaaDoor
open Go Go.RowKit Go.IntWalk Go.WideShapes
set_option linter.unusedSimpArgs false
set_option linter.unusedVariables false
set_option maxRecDepth 8000
/-- A valid instruction, by its fields. -/
theorem valid_shape {x : Cd} (hv : valid x = true) : ∃ k a b d : Nat, 1 ≤ k ∧ k < 31 ∧ a < 8 ∧ b < 8 ∧ d < 8 ∧ x = ⟨k, a, b, d, x.i⟩ := by
  obtain ⟨k, hk, hk1⟩ := valid_op hv
  have h := (valid_iff x).1 hv
  have ha := h.1; have hb := h.2.1; have hc := h.2.2.1
  have e7 : ∀ b : Bool, (if b = true then (7 : Int) else 0) ≤ 7 := fun b => by cases b <;> decide
  have := e7 (hasR x.op 0); have := e7 (hasR x.op 1); have := e7 (hasR x.op 2)
  refine ⟨k.val, x.a.toNat, x.b.toNat, x.c.toNat, hk1, k.isLt, by omega, by omega, by omega, ?_⟩
  obtain ⟨op, a, b, c, i⟩ := x
  simp only [Cd.mk.injEq, and_true]
  simp only at hk ha hb hc
  exact ⟨hk, by omega, by omega, by omega⟩
def memOp (op : Int) : Bool := op == 14 || (op == 15 || (op == 16 || op == 17))
def frOp (op : Int) : Bool := op == 19 || op == 20
set_option maxHeartbeats 1000000 in
theorem perf_any (x : Cd) (hv : valid x = true) (n : Int) (hd : memOp x.op = true → dat n = true) (hf : frOp x.op = true → ∃ m : Nat, m < 64 ∧ n = (m : Int)) (N B q : Nat) (S : Nat → Prop) (s : St) (W : Wd) (w : World) (hcb : Blk B (stv s) CPT w) (hbus : Bus N w q W S) (hE : EnvN N w) (hs : s.Ok) (hl : W.cs.length ≤ 90000) (hN : N ≤ w.heap.size) (hNB : N ≤ B) (hp : -9223372036854775808 ≤ s.pc ∧ s.pc < 9223372036854775807) :
    Calls Tryd.prog 56 #[.pointer (some ⟨B, 0, none⟩), cdV x, .int .i64 n, (.iface 47 (.pointer (some ⟨q, 0, none⟩)))] w fun e w' => e = .returned (.bool (perf x n s W).1) ∧ Pf CPT N B q S (perf x n s W).2.1 (perf x n s W).2.2 w w' := by
  obtain ⟨k, a, b, d, hk1, hk, h0, h1, h2, hx⟩ := valid_shape hv
  generalize x.i = i at hx
  subst hx
  clear hv
  match k, hk1, hk with
  | 1, _, _ => exact perf_1 a b d h0 h1 h2 i n N B q S s W w hcb hbus hE hs hl hN hNB hp
  | 2, _, _ => exact perf_2 a b d h0 h1 h2 i n N B q S s W w hcb hbus hE hs hl hN hNB hp
  | 3, _, _ => exact perf_3 a b d h0 h1 h2 i n N B q S s W w hcb hbus hE hs hl hN hNB hp
  | 4, _, _ => exact perf_4 a b d h0 h1 h2 i n N B q S s W w hcb hbus hE hs hl hN hNB hp
  | 5, _, _ => exact perf_5 a b d h0 h1 h2 i n N B q S s W w hcb hbus hE hs hl hN hNB hp
  | 6, _, _ => exact perf_6 a b d h0 h1 h2 i n N B q S s W w hcb hbus hE hs hl hN hNB hp
  | 7, _, _ => exact perf_7 a b d h0 h1 h2 i n N B q S s W w hcb hbus hE hs hl hN hNB hp
  | 8, _, _ => exact perf_8 a b d h0 h1 h2 i n N B q S s W w hcb hbus hE hs hl hN hNB hp
  | 9, _, _ => exact perf_9 a b d h0 h1 h2 i n N B q S s W w hcb hbus hE hs hl hN hNB hp
  | 10, _, _ => exact perf_10 a b d h0 h1 h2 i n N B q S s W w hcb hbus hE hs hl hN hNB hp
  | 11, _, _ => exact perf_11 a b d h0 h1 h2 i n N B q S s W w hcb hbus hE hs hl hN hNB hp
  | 12, _, _ => exact perf_12 a b d h0 h1 h2 i n N B q S s W w hcb hbus hE hs hl hN hNB hp
  | 13, _, _ => exact perf_13 a b d h0 h1 h2 i n N B q S s W w hcb hbus hE hs hl hN hNB hp
  | 14, _, _ => exact perf_14 a b d h0 h1 h2 i n N B q S s W w hcb hbus hE hs hl hN hNB hp (hd rfl)
  | 15, _, _ => exact perf_15 a b d h0 h1 h2 i n N B q S s W w hcb hbus hE hs hl hN hNB hp (hd rfl)
  | 16, _, _ => exact perf_16 a b d h0 h1 h2 i n N B q S s W w hcb hbus hE hs hl hN hNB hp (hd rfl)
  | 17, _, _ => exact perf_17 a b d h0 h1 h2 i n N B q S s W w hcb hbus hE hs hl hN hNB hp (hd rfl)
  | 18, _, _ => exact perf_18 a b d h0 h1 h2 i n N B q S s W w hcb hbus hE hs hl hN hNB hp
  | 19, _, _ => exact by obtain ⟨m, hm, e⟩ := hf rfl; rw [e]; exact perf_19 a b d h0 h1 h2 i m hm N B q S s W w hcb hbus hE hs hl hN hNB hp
  | 20, _, _ => exact by obtain ⟨m, hm, e⟩ := hf rfl; rw [e]; exact perf_20 a b d h0 h1 h2 i m hm N B q S s W w hcb hbus hE hs hl hN hNB hp
  | 21, _, _ => exact perf_21 a b d h0 h1 h2 i n N B q S s W w hcb hbus hE hs hl hN hNB hp
  | 22, _, _ => exact by by_cases h0' : s.reg a = 0; exact perf_22t a b d h0 h1 h2 i n N B q S s W w hcb hbus hE hs hl hN hNB hp h0'; exact perf_22f a b d h0 h1 h2 i n N B q S s W w hcb hbus hE hs hl hN hNB hp h0'
  | 23, _, _ => exact perf_23 a b d h0 h1 h2 i n N B q S s W w hcb hbus hE hs hl hN hNB hp
  | 24, _, _ => exact perf_24 a b d h0 h1 h2 i n N B q S s W w hcb hbus hE hs hl hN hNB hp
  | 25, _, _ => exact perf_25 a b d h0 h1 h2 i n N B q S s W w hcb hbus hE hs hl hN hNB hp
  | 26, _, _ => exact perf_26 a b d h0 h1 h2 i n N B q S s W w hcb hbus hE hs hl hN hNB hp
  | 27, _, _ => exact perf_27 a b d h0 h1 h2 i n N B q S s W w hcb hbus hE hs hl hN hNB hp
  | 28, _, _ => exact perf_28 a b d h0 h1 h2 i n N B q S s W w hcb hbus hE hs hl hN hNB hp
  | 29, _, _ => exact perf_29 a b d h0 h1 h2 i n N B q S s W w hcb hbus hE hs hl hN hNB hp
  | 30, _, _ => exact perf_30 a b d h0 h1 h2 i n N B q S s W w hcb hbus hE hs hl hN hNB hp
  | 0, h, _ => omega
  | n + 31, _, h => omega
end Go.Proofs.YtbhglpiiabpdjaaDoor
