/-
  PLAIN MATHEMATICS FOR LAYER 11 (isa): the table of the operations, the costs, what is valid, the operands of a notation. Nothing of the program stands here.
-/
import Derived.Test.YtbhglpiiabpdjaaDoorNum
namespace Go.Proofs.YtbhglpiiabpdjaaDoor
open Go
open Go.Lib (itoa)

/-- A row of the table: mnemonic, registers that are assigned, that are used, the range of Imm, whether it is even. -/
structure Opr where
  mn : List UInt8
  wr : Nat
  rd : Nat
  lo : Int
  hi : Int
  ev : Bool
def Opr.no : Opr := ⟨[], 0, 0, 0, 0, false⟩
def oprs : List Opr := [
  ⟨[], 0, 0, 0, 0, false⟩,
  ⟨[104, 97, 108, 116], 0, 0, 0, 0, false⟩,
  ⟨[109, 111, 118, 105], 1, 0, -32768, 32767, false⟩,
  ⟨[109, 111, 118], 1, 2, 0, 0, false⟩,
  ⟨[110, 101, 103], 1, 2, 0, 0, false⟩,
  ⟨[110, 111, 116], 1, 2, 0, 0, false⟩,
  ⟨[97, 100, 100], 1, 6, 0, 0, false⟩,
  ⟨[115, 117, 98], 1, 6, 0, 0, false⟩,
  ⟨[109, 117, 108], 1, 6, 0, 0, false⟩,
  ⟨[100, 105, 118], 1, 6, 0, 0, false⟩,
  ⟨[109, 111, 100], 1, 6, 0, 0, false⟩,
  ⟨[101, 113], 1, 6, 0, 0, false⟩,
  ⟨[108, 116], 1, 6, 0, 0, false⟩,
  ⟨[108, 101], 1, 6, 0, 0, false⟩,
  ⟨[108, 111, 97, 100], 1, 0, 0, 16382, true⟩,
  ⟨[115, 116, 111, 114, 101], 0, 1, 0, 16382, true⟩,
  ⟨[108, 111, 97, 100, 120], 1, 2, 0, 0, false⟩,
  ⟨[115, 116, 111, 114, 101, 120], 0, 3, 0, 0, false⟩,
  ⟨[105, 110, 100, 101, 120], 1, 2, 0, 31, false⟩,
  ⟨[115, 112, 105, 108, 108], 0, 1, 0, 63, false⟩,
  ⟨[102, 105, 108, 108], 1, 0, 0, 63, false⟩,
  ⟨[106, 117, 109, 112], 0, 0, 0, 479, false⟩,
  ⟨[106, 117, 109, 112, 122], 0, 1, 0, 479, false⟩,
  ⟨[114, 101, 97, 100], 1, 0, 0, 7, false⟩,
  ⟨[115, 101, 110, 100], 0, 1, 0, 7, false⟩,
  ⟨[101, 109, 105, 116], 0, 1, 0, 0, false⟩,
  ⟨[111, 117, 116], 0, 1, 0, 7, false⟩,
  ⟨[108, 111, 103], 0, 0, 0, 16382, true⟩,
  ⟨[108, 111, 103, 120], 0, 1, 0, 0, false⟩,
  ⟨[99, 111, 109, 109, 105, 116], 0, 0, 0, 119, false⟩,
  ⟨[110, 111, 112], 0, 0, 0, 0, false⟩]
/-- The row of an operation; an empty one if there is none. -/
def opr (op : Int) : Opr := oprs.getD op.toNat .no
def csts : List (Int × Int × Int) := [(0, 0, 0), (1, 1, 0), (1, 1, 0), (1, 1, 0), (1, 1, 0), (1, 1, 0), (1, 1, 0), (1, 1, 0), (1, 1, 0), (1, 1, 0), (1, 1, 0), (1, 1, 0), (1, 1, 0), (1, 1, 0), (1, 1, 0), (3, 2, 2), (1, 1, 0), (3, 2, 2), (1, 1, 0), (1, 1, 0), (1, 1, 0), (1, 1, 0), (1, 1, 0), (8, 4, 0), (10, 2, 8), (4, 2, 2), (6, 2, 4), (6, 4, 5), (6, 4, 5), (2, 2, 0), (1, 1, 0)]
def cst (op : Int) : Int × Int × Int := csts.getD op.toNat (0, 0, 0)
/-- Whether a set of fields has the one at a place. -/
def bit (f : Nat) (i : Nat) : Bool := (f >>> i) % 2 == 1
def regs (op : Int) : Nat := (opr op).wr ||| (opr op).rd
def hasR (op : Int) (i : Nat) : Bool := bit (regs op) i
def hasI (op : Int) : Bool := decide (0 < (opr op).hi)
/-- The letters of the operands. -/
def sh (op : Int) : List UInt8 := (if hasR op 0 then [97] else []) ++ ((if hasR op 1 then [98] else []) ++ ((if hasR op 2 then [99] else []) ++ (if hasI op then [105] else [])))

theorem op_cases (op : Int) : (op < 0 ∨ 31 ≤ op) ∨ ∃ k : Fin 31, op = (k.val : Int) := by
  by_cases h : op < 0 ∨ 31 ≤ op
  · exact .inl h
  · exact .inr ⟨⟨op.toNat, by omega⟩, by show op = ((op.toNat : Nat) : Int); omega⟩
theorem opr_out {op : Int} (h : op < 0 ∨ 31 ≤ op) : opr op = .no := by
  unfold opr
  rcases h with h | h
  · rw [Int.toNat_of_nonpos (by omega)]; rfl
  · have h31 : oprs.length ≤ op.toNat := by show 31 ≤ op.toNat; omega
    simp only [List.getD, List.getElem?_eq_none h31, Option.getD_none]
theorem cst_out {op : Int} (h : op < 0 ∨ 31 ≤ op) : cst op = (0, 0, 0) := by
  unfold cst
  rcases h with h | h
  · rw [Int.toNat_of_nonpos (by omega)]; rfl
  · have h31 : csts.length ≤ op.toNat := by show 31 ≤ op.toNat; omega
    simp only [List.getD, List.getElem?_eq_none h31, Option.getD_none]
/-- What a table says holds of every operation. -/
theorem op_all (p : Int → Prop) (h0 : ∀ op : Int, op < 0 ∨ 31 ≤ op → p op) (h1 : ∀ k : Fin 31, p (k.val : Int)) (op : Int) : p op := by
  rcases op_cases op with h | ⟨k, rfl⟩
  · exact h0 op h
  · exact h1 k

/-! ### Validity -/

abbrev ok (h : Bool) (r : Int) : Bool := decide (0 ≤ r) && decide (r ≤ if h then 7 else 0)
structure Cd where
  op : Int
  a : Int
  b : Int
  c : Int
  i : Int
def Cd.no : Cd := ⟨0, 0, 0, 0, 0⟩
def valid (x : Cd) : Bool :=
  ok (hasR x.op 0) x.a && (ok (hasR x.op 1) x.b && (ok (hasR x.op 2) x.c && (!((opr x.op).ev && x.i.tmod 2 != 0) && ((opr x.op).mn != [] && (decide ((opr x.op).lo ≤ x.i) && decide (x.i ≤ (opr x.op).hi))))))
theorem valid_iff (x : Cd) : valid x = true ↔ (0 ≤ x.a ∧ x.a ≤ if hasR x.op 0 then 7 else 0) ∧ (0 ≤ x.b ∧ x.b ≤ if hasR x.op 1 then 7 else 0) ∧ (0 ≤ x.c ∧ x.c ≤ if hasR x.op 2 then 7 else 0) ∧ ((opr x.op).ev = true → x.i.tmod 2 = 0) ∧ (opr x.op).mn ≠ [] ∧ (opr x.op).lo ≤ x.i ∧ x.i ≤ (opr x.op).hi := by
  unfold valid ok
  simp only [Bool.and_eq_true, decide_eq_true_eq, Bool.not_eq_true', Bool.and_eq_false_iff, bne_iff_ne, ne_eq, bne_eq_false_iff_eq]
  constructor
  · rintro ⟨h1, h2, h3, h4, h5, h6, h7⟩
    exact ⟨h1, h2, h3, fun h => h4.resolve_left (by rw [h]; decide), h5, h6, h7⟩
  · rintro ⟨h1, h2, h3, h4, h5, h6, h7⟩
    refine ⟨h1, h2, h3, ?_, h5, h6, h7⟩
    cases h : (opr x.op).ev
    · exact .inl rfl
    · exact .inr (h4 h)
theorem valid_op {x : Cd} (h : valid x = true) : ∃ k : Fin 31, x.op = (k.val : Int) ∧ 1 ≤ k.val := by
  rcases op_cases x.op with ho | ⟨k, hk⟩
  · exact absurd (by rw [opr_out ho]; rfl) ((valid_iff x).1 h).2.2.2.2.1
  · refine ⟨k, hk, ?_⟩
    rcases Nat.eq_zero_or_pos k.val with h0 | h0
    · exact absurd (by rw [hk, h0]; rfl) ((valid_iff x).1 h).2.2.2.2.1
    · exact h0
/-! ### Notations -/

theorem bits (op : Int) : (opr op).wr ≤ 7 ∧ (opr op).rd ≤ 7 ∧ regs op ≤ 7 := op_all (fun op => (opr op).wr ≤ 7 ∧ (opr op).rd ≤ 7 ∧ regs op ≤ 7) (fun op h => by unfold regs; rw [opr_out h]; decide) (by decide) op
end Go.Proofs.YtbhglpiiabpdjaaDoor
