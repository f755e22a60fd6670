/-
  THE OPERATIONS OF THE DRAWN REGIONS OF LAYER 10's REFERENCE ON TEXTS BY POSTS.
-/
import Derived.Test.YtaehlpdnjfblbaaDoorSeParse
namespace Go.Proofs.YtaehlpdnjfblbaaDoor
open Go Go.RowKit Go.IntWalk
open Go.Lib (itoa)
set_option linter.unusedSimpArgs false
set_option maxRecDepth 8000

theorem dig_cut (d : Nat) (h : d < 10) : (⟨#[48, 49, 50, 51, 52, 53, 54, 55, 56, 57]⟩ : ByteArray).extract d (d + 1) = ⟨(Lib.decDigits d).toArray⟩ := by
  rw [Lib.decDigits_one h]
  match d, h with
  | 0, _ => rfl
  | 1, _ => rfl
  | 2, _ => rfl
  | 3, _ => rfl
  | 4, _ => rfl
  | 5, _ => rfl
  | 6, _ => rfl
  | 7, _ => rfl
  | 8, _ => rfl
  | 9, _ => rfl
theorem enters_num : Enters Tryd.prog 32 := fun args w => by go_simp
section
variable {dst : Option Tmp} {ty : TypeId} {pos : String} {after : Array Edge} {g : Option (Nat × Bool)} {a : Act} {w : World} {T : Value → World → Prop}
theorem rn_quo10 {x : Operand} {n : Nat} (hx : a.eval x = .int .i64 (n : Int)) (hn : n ≤ 4611686018427387904) (h : T (.int .i64 ((n : Int) / 10)) w) : Runs Tryd.prog ⟨dst, .binOp .quo 2 x (.const (.int .i64 10)) 2, ty, pos, after, g⟩ a w T := by
  refine Runs.value (v := .int .i64 ((n : Int) / 10)) (w' := w) ?_ h
  simp only [execOp, hx]
  go_simp
  exact i64_in _ (by omega)
theorem rn_rem10 {x : Operand} {n : Nat} (hx : a.eval x = .int .i64 (n : Int)) (hn : n ≤ 4611686018427387904) (h : T (.int .i64 ((n : Int) % 10)) w) : Runs Tryd.prog ⟨dst, .binOp .rem 2 x (.const (.int .i64 10)) 2, ty, pos, after, g⟩ a w T := by
  refine Runs.value (v := .int .i64 ((n : Int) % 10)) (w' := w) ?_ h
  simp only [execOp, hx]
  go_simp
  exact Int.tmod_eq_emod_of_nonneg (by omega)
theorem rn_dig {x y : Nat} {d : Nat} {i j : Int} (hx : a.eval (.tmp x) = .int .i64 i) (hy : a.eval (.tmp y) = .int .i64 j) (hi : i = d) (hj : j = d + 1) (hd : d < 10) (h : T (.string ⟨(Lib.decDigits d).toArray⟩) w) : Runs Tryd.prog ⟨dst, .slice 9 (.const (.string ⟨#[48, 49, 50, 51, 52, 53, 54, 55, 56, 57]⟩)) (some (.tmp x)) (some (.tmp y)) none, ty, pos, after, g⟩ a w T := by
  subst hi hj
  rw [slot_eval, ← slot_get] at hx hy
  refine Runs.value (v := .string ⟨(Lib.decDigits d).toArray⟩) (w' := w) ?_ h
  rw [← dig_cut d hd]
  have h1 : (d : Int) ≤ (d : Int) + 1 := by omega
  have h2 : (d : Int) + 1 ≤ 10 := by omega
  simp only [execOp]
  go_simp
end
section
variable {dst : Option Tmp} {ty : TypeId} {pos : String} {after : Array Edge} {g : Option (Nat × Bool)} {a : Act} {w : World} {T : Value → World → Prop}
theorem rn_add_2 {o1 o2 : Operand} {b c : Int} (hx : a.eval o1 = .int .i64 b) (hy : a.eval o2 = .int .i64 c) (hb : -9223372036854775808 ≤ b + c ∧ b + c ≤ 9223372036854775807) (h : T (.int .i64 (b + c)) w) : Runs Tryd.prog ⟨dst, .binOp .add 2 o1 o2 2, ty, pos, after, g⟩ a w T := by
  refine Runs.value (v := .int .i64 (b + c)) (w' := w) ?_ h
  have hw : IntKind.i64.wrap (b + c) = b + c := IntWalk.i64_in _ hb
  simp only [execOp, hx, hy]
  go_simp
theorem rn_cat_9 {o1 o2 : Operand} {b c : List UInt8} (hx : a.eval o1 = .string ⟨b.toArray⟩) (hy : a.eval o2 = .string ⟨c.toArray⟩) (hb : b.length + c.length ≤ 9223372036854775807) (h : T (.string ⟨(b ++ c).toArray⟩) w) : Runs Tryd.prog ⟨dst, .binOp .add 9 o1 o2 9, ty, pos, after, g⟩ a w T := by
  have hs : (⟨b.toArray⟩ : ByteArray) ++ ⟨c.toArray⟩ = ⟨(b ++ c).toArray⟩ := by apply ByteArray.ext; simp
  have hn : ¬ 9223372036854775807 < b.length + c.length := by omega
  refine Runs.value (v := .string ⟨(b ++ c).toArray⟩) (w' := w) ?_ h
  rw [← hs]
  simp only [execOp, hx, hy]
  go_simp
theorem rn_fld_37_1 {x : Operand} {S o : Nat} (hx : a.eval x = .pointer (some ⟨S, o, none⟩)) (h : T (.pointer (some ⟨S, o + 1, none⟩)) w) : Runs Tryd.prog ⟨dst, .fieldAddr 37 x 1, ty, pos, after, g⟩ a w T := by
  refine Runs.value (v := .pointer (some ⟨S, o + 1, none⟩)) (w' := w) ?_ h
  simp only [execOp, hx]
  go_simp
theorem rn_ld_32 {x : Operand} {q : Addr} {v : Value} (hx : a.eval x = .pointer (some q)) (hc : w.cell? q = some v) (h : T v w) : Runs Tryd.prog ⟨dst, .load 32 x, ty, pos, after, g⟩ a w T := by
  refine Runs.value (v := v) (w' := w) ?_ h
  simp only [execOp, hx]
  go_simp
theorem rn_cv_32_2 {x : Operand} {z : Int} (hx : a.eval x = .int .i16 z) (hb : -9223372036854775808 ≤ z ∧ z ≤ 9223372036854775807) (h : T (.int .i64 z) w) : Runs Tryd.prog ⟨dst, .convert 32 2 x, ty, pos, after, g⟩ a w T := by
  refine Runs.value (v := .int .i64 z) (w' := w) ?_ h
  have hw : IntKind.i64.wrap z = z := IntWalk.i64_in _ hb
  simp only [execOp, hx]
  go_simp
end
end Go.Proofs.YtaehlpdnjfblbaaDoor
