/-
  THE OPERATIONS OF A REGION BY POSTS, FOR LAYER 7 (nvm): fields of the reference's memory, bytes, words.
-/
import Derived.Test.YtmfahmbebpojpaaNvRef3
namespace Go.Proofs.Ytmfahmbebpojpaa
open Go Go.RowKit Go.IntWalk
set_option maxRecDepth 8000
set_option linter.unusedSimpArgs false

section
variable {dst : Option Tmp} {ty : TypeId} {pos : String} {after : Array Edge} {g : Option (Nat × Bool)} {a : Act} {w : World} {T : Value → World → Prop}
theorem runs_fldm0 {o : Operand} {S : Nat} (hx : a.eval o = .pointer (some ⟨S, 0, none⟩)) (h : T (.pointer (some ⟨S, 0, none⟩)) w) : Runs Try.prog ⟨dst, .fieldAddr 31 o 0, ty, pos, after, g⟩ a w T := by
  refine Runs.value (v := .pointer (some ⟨S, 0, none⟩)) (w' := w) ?_ h
  simp only [execOp, hx]
  go_simp
theorem runs_fldm1 {o : Operand} {S : Nat} (hx : a.eval o = .pointer (some ⟨S, 0, none⟩)) (h : T (.pointer (some ⟨S, 1, none⟩)) w) : Runs Try.prog ⟨dst, .fieldAddr 31 o 1, ty, pos, after, g⟩ a w T := by
  refine Runs.value (v := .pointer (some ⟨S, 1, none⟩)) (w' := w) ?_ h
  simp only [execOp, hx]
  go_simp
theorem runs_fldm6 {o : Operand} {S : Nat} (hx : a.eval o = .pointer (some ⟨S, 0, none⟩)) (h : T (.pointer (some ⟨S, 6, none⟩)) w) : Runs Try.prog ⟨dst, .fieldAddr 31 o 6, ty, pos, after, g⟩ a w T := by
  refine Runs.value (v := .pointer (some ⟨S, 6, none⟩)) (w' := w) ?_ h
  simp only [execOp, hx]
  go_simp
theorem runs_ldb {o : Operand} {q : Addr} {z : Bool} (hx : a.eval o = .pointer (some q)) (hc : w.cell? q = some (.bool z)) (h : T (.bool z) w) : Runs Try.prog ⟨dst, .load 4 o, ty, pos, after, g⟩ a w T := by
  refine Runs.value (v := .bool z) (w' := w) ?_ h
  simp only [execOp, hx]
  go_simp
theorem runs_ld64 {o : Operand} {q : Addr} {z : Int} (hx : a.eval o = .pointer (some q)) (hc : w.cell? q = some (.int .i64 z)) (h : T (.int .i64 z) w) : Runs Try.prog ⟨dst, .load 2 o, ty, pos, after, g⟩ a w T := by
  refine Runs.value (v := .int .i64 z) (w' := w) ?_ h
  simp only [execOp, hx]
  go_simp
theorem runs_lds {o : Operand} {q : Addr} {p : Option Addr} {n c : Nat} (hx : a.eval o = .pointer (some q)) (hc : w.cell? q = some (.slice p n c)) (h : T (.slice p n c) w) : Runs Try.prog ⟨dst, .load 29 o, ty, pos, after, g⟩ a w T := by
  refine Runs.value (v := .slice p n c) (w' := w) ?_ h
  simp only [execOp, hx]
  go_simp
theorem runs_eql8 {o1 o2 : Operand} {b c : Int} (hx : a.eval o1 = .int .u8 b) (hy : a.eval o2 = .int .u8 c) (h : T (.bool (b == c)) w) : Runs Try.prog ⟨dst, .binOp .eql 5 o1 o2 5, ty, pos, after, g⟩ a w T := by
  refine Runs.value (v := .bool (b == c)) (w' := w) ?_ h
  simp only [execOp, hx, hy]
  go_simp
theorem runs_eql16 {o1 o2 : Operand} {b c : Int} (hx : a.eval o1 = .int .i16 b) (hy : a.eval o2 = .int .i16 c) (h : T (.bool (b == c)) w) : Runs Try.prog ⟨dst, .binOp .eql 47 o1 o2 47, ty, pos, after, g⟩ a w T := by
  refine Runs.value (v := .bool (b == c)) (w' := w) ?_ h
  simp only [execOp, hx, hy]
  go_simp
theorem runs_andb {x y : Operand} {b c : Bool} (hx : a.eval x = .bool b) (hy : b = true → a.eval y = .bool c) (h : T (.bool (b && c)) w) : Runs Try.prog ⟨dst, .pick x y (.const (.bool false)), ty, pos, after, g⟩ a w T := runs_an hx hy h
end
theorem wp_at2 {P : Program} {c : Code} {Q : Exit → Act → World → Prop} {a : Act} {w : World} (F : World → Prop) (hF : F w) (h : ∀ W, F W → c.wp P Q a W) : c.wp P Q a w := h w hF
theorem BoxR.c0 {S : Nat} {x : RM} {p : Option Addr} {c : Nat} {w : World} (h : BoxR S x p c w) : w.cell? ⟨S, 0, none⟩ = some (.slice p x.B.length c) := (box7 h).1
theorem BoxR.c1 {S : Nat} {x : RM} {p : Option Addr} {c : Nat} {w : World} (h : BoxR S x p c w) : w.cell? ⟨S, 1, none⟩ = some (.bool x.off) := (box7 h).2.1
theorem BoxR.c6 {S : Nat} {x : RM} {p : Option Addr} {c : Nat} {w : World} (h : BoxR S x p c w) : w.cell? ⟨S, 6, none⟩ = some (.int .i64 x.wr) := (box7 h).2.2.2.2.2.2.1
end Go.Proofs.Ytmfahmbebpojpaa
