/-
  THE OPERATIONS OF A REGION BY POSTS, FOR LAYER 7 (nvm): slices of bytes, their texts.
-/
import Derived.Test.YtmfahmbebpojpaaNvWakes
import Derived.Test.YtmfahmbebpojpaaRuns
namespace Go.Proofs.Ytmfahmbebpojpaa
open Go Go.RowKit Go.IntWalk
set_option maxRecDepth 8000
set_option linter.unusedSimpArgs false

section
variable {dst : Option Tmp} {ty : TypeId} {pos : String} {after : Array Edge} {g : Option (Nat × Bool)} {a : Act} {w : World} {T : Value → World → Prop}
theorem runs_c3 {P : Program} {f : FuncId} {x y z : Operand} {ts : Array TypeId} {v u r : Value} (hf : Enters P f) (hx : a.eval x = v) (hy : a.eval y = u) (hz : a.eval z = r) (h : Calls P f #[v, u, r] w fun e w'' => ∃ v, e = .returned v ∧ T v w'') : Runs P ⟨dst, .call { callee := .value (.func f), args := #[x, y, z], argTypes := ts }, ty, pos, after, g⟩ a w T :=
  runs_call hf (by simp [hx, hy, hz]) h
theorem runs_lenb {o : Operand} {p : Option Addr} {n c : Nat} (hx : a.eval o = .slice p n c) (h : T (.int .i64 (n : Int)) w) : Runs Try.prog ⟨dst, .call { callee := .builtin .len, args := #[o], argTypes := #[29] }, ty, pos, after, g⟩ a w T := by
  refine Runs.value (v := .int .i64 (n : Int)) (w' := w) ?_ h
  simp only [execOp, resolve, List.map_toArray, List.map_cons, List.map_nil, hx]
  go_simp
theorem runs_convb {o : Operand} {p : Option Addr} {n c : Nat} {xs : List UInt8} (hx : a.eval o = .slice p n c) (hl : xs.length = n) (hb : Bin w p c xs) (h : T (.string ⟨xs.toArray⟩) w) : Runs Try.prog ⟨dst, .convert 29 9 o, ty, pos, after, g⟩ a w T := by
  have hr := hb.convert (P := Try.prog) n hl 29 9 5 (by kernel_rfl) (by kernel_rfl) (by kernel_rfl)
  refine Runs.value (v := .string ⟨xs.toArray⟩) (w' := w) ?_ h
  simp only [execOp, hx]
  go_simp
theorem runs_eqls {o1 o2 : Operand} {b c : List UInt8} (hx : a.eval o1 = .string ⟨b.toArray⟩) (hy : a.eval o2 = .string ⟨c.toArray⟩) (h : T (.bool (b == c)) w) : Runs Try.prog ⟨dst, .binOp .eql 9 o1 o2 9, ty, pos, after, g⟩ a w T := by
  refine Runs.value (v := .bool (b == c)) (w' := w) ?_ h
  simp only [execOp, hx, hy]
  go_simp
theorem runs_neqs {o1 o2 : Operand} {b c : List UInt8} (hx : a.eval o1 = .string ⟨b.toArray⟩) (hy : a.eval o2 = .string ⟨c.toArray⟩) (h : T (.bool (b != c)) w) : Runs Try.prog ⟨dst, .binOp .neq 9 o1 o2 9, ty, pos, after, g⟩ a w T := by
  have e : (b != c) = !(b == c) := rfl
  rw [e] at h
  refine Runs.value (v := .bool (!(b == c))) (w' := w) ?_ h
  simp only [execOp, hx, hy]
  go_simp
theorem runs_asg {o : Operand} {v : Value} (hx : a.eval o = v) (h : T v w) : Runs Try.prog ⟨dst, .assign o, ty, pos, after, g⟩ a w T := runs_mva hx h
end
theorem enters_readBytes : Enters Try.prog 21 := fun args w => by go_simp
theorem enters_image : Enters Try.prog 29 := fun args w => by go_simp
theorem enters_writeBytes : Enters Try.prog 16 := fun args w => by go_simp
theorem enters_write : Enters Try.prog 19 := fun args w => by go_simp
theorem enters_writeWord : Enters Try.prog 25 := fun args w => by go_simp
theorem enters_read : Enters Try.prog 27 := fun args w => by go_simp
theorem enters_readWord : Enters Try.prog 26 := fun args w => by go_simp
theorem enters_off : Enters Try.prog 17 := fun args w => by go_simp
theorem enters_writes : Enters Try.prog 18 := fun args w => by go_simp
/-- The value v is a slice of bytes that reads as xs. -/
def IsB (xs : List UInt8) (v : Value) (w : World) : Prop := ∃ p c, v = .slice p xs.length c ∧ Bin w p c xs
theorem IsB.grew {xs : List UInt8} : ∀ (v : Value) (w w' : World), Grew w w' → IsB xs v w → IsB xs v w' := fun _ _ _ hg ⟨p, c, h1, h2⟩ => ⟨p, c, h1, h2.kept hg⟩
end Go.Proofs.Ytmfahmbebpojpaa
