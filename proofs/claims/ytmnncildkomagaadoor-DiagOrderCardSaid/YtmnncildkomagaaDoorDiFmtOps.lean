/-
  THE OPERATIONS OF THE DRAWN REGIONS OF LAYER 14 (Format) BY POSTS.
-/
import Derived.Test.YtmnncildkomagaaDoorDiExc
import Derived.Test.YtmnncildkomagaaDoorDiPlain3
import Derived.Test.YtmnncildkomagaaDoorPostsTail
import Derived.Test.YtmnncildkomagaaDoorPostsFr
namespace Go.Proofs.YtmnncildkomagaaDoor
open Go Go.RowKit Go.IntWalk
open Go.Lib (itoa)
set_option linter.unusedSimpArgs false
set_option maxRecDepth 8000
theorem enters_itoa : Enters Tryd.prog 40 := fun args w => by go_simp
theorem enters_num : Enters Tryd.prog 43 := fun args w => by go_simp
theorem enters_ws : Enters Tryd.prog 39 := fun args w => by go_simp
section
variable {dst : Option Tmp} {ty : TypeId} {pos : String} {after : Array Edge} {g : Option (Nat × Bool)} {a : Act} {w : World} {T : Value → World → Prop}
end
section
variable {dst : Option Tmp} {ty : TypeId} {pos : String} {after : Array Edge} {g : Option (Nat × Bool)} {a : Act} {w : World} {T : Value → World → Prop}
theorem rn_cat_9 {o1 o2 : Operand} {b c : List UInt8} (hx : a.eval o1 = .string ⟨b.toArray⟩) (hy : a.eval o2 = .string ⟨c.toArray⟩) (hb : b.length + c.length ≤ 9223372036854775807) (h : T (.string ⟨(b ++ c).toArray⟩) w) : Runs Tryd.prog ⟨dst, .binOp .add 9 o1 o2 9, ty, pos, after, g⟩ a w T := by
  have hs : (⟨b.toArray⟩ : ByteArray) ++ ⟨c.toArray⟩ = ⟨(b ++ c).toArray⟩ := by apply ByteArray.ext; simp
  have hn : ¬ 9223372036854775807 < b.length + c.length := by omega
  refine Runs.value (v := .string ⟨(b ++ c).toArray⟩) (w' := w) ?_ h
  rw [← hs]
  simp only [execOp, hx, hy]
  go_simp
theorem rn_fld_37_1 {x : Operand} {S o : Nat} (hx : a.eval x = .pointer (some ⟨S, o, none⟩)) (h : T (.pointer (some ⟨S, o + 1, none⟩)) w) : Runs Tryd.prog ⟨dst, .fieldAddr 37 x 1, ty, pos, after, g⟩ a w T := by
  refine Runs.value (v := .pointer (some ⟨S, o + 1, none⟩)) (w' := w) ?_ h
  simp only [execOp, hx]
  go_simp
theorem rn_ld_9 {x : Operand} {q : Addr} {v : Value} (hx : a.eval x = .pointer (some q)) (hc : w.cell? q = some v) (h : T v w) : Runs Tryd.prog ⟨dst, .load 9 x, ty, pos, after, g⟩ a w T := by
  refine Runs.value (v := v) (w' := w) ?_ h
  simp only [execOp, hx]
  go_simp
end

end Go.Proofs.YtmnncildkomagaaDoor
