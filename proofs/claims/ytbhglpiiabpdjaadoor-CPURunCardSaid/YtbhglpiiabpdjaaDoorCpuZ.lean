/-
  LAYER 12 (cpu): an image and a case as parameters; what a step that fails leaves.
-/
import Derived.Test.YtbhglpiiabpdjaaDoorCpuSw
namespace Go.Proofs.YtbhglpiiabpdjaaDoor
open Go Go.RowKit Go.IntWalk Go.WideShapes
set_option linter.unusedSimpArgs false
set_option linter.unusedVariables false
set_option maxRecDepth 8000
section
variable {dst : Option Tmp} {ty : TypeId} {pos : String} {after : Array Edge} {g : Option (Nat × Bool)} {a : Act} {w : World} {T : Value → World → Prop}
end
theorem ImRows.up {M N : Nat} {w : World} {I : Im} {gp ap kp : Option Addr} {gc ac kc : Nat} (h : ImRows M w I gp ap kp gc ac kc) (hN : M ≤ N) : ImRows N w I gp ap kp gc ac kc :=
  ⟨h.gs, h.addr, h.code, fun hn a e => Nat.lt_of_lt_of_le (h.gl hn a e) hN, fun hn a e => Nat.lt_of_lt_of_le (h.al hn a e) hN, fun hn a e => Nat.lt_of_lt_of_le (h.kl hn a e) hN⟩
theorem ImRows.grew {M : Nat} {w w' : World} {I : Im} {gp ap kp : Option Addr} {gc ac kc : Nat} (h : ImRows M w I gp ap kp gc ac kc) (hg : Grew w w') : ImRows M w' I gp ap kp gc ac kc := h.chg (Chg.of_grew hg (fun _ => False)) fun _ h => h.elim
section
variable {s : St} {ys : List Value} {K : Nat} {e : TypeId} {w : World}
theorem case_st (hs : s.Ok) (h : Blk K (stv s ++ ys) e w) : w.rangeAt K 0 (stv s) := fun j v hv => by
  rw [Nat.zero_add, h.cell, List.getElem?_append_left (List.getElem?_eq_some_iff.1 hv).1]
  exact hv
theorem case_wd (hs : s.Ok) (h : Blk K (stv s ++ ys) e w) : w.rangeAt K 73 ys := fun j v hv => by
  rw [h.cell, List.getElem?_append_right (by rw [stv_len hs]; omega), stv_len hs, Nat.add_sub_cancel_left]
  exact hv
end
theorem sizeI : (Tryd.prog.info? 28).map (·.size) = some 12 := by kernel_rfl
theorem sizeW : (Tryd.prog.info? 37).map (·.size) = some 4 := by kernel_rfl
theorem zeroW (w : World) : (zeroValue 37).run Tryd.prog w = .ok (.agg #[.slice none 0 0, .slice none 0 0, .int .i64 0, .slice none 0 0]) w := by kernel_rfl
section
variable {ops : Array Oper} {rest : List Oper} {o : Oper} {a : Act} {Q : Exit → Act → World → Prop} {w : World}
end
theorem en_sml : Enters Tryd.prog 11 := fun args w => by go_simp
theorem en_cpy : Enters Tryd.prog 12 := fun args w => by go_simp
theorem en_ownz : Enters Tryd.prog 13 := fun args w => by go_simp
theorem en_samez : Enters Tryd.prog 16 := fun args w => by go_simp
theorem en_swz : Enters Tryd.prog 17 := fun args w => by go_simp
end Go.Proofs.YtbhglpiiabpdjaaDoor
