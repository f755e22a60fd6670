/-
  A LAID TABLE OF STRUCTS (any program): an array of structs of numbers, truth values and strings that reads as a datum holds the datum's values, cell for cell. Nothing of the program stands here.
-/
import Derived.LaidLaws
import Derived.ChangeArms
import Derived.OpenShut
import Derived.Lib.LaidTab
namespace Go.Proofs.YtcajamgajchheaaDoor
open Go Go.RowKit Go.ChangeShapes Go.WideShapes
set_option linter.unusedVariables false

def litV {H : Type} : DataW H → Value
  | .lit (.int k n) => .int k n
  | .lit (.bool b) => .bool b
  | .lit (.string l) => .string ⟨l.toArray⟩
  | _ => undef
def rowV {H : Type} : DataW H → List Value
  | .agg ds => ds.map litV
  | _ => []
def arrV {H : Type} : DataW H → List Value
  | .agg rs => rs.flatMap rowV
  | _ => []
def flat1 (P : Program) (t : TypeId) : Bool := match P.underlying t with
  | some (.int _) => true
  | some .bool => true
  | some .string => true
  | _ => false
def rowOk (P : Program) (fs : Array Field) : Bool := (List.range fs.size).all fun i => match fs[i]? with
  | some f => f.offset == i && P.cellsOf f.type == 1 && flat1 P f.type
  | none => false
section
variable {H : Type} {enc : TypeId × Value → H} {P : Program} {w : World} {base : Nat} {sp : Nat → Bool} {held : Bool} {fuel : Nat} {cs : List Value}
theorem lit_vals {t : TypeId} {x : DataW H × List MemPlace} (hf : flat1 P t = true) (h : DataW.trod enc P w base sp held fuel t cs = some x) : cs = [litV x.1] := by
  unfold flat1 at hf
  split at hf
  · rename_i hu
    obtain ⟨n, rfl, rfl, _⟩ := DataW.trod_int hu h
    rfl
  · rename_i hu
    obtain ⟨b, rfl, rfl⟩ := DataW.trod_bool hu h
    rfl
  · rename_i hu
    obtain ⟨s, rfl, rfl, _⟩ := DataW.trod_string hu h
    rfl
  · cases hf
theorem row_vals {t : TypeId} {fs : Array Field} {x : DataW H × List MemPlace} (ht : P.underlying t = some (.struct fs)) (hc : P.cellsOf t = fs.size) (hok : rowOk P fs = true)
    (h : DataW.trod enc P w base sp held fuel t cs = some x) : cs = rowV x.1 := by
  obtain ⟨xs, n, _, rfl, hl, hxs, hf⟩ := DataW.trod_struct ht h
  show cs = (xs.map (·.1)).map litV
  apply List.ext_getElem?
  intro i
  by_cases hi : i < fs.size
  · have h1 := List.all_eq_true.1 hok i (List.mem_range.2 hi)
    rw [Array.getElem?_eq_getElem hi] at h1
    simp only [Bool.and_eq_true, beq_iff_eq] at h1
    obtain ⟨⟨h2, h3⟩, h4⟩ := h1
    have h5 := hf i fs[i] (Array.getElem?_eq_getElem hi)
    have hx : i < xs.length := by omega
    rw [List.getElem?_eq_getElem hx, h2, h3] at h5
    have h6 := lit_vals h4 h5
    have h7 : cs[i]? = some (litV xs[i].1) := by
      have := congrArg (·[0]?) h6
      simpa [List.getElem?_take, List.getElem?_drop] using this
    rw [h7]
    simp [List.getElem?_eq_getElem hx]
  · rw [List.getElem?_eq_none (by omega), List.getElem?_eq_none (by simp; omega)]
theorem arr_vals {T e : TypeId} {m k : Nat} {fs : Array Field} {x : DataW H × List MemPlace} (hT : P.underlying T = some (.array m e)) (he : P.underlying e = some (.struct fs)) (hce : P.cellsOf e = k) (hk : fs.size = k) (hcT : P.cellsOf T = m * k) (hok : rowOk P fs = true)
    (h : DataW.trod enc P w base sp held fuel T cs = some x) : cs = arrV x.1 := by
  obtain ⟨xs, n, _, rfl, hl, hxs, hf⟩ := DataW.trod_array hT h
  show cs = (xs.map (·.1)).flatMap rowV
  rw [hcT] at hl
  have key : ∀ j, j ≤ m → cs.take (j * k) = ((xs.map (·.1)).take j).flatMap rowV := by
    intro j
    induction j with
    | zero => intro _; simp
    | succ j ih =>
      intro hj
      have hx : j < xs.length := by omega
      have h1 := hf j (by omega)
      rw [List.getElem?_eq_getElem hx, hce] at h1
      have h2 := row_vals he (hce.trans hk.symm) hok h1
      rw [Nat.succ_mul, List.take_add, ih (by omega), h2, List.take_add_one, List.getElem?_eq_getElem (by simpa using hx)]
      simp
  have := key m (Nat.le_refl _)
  rwa [List.take_of_length_le (by omega), List.take_of_length_le (by simp; omega)] at this
end
/-- From the row's condition: the table stands first on the list. -/
theorem rows_of_head {P : Program} {W : World} {name : String} {d : DataW Unit} {rest : List (String × DataW Unit)} {g : Nat} {T e : TypeId} {m k : Nat} {fs : Array Field}
    (hg : P.globalNamed name = some g) (hty : (P.globals[g]?).map (·.type) = some T) (hT : P.underlying T = some (.array m e)) (he : P.underlying e = some (.struct fs)) (hce : P.cellsOf e = k) (hk : fs.size = k) (hcT : P.cellsOf T = m * k) (hok : rowOk P fs = true)
    (h : laidMet P ((name, d) :: rest) W) : W.var? P name = some (arrV d).toArray := by
  obtain ⟨ps, ⟨g', t', cs, fuel, p, q, hg', ht', hvar, hd, _, _⟩, _⟩ := h
  obtain rfl := Option.some.inj (hg.symm.trans hg')
  obtain rfl := Option.some.inj (hty.symm.trans ht')
  have := arr_vals hT he hce hk hcT hok hd
  rw [hvar, ← this]
end Go.Proofs.YtcajamgajchheaaDoor
