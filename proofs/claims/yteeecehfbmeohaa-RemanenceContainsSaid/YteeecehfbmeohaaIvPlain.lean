/-
  TIMES WITHIN THEIR RANGE. Nothing of the program stands here.
-/
import Derived.IntWalk
namespace Go.Proofs.Yteeecehfbmeohaa
open Go

/-- The greatest time. -/
def MT : Int := 1099511627776
/-- The time that is nearest to t. -/
def cl (t : Int) : Int := min (max t 0) 1099511627776
theorem cl_bd (t : Int) : 0 ≤ cl t ∧ cl t ≤ 1099511627776 := by unfold cl; omega
theorem cl_in (t : Int) (h : 0 ≤ t ∧ t ≤ 1099511627776) : cl t = t := by unfold cl; omega
/-- 0 <= lo <= hi <= the greatest time. -/
def va (x y : Int) : Bool := decide (0 ≤ x ∧ x ≤ y ∧ y ≤ 1099511627776)
theorem va_iff {x y : Int} : va x y = true ↔ (0 ≤ x ∧ x ≤ y ∧ y ≤ 1099511627776) := by unfold va; exact decide_eq_true_iff
theorem ret_bool {a b : Bool} (h : a = b) : Ending.returned (.bool a) = .returned (.bool b) := by rw [h]
theorem ret_i64 {a b : Int} (h : a = b) : Ending.returned (.int .i64 a) = .returned (.int .i64 b) := by rw [h]
theorem ret_string {a b : ByteArray} (h : a = b) : Ending.returned (.string a) = .returned (.string b) := by rw [h]
end Go.Proofs.Yteeecehfbmeohaa
