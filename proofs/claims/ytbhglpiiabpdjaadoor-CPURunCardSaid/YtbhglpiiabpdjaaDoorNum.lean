/-
  DECIMAL NUMERALS (any program): digits, what they spell, what strconv.ParseInt makes of them at every size, cuts at one byte. Nothing of the program stands here.
-/
import Derived.IntWalk
import Derived.Laws.BitsAllLaws
import Derived.Lib.ItoaNum
import Derived.Lib.ItoaMem
import Derived.Lib.ParseIntB
import Derived.Lib.ItoaLen
import Derived.Lib.CutLaws
import Derived.Lib.IndexLaws
namespace Go.Proofs.YtbhglpiiabpdjaaDoor
open Go
open Go.Lib (decDigits itoa parseUintM parseUintB parseIntB nDigits NumEnd)

theorem ret_bool {a b : Bool} (h : a = b) : Ending.returned (.bool a) = .returned (.bool b) := by rw [h]
theorem ret_i64 {a b : Int} (h : a = b) : Ending.returned (.int .i64 a) = .returned (.int .i64 b) := by rw [h]
theorem ret_i16 {a b : Int} (h : a = b) : Ending.returned (.int .i16 a) = .returned (.int .i16 b) := by rw [h]
theorem take_snoc (s : ByteArray) (k : Nat) (h : k < s.size) : s.data.toList.take (k + 1) = s.data.toList.take k ++ [s[k]] := by
  rw [List.take_succ_eq_append_getElem (by simpa using h)]; rfl
/-! ### Cuts at one byte -/
end Go.Proofs.YtbhglpiiabpdjaaDoor
