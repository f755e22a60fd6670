/-
  LAYER 15: the tokens of two texts with a line feed between them, as LexerSpaces compares them.
-/
import Derived.Test.YtcajamgajchheaaDoorLxLaws1
import Derived.Test.YtcajamgajchheaaDoorLxConvO
import Derived.Test.YtcajamgajchheaaDoorRunsRow
namespace Go.Proofs.YtcajamgajchheaaDoor
open Go Go.RowKit Go.IntWalk
theorem scan_init (a : List UInt8) : (scan a).take ((scan a).length - 1) = scn 0 a := by
  have h : (scan a).length - 1 = (scn 0 a).length := by rw [scan, List.length_append]; simp
  rw [h, scan, List.take_left]
theorem spaces_sig (a b : List UInt8) : (scan (a ++ 10 :: b)).map sig = ((scan a).take ((scan a).length - 1) ++ scan b).map sig := by
  rw [scan_init, scan_sig, txs_lf _ a b (Nat.lt_succ_self _), List.map_append, List.map_append, scan_sig b, scn_txs, List.append_assoc]
end Go.Proofs.YtcajamgajchheaaDoor
