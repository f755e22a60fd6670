/-
  LAYER 11 (isa): named.
-/
import Derived.Test.YtddffijipphfeaaDoorIsaParse1
import Derived.Deep.MidRow
namespace Go.Proofs.YtddffijipphfeaaDoor
open Go Go.RowKit Go.IntWalk
set_option linter.unusedSimpArgs false
set_option linter.unusedVariables false
set_option maxRecDepth 8000
set_option maxRecDepth 20000 in
theorem index_row : ∀ (k : Nat) (_ : k < 31) (W : World), Sem.run Tryd.prog (Instr.index 70 (.agg opsCells.toArray) (.int .i64 (k : Int))) W = .ok (oprV (opr (k : Int))) W
  | 0, _, W => by kernel_rfl
  | 1, _, W => by kernel_rfl
  | 2, _, W => by kernel_rfl
  | 3, _, W => by kernel_rfl
  | 4, _, W => by kernel_rfl
  | 5, _, W => by kernel_rfl
  | 6, _, W => by kernel_rfl
  | 7, _, W => by kernel_rfl
  | 8, _, W => by kernel_rfl
  | 9, _, W => by kernel_rfl
  | 10, _, W => by kernel_rfl
  | 11, _, W => by kernel_rfl
  | 12, _, W => by kernel_rfl
  | 13, _, W => by kernel_rfl
  | 14, _, W => by kernel_rfl
  | 15, _, W => by kernel_rfl
  | 16, _, W => by kernel_rfl
  | 17, _, W => by kernel_rfl
  | 18, _, W => by kernel_rfl
  | 19, _, W => by kernel_rfl
  | 20, _, W => by kernel_rfl
  | 21, _, W => by kernel_rfl
  | 22, _, W => by kernel_rfl
  | 23, _, W => by kernel_rfl
  | 24, _, W => by kernel_rfl
  | 25, _, W => by kernel_rfl
  | 26, _, W => by kernel_rfl
  | 27, _, W => by kernel_rfl
  | 28, _, W => by kernel_rfl
  | 29, _, W => by kernel_rfl
  | 30, _, W => by kernel_rfl
  | k + 31, h, _ => absurd h (by omega)
theorem Env.range {w : World} (h : Env w) : w.rangeAt 0 0 opsCells := fun j v hv => by
  rw [Nat.zero_add, World.var?_cell (show Tryd.prog.globalNamed "trickle/isa.operations" = some 0 by kernel_rfl) h.ops j]
  simpa using hv
theorem beq_list {a : List UInt8} {s : ByteArray} : (a == s.toList) = (a == s.data.toList) := by rw [ByteArray.toList_eq]
set_option maxHeartbeats 4000000 in
theorem named_any (s : ByteArray) (w : World) (hE : Env w) :
    Calls Tryd.prog 50 #[.string s] w fun e w' => ∃ k : Fin 31, e = .returned (.int .i64 (k.val : Int)) ∧ (∀ j : Fin 31, (opr (j.val : Int)).mn = s.data.toList → k = j) ∧ Grew w w' := by
  go_enter Tryd.func50, Tryd.ntmps50
  go_upto_region 1 with fail
  refine wp_region_list ?_
  refine wpList_load_mid rfl 70 (.global 0) rfl 0 0 rfl opsCells _ hE.range Tryd.underlying70 rfl (by kernel_rfl) ?_
  have HIX := Lib.hid index_row
  generalize Value.agg opsCells.toArray = TAB at HIX ⊢
  clear hE
  go_wp2
  go_loopg [6] 31 (fun gg iv wr => ∃ j : Nat, iv = .int .i64 (j : Int) ∧ j ≤ 31 ∧ gg = 31 - j ∧ Hid (∀ i, i < j → (opr (i : Int)).mn ≠ s.data.toList) ∧ Hid (Grew w wr))
  case atStart => exact ⟨0, rfl, by omega, rfl, Lib.hid (fun i h => absurd h (Nat.not_lt_zero i)), Lib.hid (Grew.refl _)⟩
  case round =>
    obtain ⟨j, rfl, hj, rfl, HN, HB⟩ := hrel
    by_cases hlt : j < 31
    · have hx := fun W => HIX.out j hlt W
      have HJ := Lib.hid hlt
      by_cases he : (opr (j : Int)).mn = s.data.toList
      · have h1 : ((opr (j : Int)).mn == s.toList) = true := by rw [beq_list, he]; simp
        have HE := Lib.hid he
        clear he
        go_wp2
        go_ret
        exact ⟨⟨j, HJ.out⟩, rfl, fun i hi => mn_inj ⟨j, HJ.out⟩ i (HE.out.trans hi.symm), by repeat (first | with_reducible exact HB.out | with_reducible exact Grew.refl _ | with_reducible refine Grew.sc ?_ (by first | omega | (simp <;> omega)) _ _ | with_reducible refine Grew.alloc ?_ _ | with_reducible refine Grew.drw ?_)⟩
      · have h1 : ((opr (j : Int)).mn == s.toList) = false := by rw [beq_list]; simpa using he
        have HE := Lib.hid he
        clear he
        go_wp2
        go_roundg (31 - (j + 1))
        case measure => have := HJ.out; omega
        case rel => exact ⟨j + 1, by go_num, HJ.out, rfl, Lib.hid (fun i hi => by rcases Nat.lt_or_eq_of_le (Nat.le_of_lt_succ hi) with h | rfl; exact HN.out i h; exact HE.out), Lib.hid (by repeat (first | with_reducible exact HB.out | with_reducible exact Grew.refl _ | with_reducible refine Grew.sc ?_ (by first | omega | (simp <;> omega)) _ _ | with_reducible refine Grew.alloc ?_ _ | with_reducible refine Grew.drw ?_))⟩
    · obtain rfl : j = 31 := by omega
      go_wp2
      go_ret
      exact ⟨⟨0, by decide⟩, rfl, fun i hi => absurd hi (HN.out i.val i.isLt), HB.out⟩
end Go.Proofs.YtddffijipphfeaaDoor
