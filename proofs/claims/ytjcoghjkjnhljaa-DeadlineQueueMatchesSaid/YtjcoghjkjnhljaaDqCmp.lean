/-
  LAYER 6 (deadlinequeue): comparisons and times.
-/
import Derived.Test.YtjcoghjkjnhljaaDqPlain2
import Derived.Test.YtjcoghjkjnhljaaRows
import Derived.WalkKit
import Derived.WalkSpells
import Derived.Lib.Hide
import Derived.LoopTactic
import Derived.Deep.LoopGhost
namespace Go.Proofs.Ytjcoghjkjnhljaa
open Go Go.RowKit Go.IntWalk

theorem ret_int {k : IntKind} {a b : Int} (h : a = b) : Ending.returned (.int k a) = .returned (.int k b) := by rw [h]
theorem ret_bool {a b : Bool} (h : a = b) : Ending.returned (.bool a) = .returned (.bool b) := by rw [h]
theorem isTime_any (t : Int) (w : World) : Calls Try.prog 42 #[.int .i64 t] w fun e w' => e = .returned (.bool (isTm t)) ∧ w = w' := by
  by_cases h1 : 0 ≤ t <;> by_cases h2 : t ≤ 1099511627776
  all_goals
    go_enter Try.func42, Try.ntmps42
    go_wp2
    go_ret
    exact ⟨ret_bool (by simp [isTm, h1, h2]), rfl⟩
theorem nan64 (x : Int) (w : World) : Calls Try.prog 58 #[.int .i64 x] w fun e w' => e = .returned (.bool false) ∧ w = w' := by
  go_enter Try.func58, Try.ntmps58
  go_wp2
  go_ret
  exact ⟨rfl, rfl⟩
theorem nani (x : Int) (w : World) : Calls Try.prog 59 #[.int .i64 x] w fun e w' => e = .returned (.bool false) ∧ w = w' := by
  go_enter Try.func59, Try.ntmps59
  go_wp2
  go_ret
  exact ⟨rfl, rfl⟩
/-- -1, 0 or 1. -/
def cmpI (a b : Int) : Int := if a < b then -1 else if b < a then 1 else 0
theorem cmp64 (x y : Int) (w : World) : Calls Try.prog 46 #[.int .i64 x, .int .i64 y] w fun e w' => e = .returned (.int .i64 (cmpI x y)) ∧ w = w' := by
  rcases Int.lt_trichotomy x y with h | h | h
  · have Hd := Lib.hid (show cmpI x y = -1 by simp [cmpI, h])
    go_enter Try.func46, Try.ntmps46
    go_wp2_with ((with_reducible refine (nan64 _ _).mono ?_); rintro e w' ⟨rfl, rfl⟩)
    go_ret
    exact ⟨ret_int Hd.out.symm, rfl⟩
  · subst h
    have Hd := Lib.hid (show cmpI x x = 0 by simp [cmpI])
    go_enter Try.func46, Try.ntmps46
    go_wp2_with ((with_reducible refine (nan64 _ _).mono ?_); rintro e w' ⟨rfl, rfl⟩)
    go_ret
    exact ⟨ret_int Hd.out.symm, rfl⟩
  · have h' : ¬ x < y := by omega
    have Hd := Lib.hid (show cmpI x y = 1 by simp [cmpI, h, h'])
    go_enter Try.func46, Try.ntmps46
    go_wp2_with ((with_reducible refine (nan64 _ _).mono ?_); rintro e w' ⟨rfl, rfl⟩)
    go_ret
    exact ⟨ret_int Hd.out.symm, rfl⟩
theorem cmpint (x y : Int) (w : World) : Calls Try.prog 47 #[.int .i64 x, .int .i64 y] w fun e w' => e = .returned (.int .i64 (cmpI x y)) ∧ w = w' := by
  rcases Int.lt_trichotomy x y with h | h | h
  · have Hd := Lib.hid (show cmpI x y = -1 by simp [cmpI, h])
    go_enter Try.func47, Try.ntmps47
    go_wp2_with ((with_reducible refine (nani _ _).mono ?_); rintro e w' ⟨rfl, rfl⟩)
    go_ret
    exact ⟨ret_int Hd.out.symm, rfl⟩
  · subst h
    have Hd := Lib.hid (show cmpI x x = 0 by simp [cmpI])
    go_enter Try.func47, Try.ntmps47
    go_wp2_with ((with_reducible refine (nani _ _).mono ?_); rintro e w' ⟨rfl, rfl⟩)
    go_ret
    exact ⟨ret_int Hd.out.symm, rfl⟩
  · have h' : ¬ x < y := by omega
    have Hd := Lib.hid (show cmpI x y = 1 by simp [cmpI, h, h'])
    go_enter Try.func47, Try.ntmps47
    go_wp2_with ((with_reducible refine (nani _ _).mono ?_); rintro e w' ⟨rfl, rfl⟩)
    go_ret
    exact ⟨ret_int Hd.out.symm, rfl⟩
/-- The first that is not 0. -/
def orI (a b : Int) : Int := if a = 0 then b else a
theorem or_any (x y : Int) (b : Nat) (w : World) (h0 : w.cell? ⟨b, 0, none⟩ = some (.int .i64 x)) (h1 : w.cell? ⟨b, 1, none⟩ = some (.int .i64 y)) :
    Calls Try.prog 45 #[.slice (some ⟨b, 0, none⟩) 2 2] w fun e w' => e = .returned (.int .i64 (orI x y)) ∧ w = w' := by
  by_cases hx : x = 0
  · subst hx
    by_cases hy : y = 0
    · subst hy
      have Hd := Lib.hid (show orI 0 0 = 0 by simp [orI])
      go_enter Try.func45, Try.ntmps45
      go_wp2
      refine wp_loop_rounds 3 ?_; rw [rounds_succ]
      go_wp2
      rw [rounds_succ]
      go_wp2
      rw [rounds_succ]
      go_wp2
      go_ret
      exact ⟨ret_int Hd.out.symm, rfl⟩
    · have hy' : (y == 0) = false := by simpa using hy
      have hy2 : (y != 0) = true := by simpa using hy
      have Hd := Lib.hid (show orI 0 y = y by simp [orI])
      clear hy
      go_enter Try.func45, Try.ntmps45
      go_wp2
      refine wp_loop_rounds 3 ?_; rw [rounds_succ]
      go_wp2
      rw [rounds_succ]
      go_wp2
      go_ret
      exact ⟨ret_int Hd.out.symm, rfl⟩
  · have hx' : (x == 0) = false := by simpa using hx
    have hx2 : (x != 0) = true := by simpa using hx
    have Hd := Lib.hid (show orI x y = x by simp [orI, hx])
    clear hx
    go_enter Try.func45, Try.ntmps45
    go_wp2
    refine wp_loop_rounds 3 ?_; rw [rounds_succ]
    go_wp2
    go_ret
    exact ⟨ret_int Hd.out.symm, rfl⟩
/-- The order as compare tells it. -/
def cf (a b : It) : Int := orI (cmpI a.2 b.2) (cmpI a.1 b.1)
theorem cf_neg (a b : It) : decide (cf a b < 0) = bef a b := by
  rw [Bool.eq_iff_iff, bef_iff, decide_eq_true_eq]
  unfold cf orI cmpI
  split <;> rename_i h <;> (repeat' split at h) <;> (repeat' split) <;> omega
end Go.Proofs.Ytjcoghjkjnhljaa
