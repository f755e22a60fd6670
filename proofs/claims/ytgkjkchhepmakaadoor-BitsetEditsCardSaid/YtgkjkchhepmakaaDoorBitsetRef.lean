/-
  CONTRACTS OF THE REFERENCE OF LAYER 4 (bitset): ascending lists of integers.
-/
import Derived.Test.YtgkjkchhepmakaaDoorBitsetAll
namespace Go.Proofs.YtgkjkchhepmakaaDoor
open Go.RowKit Go.IntWalk

theorem Rd.int {w : World} {b o c : Nat} {l : List Int} (h : Rd iv w (some ⟨b, o, none⟩) c l) (i : Nat) (hi : i < l.length) : w.cell? ⟨b, o + i, none⟩ = some (.int .i64 (l.getD i 0)) := h.at i 0 hi
theorem elem_int : Tryd.prog.elem 22 = 3 := by kernel_rfl
theorem size_int (w : World) : (sizeOf (Tryd.prog.elem 22)).run Tryd.prog w = .ok 1 w := by rw [elem_int]; exact Tryd.sizeOf3 w
/-- The integer is one of a word. -/
def W64In (z : Int) : Prop := -9223372036854775808 ≤ z ∧ z ≤ 9223372036854775807

theorem small_any (p : Option Addr) (n c : Nat) (w : World) :
    Calls Tryd.prog 12 #[.slice p n c] w fun e w' => e = .returned (.bool (decide (n ≤ 60))) ∧ w = w' := by
  go_enter Tryd.func12, Tryd.ntmps12
  go_wp2
  go_ret
  exact ⟨ret_bool (by rw [Bool.eq_iff_iff, decide_eq_true_eq, decide_eq_true_eq]; omega), rfl⟩
def okZ (z : Int) : Bool := decide (0 ≤ z) && decide (z ≤ 65535)
theorem valid_any (z : Int) (w : World) :
    Calls Tryd.prog 41 #[.int .i64 z] w fun e w' => e = .returned (.bool (okZ z)) ∧ w = w' := by
  go_enter Tryd.func41, Tryd.ntmps41
  go_wp2
  all_goals go_ret
  all_goals exact ⟨ret_bool (by unfold okZ; first | (simp [*]; done) | (simp [*]; omega)), rfl⟩
theorem contains_step (l : List Int) (k : Nat) (h : k < l.length) (z : Int) : (l.take (k + 1)).contains z = ((l.take k).contains z || (l.getD k 0 == z)) := by
  have e : l.getD k 0 = l[k] := by simp [List.getD, h]
  have e2 : [l[k]].contains z = (l[k] == z) := by
    by_cases hh : l[k] = z
    · simp [hh]
    · simp [hh, Ne.symm hh]
  rw [List.take_succ_eq_append_getElem h, List.contains_append, e, e2]
theorem rhas_any (p : Option Addr) (n c : Nat) (l : List Int) (z : Int) (w : World) (hl : l.length = n) (h : Rd iv w p c l) :
    Calls Tryd.prog 17 #[.slice p n c, .int .i64 z] w fun e w' => e = .returned (.bool (l.contains z)) ∧ w = w' := by
  subst hl
  have hcap := h.cap
  have hmax := h.max
  go_enter Tryd.func17, Tryd.ntmps17
  go_wp2
  go_loopw [9] (fun v wr => ∃ k : Nat, v = .int .i64 (k : Int) ∧ k ≤ l.length ∧ Hid ((l.take k).contains z = false) ∧ wr = w) (fun v _ => l.length - (intOf v).toNat)
  case atStart => exact ⟨0, rfl, Nat.zero_le _, by simp [Hid], rfl⟩
  case round =>
    obtain ⟨k, rfl, hk, hno, rfl⟩ := hrel
    rcases Nat.lt_or_ge k l.length with hlt | hge
    · obtain ⟨b, o, rfl, -⟩ := h.cells (by omega)
      have hcell := h.int k hlt
      have hnx := Lib.hid (contains_step l k hlt z)
      have hin := Lib.hid (show l.getD k 0 ∈ l by simp [List.getD, hlt])
      generalize l.getD k 0 = y at hcell hnx hin
      go_wp2
      · rename_i hy
        go_ret
        have hy : y = z := by simpa using hy
        subst hy
        exact ⟨ret_bool (by simpa using hin.out), rfl⟩
      · rename_i hy
        exact ⟨⟨k + 1, by simp, hlt, by rw [hnx.out, hno.out, hy]; rfl, trivial⟩, by simp [intOf]; omega⟩
    · obtain rfl : k = l.length := by omega
      go_wp2
      go_ret
      have h1 := hno.out
      rw [List.take_length] at h1
      exact ⟨ret_bool h1.symm, rfl⟩

/-- z at its place among l. -/
def putZ (l : List Int) (z : Int) : List Int := l.takeWhile (decide <| · < z) ++ z :: l.dropWhile (decide <| · < z)
def insZ (l : List Int) (z : Int) : List Int := if okZ z && !l.contains z then putZ l z else l
theorem while_step (l : List Int) (z : Int) (k : Nat) (h : k < l.length) (hall : ∀ i, i < k → l.getD i 0 < z) (hk : ¬ l.getD k 0 < z) : l.takeWhile (decide <| · < z) = l.take k ∧ l.dropWhile (decide <| · < z) = l.drop k := by
  induction l generalizing k with
  | nil => simp at h
  | cons a r ih =>
    cases k with
    | zero =>
      have ha : ¬ a < z := by simpa using hk
      simp [ha]
    | succ k =>
      have ha : a < z := by simpa using hall 0 (by omega)
      have := ih k (by simpa using h) (fun i hi => by simpa using hall (i + 1) (by omega)) (by simpa using hk)
      simp [ha, this.1, this.2]
theorem while_all (l : List Int) (z : Int) (hall : ∀ i, i < l.length → l.getD i 0 < z) : l.takeWhile (decide <| · < z) = l ∧ l.dropWhile (decide <| · < z) = [] := by
  induction l with
  | nil => simp
  | cons a r ih =>
    have ha : a < z := by simpa using hall 0 (by simp)
    have := ih fun i hi => by simpa using hall (i + 1) (by simpa using hi)
    simp [ha, this.1, this.2]

end Go.Proofs.YtgkjkchhepmakaaDoor
