/-
  LAYER 11's REFERENCE: value.
-/
import Derived.Test.YtddffijipphfeaaDoorIsaLaws1
namespace Go.Proofs.YtddffijipphfeaaDoor
open Go Go.RowKit Go.IntWalk
open Go.Lib (itoa)
set_option linter.unusedSimpArgs false
set_option linter.unusedVariables false
set_option maxRecDepth 8000
/-- The digits of a text, modulo 2^16. -/
def vdig (n : Nat) : List UInt8 → Nat
  | [] => n
  | c :: l => vdig (if 48 ≤ c.toNat ∧ c.toNat ≤ 57 then (10 * n + (c.toNat - 48)) % 65536 else n) l
theorem vdig_append (n : Nat) (l r : List UInt8) : vdig n (l ++ r) = vdig (vdig n l) r := by
  induction l generalizing n with
  | nil => rfl
  | cons c l ih => exact ih _
theorem vdig_lt (n : Nat) (l : List UInt8) (h : n < 65536) : vdig n l < 65536 := by
  induction l generalizing n with
  | nil => exact h
  | cons c l ih =>
    refine ih _ ?_
    split
    · exact Nat.mod_lt _ (by decide)
    · exact h
theorem vdig_dval (n m : Nat) (l : List UInt8) (hd : ∀ c ∈ l, 48 ≤ c.toNat ∧ c.toNat ≤ 57) (h : n = m % 65536) : vdig n l = dval m l % 65536 := by
  induction l generalizing n m with
  | nil => exact h
  | cons c l ih =>
    show vdig _ l = dval _ l % 65536
    rw [if_pos (hd c (List.mem_cons_self ..))]
    refine ih _ _ (fun d hd' => hd d (List.mem_cons_of_mem _ hd')) ?_
    rw [h]
    omega
def valF (l : List UInt8) : Int := if l.head? = some 45 then 0 - (vdig 0 l : Int) else (vdig 0 l : Int)
theorem vdig_dec (u : Nat) (h : u < 65536) : vdig 0 (Lib.decDigits u) = u := by
  rw [vdig_dval 0 0 _ (fun c hc => decDigits_digit u c hc) rfl, dval_decDigits]
  exact Nat.mod_eq_of_lt h
theorem head_dec (u : Nat) : (Lib.decDigits u).head? ≠ some 45 := fun h => by
  have hm : (45 : UInt8) ∈ Lib.decDigits u := List.mem_of_head? h
  have := decDigits_digit u 45 hm
  revert this; decide
theorem valF_itoa (z : Int) (h : -32768 ≤ z ∧ z ≤ 32767) : valF (itoa z) = z := by
  rcases Int.lt_or_le z 0 with hz | hz
  · obtain ⟨u, rfl⟩ : ∃ u : Nat, z = -(u : Int) := ⟨z.natAbs, by omega⟩
    rw [Lib.itoa_neg u (by omega)]
    simp only [valF, List.head?_cons, if_true]
    show 0 - ((vdig 0 (Lib.decDigits u) : Nat) : Int) = _
    rw [vdig_dec u (by omega)]
    omega
  · obtain ⟨u, rfl⟩ : ∃ u : Nat, z = u := ⟨z.toNat, by omega⟩
    rw [Lib.itoa_nonneg]
    unfold valF
    rw [if_neg (head_dec u), vdig_dec u (by omega)]
theorem valF_reg (z : Int) (h : 0 ≤ z ∧ z ≤ 7) : valF (114 :: itoa z) = z := by
  obtain ⟨u, rfl⟩ : ∃ u : Nat, z = u := ⟨z.toNat, by omega⟩
  rw [Lib.itoa_nonneg]
  unfold valF
  rw [if_neg (by simp)]
  show ((vdig 0 (Lib.decDigits u) : Nat) : Int) = _
  rw [vdig_dec u (by omega)]
theorem rvalue_any (s : ByteArray) (hs : s.size ≤ 1000) (w : World) : Calls Tryd.prog 53 #[.string s] w fun e w' => e = .returned (.int .i64 (valF s.data.toList)) ∧ Grew w w' := by
  go_enter Tryd.func53, Tryd.ntmps53
  go_wp2
  go_loopg [3, 4] s.size (fun gg nv iv wr => ∃ (k n : Nat), nv = .int .i64 (n : Int) ∧ iv = .int .i64 (k : Int) ∧ k ≤ s.size ∧ gg = s.size - k ∧ n < 65536 ∧ Hid (n = vdig 0 (s.data.toList.take k)) ∧ wr = w)
  case atStart => exact ⟨0, 0, rfl, rfl, Nat.zero_le _, rfl, by omega, Lib.hid rfl, rfl⟩
  case round =>
    obtain ⟨k, n, rfl, rfl, hk, rfl, hn, HN, rfl⟩ := hrel
    by_cases hlt : k < s.size
    · have HS := Lib.hid (show vdig 0 (s.data.toList.take (k + 1)) = (if 48 ≤ s[k].toNat ∧ s[k].toNat ≤ 57 then (10 * n + (s[k].toNat - 48)) % 65536 else n) by rw [take_snoc s k hlt, vdig_append, ← HN.out]; rfl)
      have HK := Lib.hid hlt
      have hub := s[k].toNat_lt
      by_cases g : 48 ≤ s[k].toNat ∧ s[k].toNat ≤ 57
      · have G := Lib.hid g
        obtain ⟨g1, g2⟩ := g
        have e1 : ((10 * (n : Int)) + ((s[k].toNat : Int) - 48)).tmod 65536 = (((10 * n + (s[k].toNat - 48)) % 65536 : Nat) : Int) := by rw [Int.tmod_eq_emod_of_nonneg (by omega)]; omega
        go_wp2
        all_goals first | (exfalso; omega) | skip
        go_roundg (s.size - (k + 1))
        case measure => have := HK.out; omega
        case rel => exact ⟨k + 1, (10 * n + (s[k].toNat - 48)) % 65536, congrArg (Value.int .i64) (by omega), by go_num, HK.out, rfl, Nat.mod_lt _ (by decide), Lib.hid ((HS.out.trans (if_pos G.out)).symm), rfl⟩
      · have G := Lib.hid g
        go_wp2
        all_goals first | (exfalso; omega) | skip
        all_goals (go_roundg (s.size - (k + 1)); (case measure => have := HK.out; omega); (case rel => exact ⟨k + 1, n, rfl, by go_num, HK.out, rfl, hn, Lib.hid ((HS.out.trans (if_neg G.out)).symm), rfl⟩))
    · obtain rfl : k = s.size := by omega
      have HV : Hid (n = vdig 0 s.data.toList) := Lib.hid (by rw [HN.out, List.take_of_length_le (by show s.data.toList.length ≤ s.size; simp)])
      clear HN
      by_cases h0 : s.size = 0
      · have HF := Lib.hid (show valF s.data.toList = n by
          have hl : s.data.toList = [] := List.eq_nil_of_length_eq_zero (by simpa using h0)
          unfold valF; rw [← HV.out, hl]; simp)
        have h1 : ¬ (0 : Int) < (s.size : Int) := by omega
        go_wp2
        go_ret
        exact ⟨ret_i64 HF.out.symm, Grew.refl _⟩
      · have hp : 0 < s.size := by omega
        have hh : s.data.toList.head? = some s[0] := by
          rw [List.head?_eq_getElem?]
          exact List.getElem?_eq_getElem (l := s.data.toList) (i := 0) (by simpa using hp)
        by_cases h45 : s[0] = 45
        · have HF := Lib.hid (show valF s.data.toList = 0 - (n : Int) by unfold valF; rw [← HV.out, hh, h45]; simp)
          have e1 : ((s[0].toNat : Int) == 45) = true := by rw [h45]; rfl
          clear h45 hh
          go_wp2
          go_ret
          exact ⟨ret_i64 (by rw [HF.out]; omega), Grew.refl _⟩
        · have HF := Lib.hid (show valF s.data.toList = n by unfold valF; rw [← HV.out, hh, if_neg (by simpa using h45)])
          have e1 : ((s[0].toNat : Int) == 45) = false := by
            cases h : ((s[0].toNat : Int) == 45)
            · rfl
            · exact absurd (UInt8.toNat_inj.1 (by have := eq_of_beq h; show s[0].toNat = 45; omega)) h45
          clear h45 hh
          go_wp2
          go_ret
          exact ⟨ret_i64 HF.out.symm, Grew.refl _⟩
end Go.Proofs.YtddffijipphfeaaDoor
