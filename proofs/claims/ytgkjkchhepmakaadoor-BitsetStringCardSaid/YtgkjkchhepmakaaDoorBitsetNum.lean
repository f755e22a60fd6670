/-
  THE STATEMENT BitsetString OF LAYER 4 (bitset): the reference's text.
-/
import Derived.Test.YtgkjkchhepmakaaDoorBitsetLaws
import Derived.Deep.RegionWith
namespace Go.Proofs.YtgkjkchhepmakaaDoor
open Go.RowKit Go.IntWalk

theorem numText_eq (k : Nat) : numText k = Lib.decDigits k := Lib.itoa_nonneg k
theorem numText_small (k : Nat) (h : k < 10) : numText k = [UInt8.ofNat (48 + k)] := by rw [numText_eq, Lib.decDigits_one h]
theorem numText_big (k : Nat) (h : ¬ k < 10) : numText k = numText (k / 10) ++ [UInt8.ofNat (48 + k % 10)] := by
  rw [numText_eq, numText_eq, Lib.decDigits, dif_neg h]
theorem numText_ne (k : Nat) : 0 < (numText k).length := by
  by_cases h : k < 10
  · rw [numText_small k h]; simp
  · rw [numText_big k h]; simp
theorem digit_cut (d : Nat) (h : d < 10) : (ByteArray.mk #[48, 49, 50, 51, 52, 53, 54, 55, 56, 57]).extract d (d + 1) = ⟨#[UInt8.ofNat (48 + d)]⟩ := by
  have : d = 0 ∨ d = 1 ∨ d = 2 ∨ d = 3 ∨ d = 4 ∨ d = 5 ∨ d = 6 ∨ d = 7 ∨ d = 8 ∨ d = 9 := by omega
  rcases this with rfl | rfl | rfl | rfl | rfl | rfl | rfl | rfl | rfl | rfl <;> rfl
theorem bytes_append (a b : List UInt8) : (ByteArray.mk a.toArray) ++ (ByteArray.mk b.toArray) = ⟨(a ++ b).toArray⟩ := by
  apply ByteArray.ext
  rw [ByteArray.data_append]
  simp
theorem num_any (k : Nat) : ∀ (_ : k < 65536) (w : World), Calls Tryd.prog 44 #[.int .i64 (k : Int)] w fun e w' => e = .returned (.string ⟨(numText k).toArray⟩) ∧ Below w.heap.size w w' := by
  induction k using Nat.strongRecOn with
  | _ k ih =>
    intro hk w
    by_cases h : k < 10
    · have hcut := digit_cut k h
      have ht := numText_small k h
      have h1 : ((k : Int) + 1).toNat = k + 1 := by omega
      go_enter Tryd.func44, Tryd.ntmps44
      go_wp2
      go_ret
      exact ⟨by rw [ht, UInt8.ofNat_add]; rfl, Below.refl _ _⟩
    · have hq : k / 10 < 65536 := by omega
      have e1 : (k : Int) / 10 = ((k / 10 : Nat) : Int) := by omega
      obtain ⟨d, hd⟩ : ∃ d, k % 10 = d := ⟨_, rfl⟩
      have e2 : (k : Int) % 10 = (d : Int) := by omega
      have e2t : (k : Int).tmod 10 = (d : Int) := by rw [Int.tmod_eq_emod_of_nonneg (by omega)]; omega
      have hd10 : d < 10 := by omega
      have hcut := digit_cut d hd10
      have ht := numText_big k h
      rw [hd] at ht
      have hih := ih (k / 10) (by omega) hq
      generalize k / 10 = m at e1 hih ht hq
      have h1 : ((d : Int) + 1).toNat = d + 1 := by omega
      clear ih
      have ht := Lib.hid ht
      have hwm : IntKind.i64.wrap (m : Int) = (m : Int) := by rw [IntKind.wrap_i64]; omega
      have hwd : IntKind.i64.wrap ((d : Int) + 1) = (d : Int) + 1 := by rw [IntKind.wrap_i64]; omega
      have hsz : (ByteArray.mk #[48, 49, 50, 51, 52, 53, 54, 55, 56, 57]).size = 10 := rfl
      have k1 : (d : Int) + 1 ≤ 10 := by omega
      have k4 : (0 : Int) ≤ (d : Int) + 1 := by omega
      have k5 : (d : Int) ≤ (d : Int) + 1 := by omega
      have hlen := numText_pos m hq
      have hadd : ∀ w, (Op.stringOp .add ⟨(numText m).toArray⟩ ⟨#[48 + UInt8.ofNat d]⟩).run Tryd.prog w = .ok (.string ⟨(numText m ++ [48 + UInt8.ofNat d]).toArray⟩) w := fun w => run_string_add_lists w (numText m) [48 + UInt8.ofNat d] (by have := hlen; omega) (by simp)
      have hwd0 : IntKind.i64.wrap (d : Int) = (d : Int) := by rw [IntKind.wrap_i64]; omega
      go_enter Tryd.func44, Tryd.ntmps44
      go_wp2
      go_region_with (go_at_call 44; (with_reducible refine (hih _).mono ?_); rintro e w1 ⟨rfl, hb⟩)
      all_goals simp only [List.getElem_toArray, List.getElem_cons_zero, List.getElem_cons_succ, Act.put, List.setIfInBounds_toArray, List.set_cons_succ, List.set_cons_zero]
      all_goals go_wp2
      all_goals go_ret
      all_goals exact ⟨by rw [ht.out, UInt8.ofNat_add]; rfl, (Below.refl w.heap.size w).drew.trans hb⟩

theorem rstring_any (p : Option Addr) (n c : Nat) (x : List Nat) (w : World) (hl : x.length = n) (hs : n ≤ 65536) (hx : ∀ k ∈ x, k < 65536) (h : Rd iv w p c (x.map fun k : Nat => (k : Int))) :
    Calls Tryd.prog 33 #[.slice p n c] w fun e w' => e = .returned (.string ⟨(setText x).toArray⟩) ∧ Below w.heap.size w w' := by
  subst hl
  have hcap := h.cap
  have hmax := h.max
  have hll : (x.map fun k : Nat => (k : Int)).length = x.length := by simp
  rw [hll] at hcap
  have hlen : ∀ k, k ≤ x.length → (acc (x.take k)).length ≤ 1441793 := fun k hk => by
    have := acc_len (x.take k) fun j hj => hx j (List.mem_of_mem_take hj)
    rw [List.length_take] at this
    omega
  have hlenH := Lib.hid hlen
  have hxH := Lib.hid hx
  clear hlen hx hmax hll
  go_enter Tryd.func33, Tryd.ntmps33
  go_wp2
  go_loopw [3, 8] (fun v i wr => ∃ (k : Nat) (ts : List UInt8), v = .string ⟨ts.toArray⟩ ∧ i = .int .i64 (k : Int) ∧ k ≤ x.length ∧ Hid (ts = acc (x.take k)) ∧ Hid (Below w.heap.size w wr)) (fun _ i _ => x.length - (intOf i).toNat)
  case atStart => exact ⟨0, [123], rfl, rfl, Nat.zero_le _, rfl, Below.refl _ _⟩
  case round =>
    obtain ⟨k, ts, rfl, rfl, hk, hts, hb⟩ := hrel
    have htl := hlenH.out k hk
    rw [← hts.out] at htl
    rcases Nat.lt_or_ge k x.length with hlt | hge
    · obtain ⟨b, o, rfl, -⟩ := h.cells (by simp; omega)
      have hcell := (h.kept hb.out).int k (by simpa using hlt)
      obtain ⟨z, hz⟩ : ∃ z, x.getD k 0 = z := ⟨_, rfl⟩
      have hzi : (x.map fun k : Nat => (k : Int)).getD k 0 = (z : Int) := by rw [← hz]; simp [List.getD, hlt]
      rw [hzi] at hcell
      have hz6 : z < 65536 := by rw [← hz]; exact hxH.out _ (by simp [List.getD, hlt])
      have hstep := Lib.hid (show acc (x.take (k + 1)) = ts ++ (if 1 < ts.length then [32] else []) ++ numText z by
        rw [hts.out, ← acc_snoc, ← hz, List.take_add_one]; simp [List.getD, hlt])
      clear hzi hz
      have hn21 := numText_pos z hz6
      by_cases hk0 : 0 < k
      · have htp : 1 < ts.length := by
          rw [hts.out]
          obtain ⟨m, rfl⟩ : ∃ m, k = m + 1 := ⟨k - 1, by omega⟩
          have h1 : ∀ (l : List Nat), 1 ≤ (acc l).length := fun l => by
            rcases List.eq_nil_or_concat l with rfl | ⟨a, b, rfl⟩
            · decide
            · have := numText_ne b
              rw [List.concat_eq_append, acc_snoc]; simp only [List.length_append]; omega
          have := h1 (x.take m)
          have h2 := numText_ne (x.getD m 0)
          have e : acc (x.take (m + 1)) = acc (x.take m) ++ (if 1 < (acc (x.take m)).length then [32] else []) ++ numText (x.getD m 0) := by
            rw [← acc_snoc, List.take_add_one]; simp [List.getD, show m < x.length by omega]
          rw [e]
          simp only [List.length_append]
          omega
        have hstep := Lib.hid (show acc (x.take (k + 1)) = ts ++ [32] ++ numText z by rw [hstep.out, if_pos htp])
        have hts2 : (ts ++ [32]).length ≤ 1441794 := by simp; omega
        have hadd0 : ∀ w, (Op.stringOp .add ⟨ts.toArray⟩ ⟨#[32]⟩).run Tryd.prog w = .ok (.string ⟨(ts ++ [32]).toArray⟩) w := fun w => run_string_add_lists w ts [32] (by omega) (by simp)
        have hadd : ∀ w, (Op.stringOp .add ⟨(ts ++ [32]).toArray⟩ ⟨(numText z).toArray⟩).run Tryd.prog w = .ok (.string ⟨(ts ++ [32] ++ numText z).toArray⟩) w := fun w => run_string_add_lists w (ts ++ [32]) (numText z) (by omega) (by omega)
        clear htp
        obtain ⟨us, hus⟩ : ∃ us, ts ++ [32] = us := ⟨_, rfl⟩
        rw [hus] at hstep hadd0 hadd hts2
        obtain ⟨vs, hvs⟩ : ∃ vs, us ++ numText z = vs := ⟨_, rfl⟩
        rw [hvs] at hstep hadd
        clear hus hvs
        go_wp2_with (go_at_call 44; (with_reducible refine (num_any _ hz6 _).mono ?_); rintro e w1 ⟨rfl, hb1⟩)
        go_roundw
        case rel => exact ⟨k + 1, vs, rfl, by simp, hlt, Lib.hid hstep.out.symm, hb.out.trans (hb1.mono hb.out.size)⟩
        case measure => simp [intOf]; omega
      · have hts1 := hts.out
        rw [show k = 0 by omega, List.take_zero, show acc [] = [123] from rfl] at hts1
        subst hts1
        have hadd : ∀ w, (Op.stringOp .add ⟨#[123]⟩ ⟨(numText z).toArray⟩).run Tryd.prog w = .ok (.string ⟨([123] ++ numText z).toArray⟩) w := fun w => run_string_add_lists w [123] (numText z) (by simp) (by omega)
        obtain ⟨vs, hvs⟩ : ∃ vs, [123] ++ numText z = vs := ⟨_, rfl⟩
        have hstep := Lib.hid (show acc (x.take (k + 1)) = vs by rw [hstep.out, ← hvs]; rfl)
        rw [hvs] at hadd
        have hk1 : decide (0 < (k : Int)) = false := by simp; omega
        have hk2 : decide (0 < k) = false := by simp; omega
        clear hvs hk0
        go_wp2_with (go_at_call 44; (with_reducible refine (num_any _ hz6 _).mono ?_); rintro e w1 ⟨rfl, hb1⟩)
        go_roundw
        case rel => exact ⟨k + 1, vs, rfl, by simp, hlt, Lib.hid hstep.out.symm, hb.out.trans (hb1.mono hb.out.size)⟩
        case measure => simp [intOf]; omega
    · obtain rfl : k = x.length := by omega
      have hend : ∀ w, (Op.stringOp .add ⟨ts.toArray⟩ ⟨#[125]⟩).run Tryd.prog w = .ok (.string ⟨(ts ++ [125]).toArray⟩) w := fun w => run_string_add_lists w ts [125] (by omega) (by simp)
      go_wp2
      go_ret
      have hy := hts.out
      rw [List.take_length] at hy
      exact ⟨by rw [setText, hy]; rfl, hb.out⟩
end Go.Proofs.YtgkjkchhepmakaaDoor
