/-
  The statements of layer 3 (cobs) about Encode, Decode and Size, walked.
-/
import Derived.Test.YtkkooghmeoodaaaCobsLaws
namespace Go.Proofs.Ytkkooghmeoodaaa
open Go.RowKit Go.IntWalk

theorem encode_walk (p : Option Addr) (n c : Nat) (xs : List UInt8) (w : World) (hl : xs.length = n) (h : Bin w p c xs) :
    Calls Try.prog 3 #[.slice p n c] w fun e w' => e = .returned (.bool true) ∧ Below w.heap.size w w' := by
  have HB := Lib.hid (Below.refl w.heap.size w)
  by_cases hn : 1200 < n
  · go_enter Try.func3, Try.ntmps3
    go_wp2_with (go_at_call 11; (with_reducible refine (wakes_any _).mono ?_); rintro e w1 ⟨rfl, hb1⟩; replace HB := Lib.hid (HB.out.trans (hb1.mono HB.out.size)); clear hb1)
    go_ret
    exact ⟨rfl, HB.out⟩
  · go_enter Try.func3, Try.ntmps3
    go_wp2_with (first
      | (go_at_call 11; (with_reducible refine (wakes_any _).mono ?_); rintro e w1 ⟨rfl, hb1⟩; replace HB := Lib.hid (HB.out.trans (hb1.mono HB.out.size)); clear hb1)
      | (go_at_call 13; (with_reducible refine (encode_any _ _ _ xs _ hl (by omega) (h.kept HB.out)).mono ?_); rintro e w2 ⟨p2, c2, rfl, ho2, hb2⟩; replace HB := Lib.hid (HB.out.trans (hb2.mono HB.out.size)); clear hb2)
      | (go_at_call 14; (with_reducible refine (rencode_any _ _ _ xs _ hl (by omega) (h.kept HB.out)).mono ?_); rintro e w3 ⟨p3, c3, rfl, ho3, hb3⟩; replace HB := Lib.hid (HB.out.trans (hb3.mono HB.out.size)); have hi2 := ho2.bin.2.kept hb3; clear hb3)
      | (go_at_call 12; (with_reducible refine (same_ex _ _ _ (encz xs) _ _ _ _ rfl hi2 rfl ho3.bin.2).mono ?_); rintro e w4 ⟨rfl, rfl⟩))
    go_ret
    exact ⟨rfl, HB.out⟩

theorem decode_walk (p : Option Addr) (n c : Nat) (xs : List UInt8) (w : World) (hl : xs.length = n) (h : Bin w p c xs) :
    Calls Try.prog 4 #[.slice p n c] w fun e w' => e = .returned (.bool true) ∧ Below w.heap.size w w' := by
  have HB := Lib.hid (Below.refl w.heap.size w)
  by_cases hn : 1200 < n
  · go_enter Try.func4, Try.ntmps4
    go_wp2_with (go_at_call 11; (with_reducible refine (wakes_any _).mono ?_); rintro e w1 ⟨rfl, hb1⟩; replace HB := Lib.hid (HB.out.trans (hb1.mono HB.out.size)); clear hb1)
    go_ret
    exact ⟨rfl, HB.out⟩
  · go_enter Try.func4, Try.ntmps4
    go_wp2_with (first
      | (go_at_call 11; (with_reducible refine (wakes_any _).mono ?_); rintro e w1 ⟨rfl, hb1⟩; replace HB := Lib.hid (HB.out.trans (hb1.mono HB.out.size)); clear hb1)
      | (go_at_call 15; (with_reducible refine (decode_any _ _ _ xs _ hl (by omega) (h.kept HB.out)).mono ?_); rintro e w2 ⟨p2, c2, rfl, ho2, hb2⟩; replace HB := Lib.hid (HB.out.trans (hb2.mono HB.out.size)); clear hb2)
      | (go_at_call 16; (with_reducible refine (rdecode_any _ _ _ xs _ hl (by omega) (h.kept HB.out)).mono ?_); rintro e w3 ⟨p3, c3, rfl, ho3, hb3⟩; replace HB := Lib.hid (HB.out.trans (hb3.mono HB.out.size)); have hi2 := ho2.bin.2.kept hb3; clear hb3)
      | (go_at_call 12; (with_reducible refine (same_ex _ _ _ (dec xs).1 _ _ _ _ rfl hi2 rfl ho3.bin.2).mono ?_); rintro e w4 ⟨rfl, rfl⟩))
    go_ret
    exact ⟨rfl, HB.out⟩

theorem trip_walk (p : Option Addr) (n c : Nat) (xs : List UInt8) (w : World) (hl : xs.length = n) (h : Bin w p c xs) :
    Calls Try.prog 5 #[.slice p n c] w fun e w' => e = .returned (.bool true) ∧ Below w.heap.size w w' := by
  subst hl
  have HB := Lib.hid (Below.refl w.heap.size w)
  by_cases hn : 1200 < xs.length
  · go_enter Try.func5, Try.ntmps5
    go_wp2_with (go_at_call 11; (with_reducible refine (wakes_any _).mono ?_); rintro e w1 ⟨rfl, hb1⟩; replace HB := Lib.hid (HB.out.trans (hb1.mono HB.out.size)); clear hb1)
    go_ret
    exact ⟨rfl, HB.out⟩
  · have hz : (encz xs).length ≤ 4294967296 := by
      have h1 := (enc_Enc xs).le
      have h2 := top_le xs.length
      unfold encz; simp; omega
    have hd : ∀ (q : Option Addr) (d : Nat) (w : World), Bin w q d (encz xs) → Calls Try.prog 15 #[.slice q (encz xs).length d] w fun e w' => ∃ p' c', e = .returned (.tuple #[.slice p' xs.length c', .int .i64 0]) ∧ Own w' w.heap.size 5 (.slice p' xs.length c') xs ∧ Below w.heap.size w w' := fun q d w h =>
      (decode_any q _ d _ w rfl hz h).mono fun e w' h => by
        unfold Decoded at h
        rw [dec_encz] at h
        exact h
    go_enter Try.func5, Try.ntmps5
    go_wp2_with (first
      | (go_at_call 11; (with_reducible refine (wakes_any _).mono ?_); rintro e w1 ⟨rfl, hb1⟩; replace HB := Lib.hid (HB.out.trans (hb1.mono HB.out.size)); clear hb1)
      | (go_at_call 13; (with_reducible refine (encode_any _ _ _ xs _ rfl (by omega) (h.kept HB.out)).mono ?_); rintro e w2 ⟨p2, c2, rfl, ho2, hb2⟩; replace HB := Lib.hid (HB.out.trans (hb2.mono HB.out.size)); clear hb2)
      | (go_at_call 15; (with_reducible refine (hd _ _ _ ho2.bin.2).mono ?_); rintro e w3 ⟨p3, c3, rfl, ho3, hb3⟩; replace HB := Lib.hid (HB.out.trans (hb3.mono HB.out.size)); clear hb3)
      | (go_at_call 12; (with_reducible refine (same_ex _ _ _ xs _ _ _ _ rfl ho3.bin.2 rfl (h.kept HB.out)).mono ?_); rintro e w4 ⟨rfl, rfl⟩))
    go_ret
    exact ⟨rfl, HB.out⟩

theorem encz_zero (xs : List UInt8) (k : Nat) (hk : k < (encz xs).length) : (encz xs).getD k 0 = 0 ↔ k + 1 = (encz xs).length := by
  have hl : (encz xs).length = (enc xs).length + 1 := by simp [encz]
  have hz := (enc_Enc xs).nz
  rw [hl] at hk ⊢
  by_cases h : k < (enc xs).length
  · have : (encz xs).getD k 0 = (enc xs)[k] := by simp [encz, List.getD, List.getElem?_append, h]
    rw [this]
    have := hz _ (List.getElem_mem h)
    constructor
    · intro e; exact absurd e this
    · intro e; omega
  · obtain rfl : k = (enc xs).length := by omega
    simp [encz, List.getD]

set_option maxRecDepth 20000 in
set_option maxHeartbeats 1000000 in
theorem zeros_walk (p : Option Addr) (n c : Nat) (xs : List UInt8) (w : World) (hl : xs.length = n) (h : Bin w p c xs) :
    Calls Try.prog 6 #[.slice p n c] w fun e w' => e = .returned (.bool true) ∧ Below w.heap.size w w' := by
  have HB := Lib.hid (Below.refl w.heap.size w)
  by_cases hn : 1200 < n
  · go_enter Try.func6, Try.ntmps6
    go_wp2_with (go_at_call 11; (with_reducible refine (wakes_any _).mono ?_); rintro e w1 ⟨rfl, hb1⟩; replace HB := Lib.hid (HB.out.trans (hb1.mono HB.out.size)); clear hb1)
    go_ret
    exact ⟨rfl, HB.out⟩
  · have hz1 : (encz xs).length ≤ top xs.length + 1 := by
      have h1 := (enc_Enc xs).le
      unfold encz; simp; omega
    have hz2 : 2 ≤ (encz xs).length := by
      have h1 := (enc_Enc xs).pos
      unfold encz; simp; omega
    have ht := top_le xs.length
    have hsz := sz_nat xs.length
    subst hl
    obtain ⟨L, hL⟩ : ∃ L, L = (encz xs).length := ⟨_, rfl⟩
    have HZ := Lib.hid (encz_zero xs)
    have hen : ∀ w1 : World, Bin w1 p c xs → Calls Try.prog 13 #[.slice p xs.length c] w1 fun e w' => ∃ g c', e = .returned (.slice (some ⟨g, 0, none⟩) L c') ∧ L ≤ c' ∧ c' ≤ 9223372036854775807 ∧ Hid (Bin w' (some ⟨g, 0, none⟩) c' (encz xs)) ∧ Below w1.heap.size w1 w' := fun w1 h1 =>
      (encode_any p _ c xs w1 rfl (by omega) h1).mono fun e w' hh => by
        obtain ⟨p', c', rfl, ho, hb⟩ := hh
        obtain ⟨g, rfl, _, _⟩ := ho.at (by omega)
        have hbin := ho.bin.2
        exact ⟨g, c', by rw [hL], by rw [hL]; exact hbin.cap, hbin.max, hbin, hb⟩
    have HL := Lib.hid hL
    rw [← hL] at hz1 hz2
    clear hL
    go_enter Try.func6, Try.ntmps6
    go_wp2_with (first
      | (go_at_call 11; (with_reducible refine (wakes_any _).mono ?_); rintro e w1 ⟨rfl, hb1⟩; replace HB := Lib.hid (HB.out.trans (hb1.mono HB.out.size)); clear hb1)
      | (go_at_call 13; (with_reducible refine (hen _ (h.kept HB.out)).mono ?_); rintro e w2 ⟨g, c2, rfl, hc2, hc3, hi2, hb2⟩; replace HB := Lib.hid (HB.out.trans (hb2.mono HB.out.size)); clear hb2)
      | (go_at_call 17; (with_reducible refine (size_int _ (by omega) (by omega) _).mono ?_); rintro e w3 ⟨rfl, rfl⟩))
    go_loopg [4, 5, 21] L (fun g i v j wr => ∃ k : Nat, wr = w2 ∧ j = .int .i64 k ∧ k ≤ L ∧ g = L - k)
    case atStart => exact ⟨0, rfl, rfl, by omega, rfl⟩
    case round =>
      obtain ⟨k, rfl, rfl, hk, rfl⟩ := hrel
      by_cases hkL : k < L
      · have hcx := hi2.out.cell k (by rw [← HL.out]; exact hkL)
        have hze := HZ.out k (by rw [← HL.out]; exact hkL)
        rw [← HL.out] at hze
        rw [Nat.zero_add] at hcx
        obtain ⟨d, hd⟩ : ∃ d, d = (encz xs).getD k 0 := ⟨_, rfl⟩
        rw [← hd] at hcx hze
        have l1 := d.toNat_lt
        clear hd
        have hkL' : (k : Int) < L := by omega
        have hb : ((d.toNat : Int) == 0) = ((k : Int) == (L : Int) - 1) := by
          rw [Bool.eq_iff_iff]
          simp only [beq_iff_eq]
          constructor
          · intro e
            have := hze.1 (UInt8.toNat_inj.1 (by simpa using e))
            omega
          · intro e
            have := hze.2 (by omega)
            simp [this]
        clear hze
        go_wp2_with fail
        all_goals (go_roundg (L - (k + 1)))
        all_goals try (case measure => omega)
        all_goals exact ⟨k + 1, rfl, by go_num, by omega, rfl⟩
      · obtain rfl : k = L := by omega
        go_wp2_with fail
        go_ret
        exact ⟨ret_bool (by simp; omega), HB.out⟩

theorem Own.grown_list {bs : List UInt8} {d : UInt8} {k : Nat} (h : bs = List.replicate k d) : bs ++ [d] = List.replicate (k + 1) d := by
  rw [h, List.replicate_succ']
theorem encz_full (n : Nat) (d : UInt8) (hd : d ≠ 0) : (encz (List.replicate n d)).length = top n + 1 := by
  have h := (enc_Enc (List.replicate n d)).eq_of_nz (fun c hc => by rw [List.eq_of_mem_replicate hc]; exact hd)
  rw [List.length_replicate] at h
  simp [encz, h]
theorem byte_cell (d : UInt8) : #[Value.int .u8 (d.toNat : Int)] = (bvs [d]).toArray := rfl

set_option maxRecDepth 20000 in
set_option maxHeartbeats 1000000 in
theorem size_walk (z : Int) (d : UInt8) (w : World) (h0 : -9223372036854775808 ≤ z) (h1 : z ≤ 9223372036854775807) :
    Calls Try.prog 7 #[.int .i64 z, .int .u8 (d.toNat : Int)] w fun e w' => e = .returned (.bool true) ∧ Below w.heap.size w w' := by
  have HB := Lib.hid (Below.refl w.heap.size w)
  have l1 := d.toNat_lt
  by_cases hn : 1099511627776 < z
  · go_enter Try.func7, Try.ntmps7
    go_wp2_with (go_at_call 11; (with_reducible refine (wakes_any _).mono ?_); rintro e w1 ⟨rfl, hb1⟩; replace HB := Lib.hid (HB.out.trans (hb1.mono HB.out.size)); clear hb1)
    go_ret
    exact ⟨rfl, HB.out⟩
  · by_cases hs : d ≠ 0 ∧ 0 ≤ z ∧ z ≤ 1200
    · obtain ⟨hd, hz0, hz1⟩ := hs
      obtain ⟨n, rfl⟩ : ∃ n : Nat, z = n := ⟨z.toNat, by omega⟩
      have hdz : ((d.toNat : Int) == 0) = false := by
        simp only [beq_eq_false_iff_ne, ne_eq]
        intro e
        exact hd (UInt8.toNat_inj.1 (by simpa using e))
      have hsz := sz_nat n
      have HF := Lib.hid (encz_full n d hd)
      clear hd
      go_enter Try.func7, Try.ntmps7
      go_wp2_with (first
        | (go_at_call 11; (with_reducible refine (wakes_any _).mono ?_); rintro e w1 ⟨rfl, hb1⟩; replace HB := Lib.hid (HB.out.trans (hb1.mono HB.out.size)); clear hb1)
        | (go_at_call 17; (with_reducible refine (size_int _ (by omega) (by omega) _).mono ?_); rintro e w3 ⟨rfl, rfl⟩)
        | (go_at_call 18; (with_reducible refine (rsize_int _ (by omega) (by omega) _).mono ?_); rintro e w3 ⟨rfl, rfl⟩))
      go_loopg [5, 33] n (fun g v j wr => ∃ (k : Nat) (p2 : Option Addr) (n2 c2 : Nat) (bs : List UInt8), v = .slice p2 n2 c2 ∧ j = .int .i64 k ∧ k ≤ n ∧ g = n - k ∧ n2 = k ∧ Hid (Own wr w.heap.size 5 (.slice p2 n2 c2) bs) ∧ Hid (Below w.heap.size w wr) ∧ Hid (bs = List.replicate k d))
      case atStart => exact ⟨0, none, 0, 0, [], rfl, rfl, by omega, rfl, rfl, own_nil _ _ _, HB, rfl⟩
      case round =>
        obtain ⟨k, p2, n2, c2, bs, rfl, rfl, hk, rfl, rfl, hbs, hbw, hrep⟩ := hrel
        have hbl := hbs.out.bin.1
        have HBL := Lib.hid hbl
        clear hbl
        by_cases hkn : n2 < n
        · have hkn' : (n2 : Int) < n := by omega
          go_wp2_with (at_builtin; refine wpList_append_bytes rfl (.tmp 35) _ 22 rfl w.heap.size 5 _ Try.underlying22 info_u8 rfl _ bs rfl (hbs.out.alloc _) _ 1 1 _ rfl rfl (Bin.made _ _ 1 _ _ _ (byte_cell d) rfl (by omega)) (by rw [← HBL.out]; simp; omega) (size_alloc_le _ hbw.out.size) ?_; intro p3 c3 ys w3 hy ho3 hb3'; have hb3 := Lib.hid ((hbw.out.alloc hbw.out.size _).trans hb3'); clear hb3')
          go_roundg (n - (n2 + 1))
          case measure => omega
          case rel => exact ⟨n2 + 1, p3, _, c3, ys, rfl, by go_num, by omega, rfl, by rw [hy.out, List.length_append, ← HBL.out]; rfl, ho3, hb3, by rw [hy.out]; exact Own.grown_list hrep.out⟩
        · obtain rfl : n2 = n := by omega
          have hrl := hrep.out
          subst hrl
          go_wp2_with (first
            | (go_at_call 13; (with_reducible refine (encode_any _ _ _ (List.replicate n2 d) _ HBL.out.symm (by omega) hbs.out.bin.2).mono ?_); rintro e w2 ⟨p4, c4, rfl, ho4, hb4⟩)
            | (go_at_call 17; (with_reducible refine (size_int _ (by omega) (by omega) _).mono ?_); rintro e w3 ⟨rfl, rfl⟩))
          go_ret
          exact ⟨ret_bool (by rw [HF.out]; simp), hbw.out.trans (hb4.mono hbw.out.size)⟩
    · have hor : ((d.toNat : Int) == 0) = true ∨ z < 0 ∨ 1200 < z := by
        by_cases hd : d = 0
        · exact .inl (by simp [hd])
        · exact .inr (by have : ¬ (0 ≤ z ∧ z ≤ 1200) := fun h => hs ⟨hd, h⟩; omega)
      go_enter Try.func7, Try.ntmps7
      rcases hor with hor | hor | hor
      all_goals go_wp2_with (first
        | (go_at_call 11; (with_reducible refine (wakes_any _).mono ?_); rintro e w1 ⟨rfl, hb1⟩; replace HB := Lib.hid (HB.out.trans (hb1.mono HB.out.size)); clear hb1)
        | (go_at_call 17; (with_reducible refine (size_int _ (by omega) (by omega) _).mono ?_); rintro e w3 ⟨rfl, rfl⟩)
        | (go_at_call 18; (with_reducible refine (rsize_int _ (by omega) (by omega) _).mono ?_); rintro e w3 ⟨rfl, rfl⟩))
      all_goals go_ret
      all_goals exact ⟨rfl, HB.out⟩
end Go.Proofs.Ytkkooghmeoodaaa
