/-
  The statements of layer 1 (word) on bytes and decimal texts, walked: each returns true, and nothing that was there before has changed.
-/
import Derived.Test.YtelniailmfbinaaDoorWordExamples
import Derived.Deep.RegionHeld3
import Derived.Deep.QuietTactic
import Derived.BigQuiet
namespace Go.Proofs.YtelniailmfbinaaDoor
open Go.RowKit

/-- The boxed argument still holds its two bytes, and nothing that was there before has changed: handed on over a call. -/
theorem held_next {w W W1 : World} {N : Nat} {x y : Value} (hb : Below W.heap.size W W1)
    (h : W.cell? ⟨N, 0, none⟩ = some x ∧ W.cell? ⟨N, 1, none⟩ = some y ∧ (N < W.heap.size ∧ Below N w W)) :
    W1.cell? ⟨N, 0, none⟩ = some x ∧ W1.cell? ⟨N, 1, none⟩ = some y ∧ (N < W1.heap.size ∧ Below N w W1) :=
  ⟨(hb.cell (p := ⟨N, 0, none⟩) h.2.2.1).trans h.1, (hb.cell (p := ⟨N, 1, none⟩) h.2.2.1).trans h.2.1, Nat.lt_of_lt_of_le h.2.2.1 hb.size, h.2.2.2.trans (hb.mono (Nat.le_of_lt h.2.2.1))⟩

set_option maxHeartbeats 1000000 in
theorem bytes_walk (a x y : Int) (h0 : -32768 ≤ a) (h1 : a ≤ 32767) (h2 : 0 ≤ x) (h3 : x ≤ 255) (h4 : 0 ≤ y) (h5 : y ≤ 255) (w : World) (he : Env w) :
    Calls Tryd.prog 7 #[.int .i16 a, .agg #[.int .u8 x, .int .u8 y]] w fun e w' => e = .returned (.bool true) ∧ Below w.heap.size w w' := by
  have HE := Lib.hid he
  clear he
  have q1 := eq2 (lo a) (hi a) (lo_bd a) (hi_bd a)
  have q2 := eq2 x y ⟨h2, h3⟩ ⟨h4, h5⟩
  have e1 := join_bytes a ⟨h0, h1⟩
  have e2 := lo_join x y ⟨h2, h3⟩
  have e3 := hi_join x y ⟨h2, h3⟩ ⟨h4, h5⟩
  have L := lo_bd a
  have H := hi_bd a
  obtain ⟨l0, l1⟩ := L
  obtain ⟨k0, k1⟩ := H
  go_enter Tryd.func7, Tryd.ntmps7
  go_wp2
  go_region_held3 (fun W => W.cell? ⟨w.heap.size, 0, none⟩ = some (.int .u8 x) ∧ W.cell? ⟨w.heap.size, 1, none⟩ = some (.int .u8 y) ∧ (w.heap.size < W.heap.size ∧ Below w.heap.size w W))
    (first
      | exact held_next (by assumption) (by assumption)
      | exact ⟨by go_simp, by go_simp, by simp, (((Below.refl _ _).alloc (Nat.le_refl _) _).drew)⟩)
    (first
      | (go_at_call 11; (with_reducible refine (examples_any _ (HE.out.below (And.right (And.right (And.right (by assumption)))))).mono ?_); rintro e w1 ⟨rfl, hb1⟩)
      | (go_at_call 26; (with_reducible refine (put_any _ _).mono ?_); rintro e w1 ⟨rfl, hb1⟩)
      | (go_at_call 27; (with_reducible refine (rput_any _ h0 h1 _).mono ?_); rintro e w1 ⟨rfl, hb1⟩)
      | (go_at_call 28; (with_reducible refine (get_any _ _ (by omega) (by omega) (by omega) (by omega) _).mono ?_); rintro e w1 ⟨rfl, hb1⟩)
      | (go_at_call 29; (with_reducible refine (rget_any _ _ (by omega) (by omega) (by omega) (by omega) _).mono ?_); rintro e w1 ⟨rfl, hb1⟩))
  go_wp2
  go_ret
  exact ⟨rfl, And.right (And.right (And.right (by assumption)))⟩

/-- The text of one byte that the call has just made. -/
theorem convert_one (W : World) (c : UInt8) : (convert 55 9 (.slice (some ⟨W.heap.size, 0, none⟩) 1 1)).run Tryd.prog (W.alloc (.cells #[.int .u8 c.toNat] 5)) = .ok (.string ⟨#[c]⟩) (W.alloc (.cells #[.int .u8 c.toNat] 5)) :=
  run_convert_bytes_back (P := Tryd.prog) (W.alloc (.cells #[.int .u8 c.toNat] 5)) 55 9 5 ⟨W.heap.size, 0, none⟩ 1 [c] Tryd.underlying55 Tryd.underlying5 Tryd.underlying9 (fun j hj => by
    obtain rfl : j = 0 := by simp at hj; omega
    rw [Lib.add_plain, World.cell?_alloc_new]; rfl)

theorem digits_one (n : Nat) (h : n < 10) (w : World) :
    Calls Tryd.prog 38 #[.int .i64 n] w fun e w' => e = .returned (.string ⟨(Lib.decDigits n).toArray⟩) ∧ Below w.heap.size w w' := by
  obtain ⟨c, hcd⟩ : ∃ c, c = UInt8.ofNat (48 + n) := ⟨_, rfl⟩
  have hc := convert_one w c
  rw [show (c.toNat : Int) = 48 + (n : Int) by rw [hcd, digit_toNat h]; omega] at hc
  have HD := Lib.hid (show Lib.decDigits n = [c] by rw [hcd]; exact Lib.decDigits_one h)
  clear hcd
  go_enter Tryd.func38, Tryd.ntmps38
  go_wp2_with fail
  go_ret
  exact ⟨by rw [HD.out]; rfl, (Below.refl _ _).alloc (Nat.le_refl _) _⟩

/-- The reference's digits: the decimal numeral, for every number. -/
theorem digits_any (k : Nat) : ∀ (n : Nat) (w : World), n ≤ k → n ≤ 1000000000 →
    Calls Tryd.prog 38 #[.int .i64 n] w fun e w' => e = .returned (.string ⟨(Lib.decDigits n).toArray⟩) ∧ Below w.heap.size w w' := by
  induction k with
  | zero => intro n w hk _; exact digits_one n (by omega) w
  | succ k ih =>
    intro n w hk hb
    by_cases hn : n < 10
    · exact digits_one n hn w
    · have HD := Lib.hid (show Lib.decDigits n = Lib.decDigits (n / 10) ++ Lib.decDigits (n % 10) by rw [Lib.decDigits, dif_neg hn, Lib.decDigits_one (Nat.mod_lt _ (by omega))])
      have HB := Lib.hid (Below.refl w.heap.size w)
      have h1 : ((n / 10 : Nat) : Int) = (n : Int) / 10 := by omega
      have h2 : ((n % 10 : Nat) : Int) = (n : Int) % 10 := by omega
      have c1 : ∀ w, Calls Tryd.prog 38 #[.int .i64 ((n : Int) / 10)] w fun e w' => e = .returned (.string ⟨(Lib.decDigits (n / 10)).toArray⟩) ∧ Below w.heap.size w w' := fun w => by
        rw [← h1]; exact ih (n / 10) w (by omega) (by omega)
      have c2 : ∀ w, Calls Tryd.prog 38 #[.int .i64 ((n : Int) % 10)] w fun e w' => e = .returned (.string ⟨(Lib.decDigits (n % 10)).toArray⟩) ∧ Below w.heap.size w w' := fun w => by
        rw [← h2]; exact digits_one (n % 10) (by omega) w
      have l1 := decDigits_le (n / 10) (by omega)
      have l2 := decDigits_le (n % 10) (by omega)
      have C1 := Lib.hid c1
      have C2 := Lib.hid c2
      clear c1 c2 h1 h2
      go_enter Tryd.func38, Tryd.ntmps38
      go_wp2_with (first
        | (go_at_call 38; (with_reducible refine (C1.out _).mono ?_); rintro e w1 ⟨rfl, hb1⟩; replace HB := Lib.hid (HB.out.trans (hb1.mono HB.out.size)); clear hb1)
        | (go_at_call 38; (with_reducible refine (C2.out _).mono ?_); rintro e w1 ⟨rfl, hb1⟩; replace HB := Lib.hid (HB.out.trans (hb1.mono HB.out.size)); clear hb1))
      go_ret
      exact ⟨ret_string (by rw [HD.out]; exact str_append _ _), HB.out⟩

theorem rformat_any (n : Int) (h0 : -32768 ≤ n) (h1 : n ≤ 32767) (w : World) :
    Calls Tryd.prog 32 #[.int .i16 n] w fun e w' => e = .returned (.string ⟨(Lib.itoa n).toArray⟩) ∧ Below w.heap.size w w' := by
  have HB := Lib.hid (Below.refl w.heap.size w)
  by_cases hn : n < 0
  · obtain ⟨m, rfl⟩ : ∃ m : Nat, n = -(m : Int) := ⟨n.natAbs, by omega⟩
    have HI := Lib.hid (Lib.itoa_neg m (by omega))
    have l1 := decDigits_le m (by omega)
    have hm : (0 : Int) < m := by omega
    clear hn
    go_enter Tryd.func32, Tryd.ntmps32
    go_wp2_with (go_at_call 38; (with_reducible refine (digits_any m m _ (Nat.le_refl _) (by omega)).mono ?_); rintro e w1 ⟨rfl, hb1⟩; replace HB := Lib.hid (HB.out.trans (hb1.mono HB.out.size)); clear hb1)
    go_ret
    exact ⟨ret_string (by rw [HI.out]; exact str_append [45] _), HB.out⟩
  · obtain ⟨m, rfl⟩ : ∃ m : Nat, n = m := ⟨n.toNat, by omega⟩
    have HI := Lib.hid (Lib.itoa_nonneg m)
    clear hn
    go_enter Tryd.func32, Tryd.ntmps32
    go_wp2_with (go_at_call 38; (with_reducible refine (digits_any m m _ (Nat.le_refl _) (by omega)).mono ?_); rintro e w1 ⟨rfl, hb1⟩; replace HB := Lib.hid (HB.out.trans (hb1.mono HB.out.size)); clear hb1)
    go_ret
    exact ⟨ret_string (by rw [HI.out]), HB.out⟩

set_option maxRecDepth 100000 in
set_option maxHeartbeats 1000000 in
theorem rparse_pos (s : ByteArray) (h0 : 0 < s.size) (hc : (((s[0]'h0).toNat : Int) == 45) = false) (hs : s.size ≤ 281474976710656) (w : World) :
    Calls Tryd.prog 33 #[.string s] w (Parsed s.data.toList w) := by
  have HT : Hid (Body 1 s.data.toList s.data.toList) := body_pos _ (fun h => by
    have e : s.data.toList.head? = some s[0] := by rw [List.head?_eq_getElem?]; simp [h0]; rfl
    rw [e] at h
    injection h with h
    rw [h] at hc
    exact absurd hc (by decide))
  have HB := Lib.hid (Below.refl w.heap.size w)
  by_cases hl : 5 < s.size
  · go_enter Tryd.func33, Tryd.ntmps33
    go_wp2_with fail
    go_ret2
    exact Parsed.no (HT.out.no_len (Or.inr hl)) HB.out
  · have hl5 : s.size ≤ 5 := by omega
    clear hl
    go_enter Tryd.func33, Tryd.ntmps33
    go_wp2_with fail
    go_loop [4, 7] (fun n i => ∃ k m : Nat, k ≤ s.size ∧ i = .int .i64 k ∧ n = .int .i64 m ∧ m = dval 0 (s.data.toList.take k) ∧ (∀ c ∈ s.data.toList.take k, 48 ≤ c.toNat ∧ c.toNat ≤ 57)) (fun _ i => s.size - (intOf i).toNat)
    case atStart => exact ⟨0, 0, Nat.zero_le _, rfl, rfl, rfl, fun c hc => by simp at hc⟩
    case round =>
      obtain ⟨k, m, hk, rfl, rfl, hm, hd⟩ := hrel
      have HD := Lib.hid hd
      have hv : m ≤ 99999 := hm ▸ dval_le5 _ hd (by rw [List.length_take]; have : s.data.toList.length = s.size := rfl; omega)
      have HV := Lib.hid hm
      clear hd hm
      by_cases hlt : k < s.size
      · have HS := Lib.hid (show dval 0 (s.data.toList.take (k + 1)) = 10 * dval 0 (s.data.toList.take k) + (s[k].toNat - 48) by rw [take_snoc s k hlt, dval_snoc])
        have HM : Hid (s[k] ∈ s.data.toList) := List.getElem_mem (l := s.data.toList) (n := k) hlt
        have HN := Lib.hid (take_snoc s k hlt)
        go_wp2_with fail
        · go_ret2
          exact Parsed.no (HT.out.no_digit _ HM.out (by omega)) HB.out
        · have g : 48 ≤ s[k].toNat ∧ s[k].toNat ≤ 57 := by omega
          have G := Lib.hid g
          go_round
          case rel =>
            exact ⟨k + 1, 10 * m + (s[k].toNat - 48), by omega, by go_num, by go_num, by rw [HS.out, ← HV.out], fun c hc => by
              rw [HN.out] at hc
              rcases List.mem_append.1 hc with hc | hc
              · exact HD.out c hc
              · obtain rfl : c = s[k] := by simpa using hc
                exact G.out⟩
          case measure => simp [intOf]; omega
        · go_ret2
          exact Parsed.no (HT.out.no_digit _ HM.out (by omega)) HB.out
      · obtain rfl : k = s.size := by omega
        have HK : Hid (m = dval 0 s.data.toList) := HV.out.trans (by rw [show s.data.toList.take s.size = s.data.toList from List.take_of_length_le (Nat.le_refl _)])
        go_wp2_with (first
          | (go_at_call 13; (with_reducible refine (wrap_any _ (by omega) (by omega) _).mono ?_); rintro e w' ⟨rfl, rfl⟩)
          | (go_at_call 32; (with_reducible refine (rformat_any _ (w16_bd _).1 (w16_bd _).2 _).mono ?_); rintro e w1 ⟨rfl, hb1⟩; replace HB := Lib.hid (HB.out.trans (hb1.mono HB.out.size)); clear hb1))
        · have ht := txt_ne (by assumption)
          go_ret2
          exact Parsed.no (HT.out.no_txt (by rw [HK.out]; omega) ht) HB.out
        · have ht := txt_eq (by assumption)
          go_ret2
          exact ⟨w16 m, 0, rfl, ParsesTo.yes ht, HB.out⟩
        · have ht : w16 (m : Int) ≠ m := fit_ne (by assumption)
          go_ret2
          exact Parsed.no (HT.out.no_fit (by rw [HK.out]; omega) ht) HB.out

set_option maxRecDepth 100000 in
set_option maxHeartbeats 1000000 in
theorem rparse_neg (s : ByteArray) (h0 : 0 < s.size) (hc : (((s[0]'h0).toNat : Int) == 45) = true) (hs : s.size ≤ 281474976710656) (w : World) :
    Calls Tryd.prog 33 #[.string s] w (Parsed s.data.toList w) := by
  obtain ⟨t, ht⟩ : ∃ t, t = s.extract 1 s.size := ⟨_, rfl⟩
  have hl := neg_body s h0 (by have := hc; simp at this; omega) t ht
  have HT : Hid (Body (-1) s.data.toList t.data.toList) := by rw [hl]; exact body_neg _
  have hsz : t.size + 1 = s.size := by have := congrArg List.length hl; simpa using this.symm
  have HE := Lib.hid ht.symm
  clear ht hl
  by_cases hl : t.size < 1 ∨ 5 < t.size
  · go_enter Tryd.func33, Tryd.ntmps33
    go_wp2_with fail
    go_quiet (fail)
    rw [HE.out]
    have HB : Hid (Below w.heap.size w (w.drewN nq)) := ⟨rfl, rfl, rfl, Nat.le_refl _, fun _ _ => rfl⟩
    have HL := Lib.hid hl
    go_wp2_with fail
    all_goals (go_ret2; exact Parsed.no (HT.out.no_len HL.out) HB.out)
  · have hl1 : 1 ≤ t.size := by omega
    have hl5 : t.size ≤ 5 := by omega
    clear hl
    go_enter Tryd.func33, Tryd.ntmps33
    go_wp2_with fail
    go_quiet (fail)
    rw [HE.out]
    have HB : Hid (Below w.heap.size w (w.drewN nq)) := ⟨rfl, rfl, rfl, Nat.le_refl _, fun _ _ => rfl⟩
    go_wp2_with fail
    go_loop [4, 7] (fun n i => ∃ k m : Nat, k ≤ t.size ∧ i = .int .i64 k ∧ n = .int .i64 m ∧ m = dval 0 (t.data.toList.take k) ∧ (∀ c ∈ t.data.toList.take k, 48 ≤ c.toNat ∧ c.toNat ≤ 57)) (fun _ i => t.size - (intOf i).toNat)
    case atStart => exact ⟨0, 0, Nat.zero_le _, rfl, rfl, rfl, fun c hc => by simp at hc⟩
    case round =>
      obtain ⟨k, m, hk, rfl, rfl, hm, hd⟩ := hrel
      have HD := Lib.hid hd
      have hv : m ≤ 99999 := hm ▸ dval_le5 _ hd (by rw [List.length_take]; have : t.data.toList.length = t.size := rfl; omega)
      have HV := Lib.hid hm
      clear hd hm
      by_cases hlt : k < t.size
      · have HS := Lib.hid (show dval 0 (t.data.toList.take (k + 1)) = 10 * dval 0 (t.data.toList.take k) + (t[k].toNat - 48) by rw [take_snoc t k hlt, dval_snoc])
        have HM : Hid (t[k] ∈ t.data.toList) := List.getElem_mem (l := t.data.toList) (n := k) hlt
        have HN := Lib.hid (take_snoc t k hlt)
        go_wp2_with fail
        · go_ret2
          exact Parsed.no (HT.out.no_digit _ HM.out (by omega)) HB.out
        · have g : 48 ≤ t[k].toNat ∧ t[k].toNat ≤ 57 := by omega
          have G := Lib.hid g
          go_round
          case rel =>
            exact ⟨k + 1, 10 * m + (t[k].toNat - 48), by omega, by go_num, by go_num, by rw [HS.out, ← HV.out], fun c hc => by
              rw [HN.out] at hc
              rcases List.mem_append.1 hc with hc | hc
              · exact HD.out c hc
              · obtain rfl : c = t[k] := by simpa using hc
                exact G.out⟩
          case measure => simp [intOf]; omega
        · go_ret2
          exact Parsed.no (HT.out.no_digit _ HM.out (by omega)) HB.out
      · obtain rfl : k = t.size := by omega
        have HK : Hid (m = dval 0 t.data.toList) := HV.out.trans (by rw [show t.data.toList.take t.size = t.data.toList from List.take_of_length_le (Nat.le_refl _)])
        go_wp2_with (first
          | (go_at_call 13; (with_reducible refine (wrap_any _ (by omega) (by omega) _).mono ?_); rintro e w' ⟨rfl, rfl⟩)
          | (go_at_call 32; (with_reducible refine (rformat_any _ (w16_bd _).1 (w16_bd _).2 _).mono ?_); rintro e w1 ⟨rfl, hb1⟩; replace HB := Lib.hid (HB.out.trans (hb1.mono HB.out.size)); clear hb1))
        · have ht := txt_ne (by assumption)
          go_ret2
          exact Parsed.no (HT.out.no_txt (by rw [HK.out]; omega) ht) HB.out
        · have ht := txt_eq (by assumption)
          go_ret2
          exact ⟨w16 (-m), 0, rfl, ParsesTo.yes ht, HB.out⟩
        · have ht : w16 (-(m : Int)) ≠ -m := fit_ne (by assumption)
          go_ret2
          exact Parsed.no (HT.out.no_fit (by rw [HK.out]; omega) ht) HB.out

theorem rparse_nil (w : World) : Calls Tryd.prog 33 #[.string ⟨#[]⟩] w (Parsed [] w) := by
  have HN := Lib.hid (Body.no_len (body_pos [] (by simp)) (Or.inl (by simp)))
  go_enter Tryd.func33, Tryd.ntmps33
  go_wp2_with fail
  go_ret2
  exact Parsed.no HN.out (Below.refl _ _)

/-- The reference's Parse, at every string. -/
theorem rparse_any (s : ByteArray) (hs : s.size ≤ 281474976710656) (w : World) :
    Calls Tryd.prog 33 #[.string s] w (Parsed s.data.toList w) := by
  by_cases h0 : 0 < s.size
  · cases hc : (((s[0]'h0).toNat : Int) == 45)
    · exact rparse_pos s h0 hc hs w
    · exact rparse_neg s h0 hc hs w
  · obtain ⟨⟨l⟩⟩ := s
    cases l with
    | nil => exact rparse_nil w
    | cons c r => exact absurd (Nat.succ_pos _) h0

/-- A text that Parse has read is the format of the word. -/
theorem parse_itoa_text (n : Int) (h0 : -32768 ≤ n) (h1 : n ≤ 32767) (w : World) (he : Env w) :
    Calls Tryd.prog 31 #[.string ⟨(Lib.itoa n).toArray⟩] w fun e w' => e = .returned (.tuple #[.int .i16 n, .int .i64 0]) ∧ Below w.heap.size w w' := by
  have hl := Lib.itoa_length_le n (by omega) (by omega)
  refine (parse_any ⟨(Lib.itoa n).toArray⟩ (by show (Lib.itoa n).length ≤ _; omega) w he).mono ?_
  rintro e w' ⟨v, k, rfl, hp, hb⟩
  obtain ⟨rfl, rfl⟩ := (ParsesTo.of_itoa n ⟨h0, h1⟩).one hp
  exact ⟨rfl, hb⟩

set_option maxHeartbeats 1000000 in
theorem format_walk (n : Int) (h0 : -32768 ≤ n) (h1 : n ≤ 32767) (w : World) (he : Env w) :
    Calls Tryd.prog 8 #[.int .i16 n] w fun e w' => e = .returned (.bool true) ∧ Below w.heap.size w w' := by
  have HE := Lib.hid he
  clear he
  have HB := Lib.hid (Below.refl w.heap.size w)
  go_enter Tryd.func8, Tryd.ntmps8
  go_wp2_with (first
    | (go_at_call 11; (with_reducible refine (examples_any _ (HE.out.below HB.out)).mono ?_); rintro e w1 ⟨rfl, hb1⟩; replace HB := Lib.hid (HB.out.trans (hb1.mono HB.out.size)); clear hb1)
    | (go_at_call 30; (with_reducible refine (format_any _ h0 h1 _ (HE.out.below HB.out)).mono ?_); rintro e w1 ⟨rfl, hb1⟩; replace HB := Lib.hid (HB.out.trans (hb1.mono HB.out.size)); clear hb1)
    | (go_at_call 32; (with_reducible refine (rformat_any _ h0 h1 _).mono ?_); rintro e w1 ⟨rfl, hb1⟩; replace HB := Lib.hid (HB.out.trans (hb1.mono HB.out.size)); clear hb1)
    | (go_at_call 31; (with_reducible refine (parse_itoa_text _ h0 h1 _ (HE.out.below HB.out)).mono ?_); rintro e w1 ⟨rfl, hb1⟩; replace HB := Lib.hid (HB.out.trans (hb1.mono HB.out.size)); clear hb1))
  go_ret
  exact ⟨rfl, HB.out⟩

/-- Both Parse functions at a string whose answer is (v, k). -/
def ParsedTo (v k : Int) (w : World) (e : Ending) (w' : World) : Prop := e = .returned (.tuple #[.int .i16 v, .int .i64 k]) ∧ Below w.heap.size w w'

set_option maxHeartbeats 1000000 in
theorem parse_walk_no (s : ByteArray) (w : World) (he : Env w)
    (c1 : ∀ W, Env W → Calls Tryd.prog 31 #[.string s] W (ParsedTo 0 2 W)) (c2 : ∀ W, Calls Tryd.prog 33 #[.string s] W (ParsedTo 0 2 W)) :
    Calls Tryd.prog 9 #[.string s] w fun e w' => e = .returned (.bool true) ∧ Below w.heap.size w w' := by
  have HE := Lib.hid he
  have C1 := Lib.hid c1
  have C2 := Lib.hid c2
  clear he c1 c2
  have HB := Lib.hid (Below.refl w.heap.size w)
  go_enter Tryd.func9, Tryd.ntmps9
  go_wp2_with (first
    | (go_at_call 11; (with_reducible refine (examples_any _ (HE.out.below HB.out)).mono ?_); rintro e w1 ⟨rfl, hb1⟩; replace HB := Lib.hid (HB.out.trans (hb1.mono HB.out.size)); clear hb1)
    | (go_at_call 31; (with_reducible refine (C1.out _ (HE.out.below HB.out)).mono ?_); rintro e w1 ⟨rfl, hb1⟩; replace HB := Lib.hid (HB.out.trans (hb1.mono HB.out.size)); clear hb1)
    | (go_at_call 33; (with_reducible refine (C2.out _).mono ?_); rintro e w1 ⟨rfl, hb1⟩; replace HB := Lib.hid (HB.out.trans (hb1.mono HB.out.size)); clear hb1))
  go_ret
  exact ⟨rfl, HB.out⟩

set_option maxHeartbeats 1000000 in
theorem parse_walk_yes (s : ByteArray) (v : Int) (h0 : -32768 ≤ v) (h1 : v ≤ 32767) (hv : Lib.itoa v = s.data.toList) (w : World) (he : Env w)
    (c1 : ∀ W, Env W → Calls Tryd.prog 31 #[.string s] W (ParsedTo v 0 W)) (c2 : ∀ W, Calls Tryd.prog 33 #[.string s] W (ParsedTo v 0 W)) :
    Calls Tryd.prog 9 #[.string s] w fun e w' => e = .returned (.bool true) ∧ Below w.heap.size w w' := by
  have hf : ∀ W, Env W → Calls Tryd.prog 30 #[.int .i16 v] W fun e w' => e = .returned (.string s) ∧ Below W.heap.size W w' := fun W hW => by
    have := format_any v h0 h1 W hW
    rw [hv] at this
    exact this
  have HE := Lib.hid he
  have C1 := Lib.hid c1
  have C2 := Lib.hid c2
  have C3 := Lib.hid hf
  clear he c1 c2 hf hv
  have HB := Lib.hid (Below.refl w.heap.size w)
  go_enter Tryd.func9, Tryd.ntmps9
  go_wp2_with (first
    | (go_at_call 11; (with_reducible refine (examples_any _ (HE.out.below HB.out)).mono ?_); rintro e w1 ⟨rfl, hb1⟩; replace HB := Lib.hid (HB.out.trans (hb1.mono HB.out.size)); clear hb1)
    | (go_at_call 31; (with_reducible refine (C1.out _ (HE.out.below HB.out)).mono ?_); rintro e w1 ⟨rfl, hb1⟩; replace HB := Lib.hid (HB.out.trans (hb1.mono HB.out.size)); clear hb1)
    | (go_at_call 30; (with_reducible refine (C3.out _ (HE.out.below HB.out)).mono ?_); rintro e w1 ⟨rfl, hb1⟩; replace HB := Lib.hid (HB.out.trans (hb1.mono HB.out.size)); clear hb1)
    | (go_at_call 33; (with_reducible refine (C2.out _).mono ?_); rintro e w1 ⟨rfl, hb1⟩; replace HB := Lib.hid (HB.out.trans (hb1.mono HB.out.size)); clear hb1))
  go_ret
  exact ⟨rfl, HB.out⟩

theorem parse_walk (s : ByteArray) (hs : s.size ≤ 281474976710656) (w : World) (he : Env w) :
    Calls Tryd.prog 9 #[.string s] w fun e w' => e = .returned (.bool true) ∧ Below w.heap.size w w' := by
  by_cases h : ∃ v, Spelt s.data.toList v
  · obtain ⟨v, hv⟩ := h
    have hp : ParsesTo s.data.toList v 0 := .inl ⟨rfl, hv⟩
    refine parse_walk_yes s v hv.1.1 hv.1.2 hv.2 w he (fun W hW => (parse_any s hs W hW).mono ?_) (fun W => (rparse_any s hs W).mono ?_)
    all_goals
      rintro e w' ⟨v', k', rfl, hp', hb⟩
      obtain ⟨rfl, rfl⟩ := hp.one hp'
      exact ⟨rfl, hb⟩
  · have hp : ParsesTo s.data.toList 0 2 := .inr ⟨rfl, rfl, fun u hu => h ⟨u, hu⟩⟩
    refine parse_walk_no s w he (fun W hW => (parse_any s hs W hW).mono ?_) (fun W => (rparse_any s hs W).mono ?_)
    all_goals
      rintro e w' ⟨v', k', rfl, hp', hb⟩
      obtain ⟨rfl, rfl⟩ := hp.one hp'
      exact ⟨rfl, hb⟩

end Go.Proofs.YtelniailmfbinaaDoor
