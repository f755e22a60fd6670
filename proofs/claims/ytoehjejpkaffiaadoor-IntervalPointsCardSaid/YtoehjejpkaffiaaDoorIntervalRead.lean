/-
  CONTRACTS OF LAYER 5 (interval): what the reference reads and writes.
-/
import Derived.Test.YtoehjejpkaffiaaDoorIntervalText
namespace Go.Proofs.YtoehjejpkaffiaaDoor
open Go.RowKit Go.IntWalk

theorem enters_number : Enters Tryd.prog 38 := fun args w => by go_simp
theorem enters_digits : Enters Tryd.prog 35 := fun args w => by go_simp
theorem rformat_no (x y : Int) (h : va x y = false) (w : World) :
    Calls Tryd.prog 29 #[iv x y] w fun e w' => e = .returned (.string ⟨(txt x y).toArray⟩) ∧ Grew w w' := by
  have HT := Lib.hid (txt_no x y h)
  go_enter Tryd.func29, Tryd.ntmps29
  go_wp2_with (go_at_call 15; (with_reducible refine (rvalid_any _ _ _).mono ?_); rintro e _ ⟨rfl, rfl⟩)
  go_ret
  refine ⟨by rw [HT.out]; rfl, ?_⟩
  repeat (first | with_reducible exact Grew.refl _ | with_reducible refine Grew.alloc ?_ _ | with_reducible refine Grew.drw ?_)
theorem rformat_one (x : Nat) (h2 : x ≤ 1099511627776) (w : World) :
    Calls Tryd.prog 29 #[iv x x] w fun e w' => e = .returned (.string ⟨(txt x x).toArray⟩) ∧ Grew w w' := by
  have hv : va x x = true := va_iff.2 ⟨by omega, by omega, by omega⟩
  have HT := Lib.hid (txt_one x h2)
  go_enter Tryd.func29, Tryd.ntmps29
  go_wp2_with (first
    | (go_at_call 15; (with_reducible refine (rvalid_any _ _ _).mono ?_); rintro e _ ⟨rfl, rfl⟩)
    | (go_at_call 35; generalize hW : World.drew _ = V; have hg := Lib.hid (show Grew w V by subst hW; exact (((Grew.refl _).alloc _).alloc _).drw); clear hW; (with_reducible refine (digits_any x x _ (Nat.le_refl _) h2).mono ?_); rintro e w1 ⟨rfl, hb1⟩; replace hg := Lib.hid (hg.out.trans hb1); clear hb1))
  go_ret
  exact ⟨ret_string (by rw [HT.out]), hg.out⟩
set_option maxHeartbeats 1000000 in
theorem rformat_two (x y : Nat) (h1 : x < y) (h2 : y ≤ 1099511627776) (w : World) :
    Calls Tryd.prog 29 #[iv x y] w fun e w' => e = .returned (.string ⟨(txt x y).toArray⟩) ∧ Grew w w' := by
  have hv : va x y = true := va_iff.2 ⟨by omega, by omega, by omega⟩
  have hne : ((x : Int) == (y : Int)) = false := by rw [beq_eq_false_iff_ne]; omega
  have HT := Lib.hid (txt_two x y h1 h2)
  have l1 := (decDigits_len x (by omega)).2
  have l2 := (decDigits_len y h2).2
  go_enter Tryd.func29, Tryd.ntmps29
  go_wp2_with (go_at_call 15; (with_reducible refine (rvalid_any _ _ _).mono ?_); rintro e _ ⟨rfl, rfl⟩)
  generalize hW : World.drew _ = V
  have hA : Box w.heap.size x y V.drew := by subst hW; exact ⟨by go_simp, by go_simp⟩
  have hG : Grew w V.drew := by subst hW; exact (((Grew.refl _).alloc _).alloc _).drw.drw
  clear hW
  refine wp_posts [some 14, some 15, some 16, some 17, some 18, some 19, some 20, some 21, some 2] [false, false, true, false, false, false, false, false, false, false, false, false, false, false, true, true, true, true, true, true, true, true] [fun v _ => v = .pointer (some ⟨w.heap.size, 0, none⟩), fun v _ => v = .int .i64 (x), fun v _ => v = .string ⟨(Lib.decDigits x).toArray⟩, fun v _ => v = .string ⟨((Lib.decDigits x) ++ ([46, 46])).toArray⟩, fun v _ => v = .pointer (some ⟨w.heap.size, 1, none⟩), fun v _ => v = .int .i64 (y), fun v _ => v = .string ⟨(Lib.decDigits y).toArray⟩, fun v _ => v = .string ⟨(((Lib.decDigits x) ++ ([46, 46])) ++ (Lib.decDigits y)).toArray⟩, fun v _ => v = .string ⟨(((Lib.decDigits x) ++ ([46, 46])) ++ (Lib.decDigits y)).toArray⟩] (by kernel_rfl) (by kernel_rfl) rfl ?_ ⟨?_, ?_, ?_, ?_, ?_, ?_, ?_, ?_, ?_, trivial⟩ ?_
  · exact ⟨fun _ _ _ _ h => h, fun _ _ _ _ h => h, fun _ _ _ _ h => h, fun _ _ _ _ h => h, fun _ _ _ _ h => h, fun _ _ _ _ h => h, fun _ _ _ _ h => h, fun _ _ _ _ h => h, fun _ _ _ _ h => h, trivial⟩
  · intro u w hR hd; exact runs_fld23_0 (ev rfl) ⟨Grew.refl _, rfl⟩
  · intro u w hR hd; exact runs_ld2 (ev (hd.1 rfl)) (hA.kept hR).c0 ⟨Grew.refl _, rfl⟩
  · intro u w hR hd; exact runs_c1 enters_digits (ev (hd.1 rfl)) (callp (fun _ e => e) (digits_any x x _ (Nat.le_refl _) (by omega)))
  · intro u w hR hd; exact runs_cat9 (ev (hd.1 rfl)) rfl (by simp; omega) ⟨Grew.refl _, rfl⟩
  · intro u w hR hd; exact runs_fld23_1 (ev rfl) ⟨Grew.refl _, rfl⟩
  · intro u w hR hd; exact runs_ld2 (ev (hd.1 rfl)) (hA.kept hR).c1 ⟨Grew.refl _, rfl⟩
  · intro u w hR hd; exact runs_c1 enters_digits (ev (hd.1 rfl)) (callp (fun _ e => e) (digits_any y y _ (Nat.le_refl _) (by omega)))
  · intro u w hR hd; exact runs_cat9 (ev (hd.1 rfl)) (ev (hd.2.1 rfl)) (by simp; omega) ⟨Grew.refl _, rfl⟩
  · intro u w hR hd; exact runs_mva (ev (hd.1 rfl)) ⟨Grew.refl _, rfl⟩
  · intro u w1 hR h
    have he : u 2 = .string ⟨(((Lib.decDigits x) ++ ([46, 46])) ++ (Lib.decDigits y)).toArray⟩ := h 8 (by decide)
    simp only [mixA, mixL, cond_true, cond_false]
    rw [he]
    go_wp2
    go_ret
    exact ⟨ret_string (by rw [HT.out]; simp), hG.trans hR⟩
theorem rformat_any (x y : Int) (w : World) :
    Calls Tryd.prog 29 #[iv x y] w fun e w' => e = .returned (.string ⟨(txt x y).toArray⟩) ∧ Grew w w' := by
  cases h : va x y
  · exact rformat_no x y h w
  · obtain ⟨a, b, c⟩ := va_iff.1 h
    obtain ⟨m, rfl⟩ : ∃ m : Nat, x = m := ⟨x.toNat, by omega⟩
    obtain ⟨n, rfl⟩ : ∃ n : Nat, y = n := ⟨y.toNat, by omega⟩
    rcases Nat.lt_or_ge m n with hlt | hge
    · exact rformat_two m n hlt (by omega) w
    · obtain rfl : m = n := by omega
      exact rformat_one m (by omega) w

theorem numv_len {l : List UInt8} (h : l.length < 1 ∨ 13 < l.length) : numv l = -1 := by
  unfold numv
  rw [if_neg (by omega)]
theorem numv_bad {l : List UInt8} (c : UInt8) (hc : c ∈ l) (h : c.toNat < 48 ∨ 57 < c.toNat) : numv l = -1 := by
  unfold numv
  rw [if_neg (by
    rintro ⟨_, _, h3⟩
    have := h3 c hc
    omega)]
theorem numv_ok {l : List UInt8} (h1 : 1 ≤ l.length) (h2 : l.length ≤ 13) (h3 : ∀ c ∈ l, 48 ≤ c.toNat ∧ c.toNat ≤ 57) : numv l = dval 0 l := by
  unfold numv
  rw [if_pos ⟨h1, h2, h3⟩]
/-- The reference's number, at every string. -/
theorem number_any (s : ByteArray) (hs : s.size ≤ 281474976710656) (w : World) :
    Calls Tryd.prog 38 #[.string s] w fun e w' => e = .returned (.int .i64 (numv s.data.toList)) ∧ w' = w := by
  have hlen : s.data.toList.length = s.size := rfl
  by_cases hl : s.size < 1 ∨ 13 < s.size
  · have HN := Lib.hid (numv_len (l := s.data.toList) hl)
    have HL := Lib.hid hl
    clear hl
    go_enter Tryd.func38, Tryd.ntmps38
    go_wp2_with fail
    all_goals first
      | (go_ret; exact ⟨ret_i64 (by rw [HN.out]), rfl⟩)
      | (exfalso; have := HL.out; omega)
  · have hl1 : 1 ≤ s.size := by omega
    have hl13 : s.size ≤ 13 := by omega
    clear hl
    have HLn := Lib.hid hlen
    clear hlen
    go_enter Tryd.func38, Tryd.ntmps38
    go_wp2_with fail
    go_loop [3, 4] (fun n i => ∃ k m : Nat, k ≤ s.size ∧ i = .int .i64 k ∧ n = .int .i64 m ∧ m = dval 0 (s.data.toList.take k) ∧ (∀ c ∈ s.data.toList.take k, 48 ≤ c.toNat ∧ c.toNat ≤ 57)) (fun _ i => s.size - (intOf i).toNat)
    case atStart => exact ⟨0, 0, Nat.zero_le _, rfl, rfl, rfl, fun c hc => by simp at hc⟩
    case round =>
      obtain ⟨k, m, hk, rfl, rfl, hm, hd⟩ := hrel
      have HD := Lib.hid hd
      have hv : m ≤ 9999999999999 := hm ▸ dval_le13 _ hd (by rw [List.length_take]; have := HLn.out; omega)
      have HV := Lib.hid hm
      clear hd hm
      by_cases hlt : k < s.size
      · have HS := Lib.hid (show dval 0 (s.data.toList.take (k + 1)) = 10 * dval 0 (s.data.toList.take k) + (s[k].toNat - 48) by rw [take_snoc s k hlt, dval_snoc])
        have HM : Hid (s[k] ∈ s.data.toList) := List.getElem_mem (l := s.data.toList) (n := k) hlt
        have HN := Lib.hid (take_snoc s k hlt)
        go_wp2_with fail
        · go_ret
          exact ⟨ret_i64 (by rw [numv_bad _ HM.out (by omega)]), rfl⟩
        · have g : 48 ≤ s[k].toNat ∧ s[k].toNat ≤ 57 := by omega
          have G := Lib.hid g
          go_round
          case rel =>
            exact ⟨k + 1, 10 * m + (s[k].toNat - 48), by omega, by go_num, by go_num, by rw [HS.out, ← HV.out], fun c hc => by
              rw [HN.out] at hc
              rcases List.mem_append.1 hc with hc | hc
              · exact HD.out c hc
              · obtain rfl : c = s[k] := by simpa using hc
                exact G.out⟩
          case measure => simp [intOf]; omega
        · go_ret
          exact ⟨ret_i64 (by rw [numv_bad _ HM.out (by omega)]), rfl⟩
      · obtain rfl : k = s.size := by omega
        have hall : s.data.toList.take s.size = s.data.toList := List.take_of_length_le (Nat.le_refl _)
        have HK := Lib.hid (show (m : Int) = numv s.data.toList by
          rw [numv_ok (l := s.data.toList) hl1 hl13 (by rw [← hall]; exact HD.out), HV.out, hall])
        clear hall
        go_wp2_with fail
        go_ret
        exact ⟨ret_i64 HK.out, rfl⟩
end Go.Proofs.YtoehjejpkaffiaaDoor
