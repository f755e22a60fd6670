/-
  CONTRACTS OF LAYER 5 (interval): decimal texts, of the program and of its reference; what the library's variables give.
-/
import Derived.Test.YtoehjejpkaffiaaDoorIntervalWalks2
import Derived.Test.YtoehjejpkaffiaaDoorShelf
import Derived.Deep.RegionHeld3
namespace Go.Proofs.YtoehjejpkaffiaaDoor
open Go.RowKit Go.IntWalk

theorem var?_keep {P : Program} {w w' : World} {n : String} {cs : Array Value} (hb : Below w.heap.size w w') (h : w.var? P n = some cs) : w'.var? P n = some cs := by
  unfold World.var? at h ⊢
  cases hg : P.globalNamed n with
  | none => simp [hg] at h
  | some g =>
    simp only [hg, Option.bind_some] at h ⊢
    have hlt : g < w.heap.size := by
      rcases Nat.lt_or_ge g w.heap.size with h' | h'
      · exact h'
      · simp [Array.getElem?_eq_none h'] at h
    rw [hb.block g hlt]
    exact h

/-- The library's table and its two errors, as the program's initialisers lay them; and a variable that holds some number. -/
structure Env (w : World) : Prop where
  pow : Lib.TabIs Tryd.prog w "internal/strconv.uint64pow10" .u64 Lib.pow10Tab
  syn : ∃ tp p, w.var? Tryd.prog "strconv.ErrSyntax" = some #[.iface tp p]
  ran : ∃ tp p, w.var? Tryd.prog "strconv.ErrRange" = some #[.iface tp p]
  most : ∃ m : Int, w.cell? ⟨1, 0, none⟩ = some (.int .i64 m)
theorem Env.grew {w w' : World} (h : Env w) (hb : Grew w w') : Env w' := by
  obtain ⟨h1, ⟨a, b, h2⟩, ⟨c, d, h3⟩, ⟨m, h4⟩⟩ := h
  exact ⟨var?_keep hb h1, ⟨a, b, var?_keep hb h2⟩, ⟨c, d, var?_keep hb h3⟩, ⟨m, (Below.cell hb (p := ⟨1, 0, none⟩) (World.block_lt_of_cell? _ _ h4)).trans h4⟩⟩

theorem grew_grow (w : World) (k : Nat) (os : Array Obj) : Grew w (Sort.grow (w.drewN k) os) := by
  refine ⟨rfl, rfl, rfl, by simp [Sort.grow], fun i hi => ?_⟩
  simp [Sort.grow, Array.getElem?_append, hi]
theorem fint_any (n : Nat) (h : n ≤ 1099511627776) (w : World) (he : Env w) :
    Calls Tryd.prog 34 #[.int .i64 n, .int .i64 10] w fun e w' => e = .returned (.string ⟨(Lib.decDigits n).toArray⟩) ∧ Grew w w' := by
  refine (Tryd.strconv_FormatInt_10 n (by omega) (by omega) w he.pow).mono ?_
  rintro e w' ⟨rfl, k, os, rfl⟩
  rw [Lib.itoa_nonneg]
  exact ⟨rfl, grew_grow _ _ _⟩

/-- The text of one byte that the call has just made. -/
theorem convert_one (W : World) (c : UInt8) : (convert 51 9 (.slice (some ⟨W.heap.size, 0, none⟩) 1 1)).run Tryd.prog (W.alloc (.cells #[.int .u8 c.toNat] 5)) = .ok (.string ⟨#[c]⟩) (W.alloc (.cells #[.int .u8 c.toNat] 5)) :=
  run_convert_bytes_back (P := Tryd.prog) (W.alloc (.cells #[.int .u8 c.toNat] 5)) 51 9 5 ⟨W.heap.size, 0, none⟩ 1 [c] Tryd.underlying51 Tryd.underlying5 Tryd.underlying9 (fun j hj => by
    obtain rfl : j = 0 := by simp at hj; omega
    rw [Lib.add_plain, World.cell?_alloc_new]; rfl)
theorem digits_one (n : Nat) (h : n < 10) (w : World) :
    Calls Tryd.prog 35 #[.int .i64 n] w fun e w' => e = .returned (.string ⟨(Lib.decDigits n).toArray⟩) ∧ Grew w w' := by
  obtain ⟨c, hcd⟩ : ∃ c, c = UInt8.ofNat (48 + n) := ⟨_, rfl⟩
  have hc := convert_one w c
  rw [show (c.toNat : Int) = 48 + (n : Int) by rw [hcd, digit_toNat h]; omega] at hc
  have HD := Lib.hid (show Lib.decDigits n = [c] by rw [hcd]; exact Lib.decDigits_one h)
  clear hcd
  go_enter Tryd.func35, Tryd.ntmps35
  go_wp2_with fail
  go_ret
  exact ⟨by rw [HD.out]; rfl, (Grew.refl _).alloc _⟩
/-- The reference's digits: the decimal numeral. -/
theorem digits_any (k : Nat) : ∀ (n : Nat) (w : World), n ≤ k → n ≤ 1099511627776 →
    Calls Tryd.prog 35 #[.int .i64 n] w fun e w' => e = .returned (.string ⟨(Lib.decDigits n).toArray⟩) ∧ Grew w w' := by
  induction k with
  | zero => intro n w hk _; exact digits_one n (by omega) w
  | succ k ih =>
    intro n w hk hb
    by_cases hn : n < 10
    · exact digits_one n hn w
    · have HD := Lib.hid (show Lib.decDigits n = Lib.decDigits (n / 10) ++ Lib.decDigits (n % 10) by rw [Lib.decDigits, dif_neg hn, Lib.decDigits_one (Nat.mod_lt _ (by omega))])
      have HB := Lib.hid (Grew.refl w)
      have h1 : ((n / 10 : Nat) : Int) = (n : Int) / 10 := by omega
      have h2 : ((n % 10 : Nat) : Int) = (n : Int) % 10 := by omega
      have c1 : ∀ w, Calls Tryd.prog 35 #[.int .i64 ((n : Int) / 10)] w fun e w' => e = .returned (.string ⟨(Lib.decDigits (n / 10)).toArray⟩) ∧ Grew w w' := fun w => by
        rw [← h1]; exact ih (n / 10) w (by omega) (by omega)
      have c2 : ∀ w, Calls Tryd.prog 35 #[.int .i64 ((n : Int) % 10)] w fun e w' => e = .returned (.string ⟨(Lib.decDigits (n % 10)).toArray⟩) ∧ Grew w w' := fun w => by
        rw [← h2]; exact digits_one (n % 10) (by omega) w
      have l1 := (decDigits_len (n / 10) (by omega)).2
      have l2 := (decDigits_len (n % 10) (by omega)).2
      have C1 := Lib.hid c1
      have C2 := Lib.hid c2
      clear c1 c2 h1 h2
      go_enter Tryd.func35, Tryd.ntmps35
      go_wp2_with (first
        | (go_at_call 35; (with_reducible refine (C1.out _).mono ?_); rintro e w1 ⟨rfl, hb1⟩; replace HB := Lib.hid (HB.out.trans hb1); clear hb1)
        | (go_at_call 35; (with_reducible refine (C2.out _).mono ?_); rintro e w1 ⟨rfl, hb1⟩; replace HB := Lib.hid (HB.out.trans hb1); clear hb1))
      go_ret
      exact ⟨ret_string (by rw [HD.out]; exact str_append _ _), HB.out⟩

theorem txt_one (m : Nat) (h : m ≤ 1099511627776) : txt m m = Lib.decDigits m := by
  unfold txt
  rw [if_pos (va_iff.2 ⟨by omega, by omega, by omega⟩)]
  simp [fmt]
theorem txt_two (m n : Nat) (h : m < n) (hn : n ≤ 1099511627776) : txt m n = (Lib.decDigits m ++ [46, 46]) ++ Lib.decDigits n := by
  unfold txt
  rw [if_pos (va_iff.2 ⟨by omega, by omega, by omega⟩)]
  have hne : ¬ m = n := by omega
  simp [fmt, hne]
theorem txt_no (x y : Int) (h : va x y = false) : txt x y = [] := by
  unfold txt
  rw [if_neg (by rw [h]; decide)]

theorem format_no (x y : Int) (h : va x y = false) (w : World) :
    Calls Tryd.prog 28 #[iv x y] w fun e w' => e = .returned (.string ⟨(txt x y).toArray⟩) ∧ Grew w w' := by
  have HT := Lib.hid (txt_no x y h)
  go_enter Tryd.func28, Tryd.ntmps28
  go_wp2_with (go_at_call 14; (with_reducible refine (valid_any _ _ _).mono ?_); rintro e _ ⟨rfl, rfl⟩)
  go_ret
  refine ⟨by rw [HT.out]; rfl, ?_⟩
  repeat (first | with_reducible exact Grew.refl _ | with_reducible refine Grew.alloc ?_ _)
theorem format_yes (x y : Nat) (h1 : x ≤ y) (h2 : y ≤ 1099511627776) (w : World) (he : Env w) :
    Calls Tryd.prog 28 #[iv x y] w fun e w' => e = .returned (.string ⟨(txt x y).toArray⟩) ∧ Grew w w' := by
  have hv : va x y = true := va_iff.2 ⟨by omega, by omega, by omega⟩
  have HE := Lib.hid he
  clear he
  have l1 := (decDigits_len x (by omega)).2
  have l2 := (decDigits_len y h2).2
  rcases Nat.lt_or_ge x y with hlt | hge
  · have HT := Lib.hid (txt_two x y hlt h2)
    have hne : ((x : Int) == (y : Int)) = false := by rw [beq_eq_false_iff_ne]; omega
    go_enter Tryd.func28, Tryd.ntmps28
    go_wp2_with (first
      | (go_at_call 14; (with_reducible refine (valid_any _ _ _).mono ?_); rintro e _ ⟨rfl, rfl⟩)
      | (go_at_call 34; generalize hW : bx _ _ _ = V; have hc : Box w.heap.size x y V := (by subst hW; exact ⟨by go_simp, by go_simp⟩); have hg := Lib.hid (show Grew w V by subst hW; exact ((Grew.refl _).alloc _).alloc _); clear hW; (with_reducible refine (fint_any _ (by omega) _ (HE.out.grew hg.out)).mono ?_); rintro e w1 ⟨rfl, hb1⟩; have hc0 := (hc.grew hb1).c0; have hc1 := (hc.grew hb1).c1; replace hg := Lib.hid (hg.out.trans hb1); clear hb1 hc)
      | (go_at_call 34; (with_reducible refine (fint_any _ (by omega) _ (HE.out.grew hg.out)).mono ?_); rintro e w2 ⟨rfl, hb2⟩; replace hg := Lib.hid (hg.out.trans hb2); clear hb2))
    go_ret
    exact ⟨ret_string (by rw [HT.out, ← str_append, ← str_append]), hg.out⟩
  · obtain rfl : x = y := by omega
    have HT := Lib.hid (txt_one x h2)
    go_enter Tryd.func28, Tryd.ntmps28
    go_wp2_with (first
      | (go_at_call 14; (with_reducible refine (valid_any _ _ _).mono ?_); rintro e _ ⟨rfl, rfl⟩)
      | (go_at_call 34; generalize hW : bx _ _ _ = V; have hc : Box w.heap.size x x V := (by subst hW; exact ⟨by go_simp, by go_simp⟩); have hg := Lib.hid (show Grew w V by subst hW; exact ((Grew.refl _).alloc _).alloc _); clear hW; (with_reducible refine (fint_any _ (by omega) _ (HE.out.grew hg.out)).mono ?_); rintro e w1 ⟨rfl, hb1⟩; have hc0 := (hc.grew hb1).c0; have hc1 := (hc.grew hb1).c1; replace hg := Lib.hid (hg.out.trans hb1); clear hb1 hc))
    go_ret
    exact ⟨ret_string (by rw [HT.out]), hg.out⟩
theorem format_any (x y : Int) (w : World) (he : Env w) :
    Calls Tryd.prog 28 #[iv x y] w fun e w' => e = .returned (.string ⟨(txt x y).toArray⟩) ∧ Grew w w' := by
  cases h : va x y
  · exact format_no x y h w
  · obtain ⟨a, b, c⟩ := va_iff.1 h
    obtain ⟨m, rfl⟩ : ∃ m : Nat, x = m := ⟨x.toNat, by omega⟩
    obtain ⟨n, rfl⟩ : ∃ n : Nat, y = n := ⟨y.toNat, by omega⟩
    exact format_yes m n (by omega) (by omega) w he
end Go.Proofs.YtoehjejpkaffiaaDoor
