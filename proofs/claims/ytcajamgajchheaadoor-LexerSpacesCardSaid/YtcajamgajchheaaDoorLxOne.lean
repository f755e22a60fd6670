/-
  LAYER 15's REFERENCE: one.
-/
import Derived.Test.YtcajamgajchheaaDoorLxRMark
namespace Go.Proofs.YtcajamgajchheaaDoor
open Go Go.RowKit Go.IntWalk
set_option linter.unusedSimpArgs false
set_option linter.unusedVariables false
set_option maxRecDepth 8000
section
variable {dst : Option Tmp} {ty : TypeId} {pos : String} {after : Array Edge} {g : Option (Nat × Bool)} {a : Act} {w : World} {T : Value → World → Prop}
end

theorem enters_rkw : Enters Tryd.prog 24 := fun args w => by go_simp
theorem enters_has : Enters Tryd.prog 46 := fun args w => by go_simp
theorem wl_fl {xs : List UInt8} (h : hd ltr xs = true) : wl xs = fl xs := by
  cases xs with
  | nil => cases h
  | cons a r =>
    have ha : ltr a = true := h
    rw [wl, fl, if_pos ha, if_pos ha]
theorem wl_no {xs : List UInt8} (h : hd ltr xs = false) : wl xs = 0 := by
  cases xs with
  | nil => rfl
  | cons a r =>
    have ha : ¬ ltr a = true := Bool.eq_false_iff.1 h
    rw [wl, if_neg ha]
theorem num_no {xs : List UInt8} (h : hd dig xs = false) : (xs.takeWhile dig).length = 0 := by
  cases xs with
  | nil => rfl
  | cons a r =>
    have ha : ¬ dig a = true := Bool.eq_false_iff.1 h
    rw [List.takeWhile_cons, if_neg ha]
    rfl
def Said (s : ByteArray) (w : World) (e : Ending) (w' : World) : Prop := e = .returned (.agg #[.int .i64 (kd (ft s.data.toList)), .string ⟨(ft s.data.toList).toArray⟩, .int .i16 (vl (ft s.data.toList)), .int .i64 0]) ∧ Grew w w'
set_option maxHeartbeats 4000000 in
theorem one_word (s : ByteArray) (hs : s.size ≤ 100000) (hn : s.data.toList ≠ []) (h1 : hd ltr s.data.toList = true) (w : World) : Calls Tryd.prog 29 #[.string s] w (Said s w) := by
  obtain ⟨S, hS⟩ : ∃ S, w.heap.size = S := ⟨_, rfl⟩
  have hw := fun W => word_any s hs W
  rw [wl_fl h1] at hw
  have hle : fl s.data.toList ≤ s.size := fl_le s.data.toList
  have hpos := fl_pos hn
  have hsl : s.extract 0 (fl s.data.toList) = ⟨(ft s.data.toList).toArray⟩ := by rw [extract_list]; rfl
  have hkd : kd (ft s.data.toList) = if kwl.contains (ft s.data.toList) = true then 3 else if (ft s.data.toList).length ≤ 32 then 1 else 5 := by
    rw [kd, hd_ft ltr hn, h1, if_pos rfl]
  have hvl : vl (ft s.data.toList) = 0 := by
    rw [vl, if_neg]
    rw [hkd]
    split
    · omega
    · split <;> omega
  have hin := kwb_has (s.extract 0 (fl s.data.toList))
  rw [hsl] at hin
  rw [ft_len] at hkd
  unfold Said
  rw [hvl, hkd, ← hsl]
  rw [← hsl] at hin
  have hcon : (s.extract 0 (fl s.data.toList)).data.toList = ft s.data.toList := by rw [hsl]
  rw [hcon] at hin
  clear hkd hvl hsl hcon
  generalize kwl.contains (ft s.data.toList) = b at hin ⊢
  generalize fl s.data.toList = n at *
  have HW := Lib.hid hw
  have HBB := Lib.hid hin
  have hpos' : (0 : Int) < (n : Int) := by omega
  obtain ⟨z, hz⟩ : ∃ z : Int, (if b = true then (3 : Int) else if n ≤ 32 then 1 else 5) = z := ⟨_, rfl⟩
  rw [hz]
  have HZ := Lib.hid hz
  clear hw hin h1 hn hz
  go_enter Tryd.func29, Tryd.ntmps29
  go_wp2_with (go_at_call 45; generalize hV : World.alloc _ _ = V; have hb : Blk S [.int .i64 0, .string ⟨#[]⟩, .int .i16 0, .int .i64 0] 38 V := (by subst hV hS; exact Blk.new w _ _); have hgV : Grew w V := (by subst hV; exact (Grew.refl w).alloc _); clear hV; with_reducible refine (HW.out _).mono ?_; rintro e w1 ⟨rfl, hw1⟩; subst w1; have HB0 := Lib.hid hb; have HG0 := Lib.hid hgV; clear hb hgV)
  refine wp_posts [some 10, some 11, some 12, some 13, some 14] [false, false, false, false, false, false, false, false, false, false, true, true, true, true, true, false, false, false, false, false, false, false, false, false, false, false, false, false, false, false, false, false, false, false, false, false, false, false, false, false, false, false, false, false, false, false, false, false, false, false, false, false, false, false, false, false, false, false, false, false, false, false, false, false, false, false, false, false, false, false, false, false, false, false, false, false, false, false, false, false, false, false] [fun v w => ∃ p, v = .slice p 22 22 ∧ Rw 1 stc w p 22 kwb, fun v _ => v = .string s, fun v _ => v = .int .i64 (((n : Nat) : Int)), fun v _ => v = .string (s.extract 0 n), fun v _ => v = .bool b] (by kernel_rfl) (by kernel_rfl) rfl ?_ ⟨?_, ?_, ?_, ?_, ?_, trivial⟩ ?_
  · exact ⟨fun v w w1 hg h => match h with | ⟨p, h1, h2⟩ => ⟨p, h1, h2.kept hg⟩, fun _ _ _ _ h => h, fun _ _ _ _ h => h, fun _ _ _ _ h => h, fun _ _ _ _ h => h, trivial⟩
  · intro u w hR hd; exact runs_c0 enters_rkw ((rkw_any _).mono fun e w9 ⟨p, h1, h2, h3⟩ => ⟨_, h1, h3, p, rfl, h2⟩)
  · intro u w hR hd; exact runs_mv (ev rfl) ⟨Grew.refl _, rfl⟩
  · intro u w hR hd; exact runs_mv (ev rfl) ⟨Grew.refl _, rfl⟩
  · intro u w hR hd; exact runs_slh (ev (hd.1 rfl)) (ev (hd.2.1 rfl)) hle ⟨Grew.refl _, rfl⟩
  · intro u w hR hd; exact (match (hd.1 rfl) with | ⟨p, h1, h2⟩ => runs_c2 enters_has (ev h1) (ev (hd.2.1 rfl)) ((has_any p 22 kwb _ b HBB.out _ h2).mono fun e w9 ⟨h3, h4⟩ => ⟨_, h3, h4 ▸ Grew.refl _, rfl⟩))
  · intro u w4 hR h
    have he : u 14 = .bool b := h 4 (by decide)
    have HG4 := Lib.hid (HG0.out.drw.trans hR)
    have hb4 : Blk S [.int .i64 0, .string ⟨#[]⟩, .int .i16 0, .int .i64 0] 38 w4 := HB0.out.grew ((Grew.refl _).drw.trans hR)
    obtain ⟨q0, q1, q2, q3, r0, r1, r2, r3⟩ := tk4 _ _ _ _ _ hb4
    simp only [mixA, mixL, cond_true, cond_false, he]
    clear h he hR hb4 HB0 HG0 HW HBB
    cases b with
    | true =>
      have hz : 3 = z := by rw [← HZ.out, if_pos rfl]
      subst hz
      go_wp2
      refine ret_tk (S0 := S) (v0 := .int .i64 3) (v1 := .string (s.extract 0 n)) (v2 := .int .i16 0) (v3 := .int .i64 0) (.inr Tryd.results29) rfl (by go_simp) (by go_simp) (by go_simp) (by go_simp) ⟨rfl, ?_⟩
      repeat (first | with_reducible exact HG4.out | with_reducible refine Grew.sc ?_ (by first | omega | (simp <;> omega)) _ _ | with_reducible refine Grew.alloc ?_ _)
    | false =>
      by_cases h32 : n ≤ 32
      · have hz : 1 = z := by rw [← HZ.out, if_neg (by simp), if_pos h32]
        subst hz
        go_wp2
        all_goals first | (exfalso; omega) | skip
        refine ret_tk (S0 := S) (v0 := .int .i64 1) (v1 := .string (s.extract 0 n)) (v2 := .int .i16 0) (v3 := .int .i64 0) (.inr Tryd.results29) rfl (by go_simp) (by go_simp) (by go_simp) (by go_simp) ⟨rfl, ?_⟩
        repeat (first | with_reducible exact HG4.out | with_reducible refine Grew.sc ?_ (by first | omega | (simp <;> omega)) _ _ | with_reducible refine Grew.alloc ?_ _)
      · have hz : 5 = z := by rw [← HZ.out, if_neg (by simp), if_neg h32]
        subst hz
        go_wp2
        all_goals first | (exfalso; omega) | skip
        refine ret_tk (S0 := S) (v0 := .int .i64 5) (v1 := .string (s.extract 0 n)) (v2 := .int .i16 0) (v3 := .int .i64 0) (.inr Tryd.results29) rfl (by go_simp) (by go_simp) (by go_simp) (by go_simp) ⟨rfl, ?_⟩
        repeat (first | with_reducible exact HG4.out | with_reducible refine Grew.sc ?_ (by first | omega | (simp <;> omega)) _ _ | with_reducible refine Grew.alloc ?_ _)
set_option maxHeartbeats 4000000 in
theorem one_mark (s : ByteArray) (hs : s.size ≤ 100000) (hn : s.data.toList ≠ []) (h1 : hd ltr s.data.toList = false) (h2 : hd dig s.data.toList = false) (w : World) : Calls Tryd.prog 29 #[.string s] w (Said s w) := by
  obtain ⟨S, hS⟩ : ∃ S, w.heap.size = S := ⟨_, rfl⟩
  have hw := fun W => word_any s hs W
  rw [wl_no h1] at hw
  have hnu := fun W => number_any s hs W
  rw [num_no h2] at hnu
  have hmk := fun W => rmark_any s hs W
  have hm := mkl_ft hn h1 h2
  have hml := (mkl_le s.data.toList).1
  have hml2 : mkl s.data.toList ≤ s.size := hml
  have hkd : kd (ft s.data.toList) = if mkl s.data.toList = 0 then 5 else 4 := by
    rw [kd, hd_ft ltr hn, h1, if_neg (by simp), hd_ft dig hn, h2, if_neg (by simp), hm]
  have hvl : vl (ft s.data.toList) = 0 := by
    rw [vl, if_neg]
    rw [hkd]
    split <;> omega
  have hf := fl_mark hn h1 h2
  have hlen : 0 < s.size := List.length_pos_iff.2 hn
  have hft : s.extract 0 (max 1 (mkl s.data.toList)) = ⟨(ft s.data.toList).toArray⟩ := by rw [extract_list, ft, hf]
  unfold Said
  rw [hvl, hkd, ← hft]
  clear hvl hkd hft hf hm hml hn h1 h2
  generalize mkl s.data.toList = m at *
  have HW := Lib.hid hw
  have HNU := Lib.hid hnu
  have HM := Lib.hid hmk
  clear hw hnu hmk
  by_cases h0 : m = 0
  · subst h0
    rw [if_pos rfl, show max 1 0 = 1 from rfl]
    go_enter Tryd.func29, Tryd.ntmps29
    go_wp2_with (first
      | (go_at_call 45; generalize hV : World.alloc _ _ = V; have hb : Blk S [.int .i64 0, .string ⟨#[]⟩, .int .i16 0, .int .i64 0] 38 V := (by subst hV hS; exact Blk.new w _ _); have hgV : Grew w V := (by subst hV; exact (Grew.refl w).alloc _); clear hV; with_reducible refine (HW.out _).mono ?_; rintro e w1 ⟨rfl, hw1⟩; subst w1; have HB0 := Lib.hid hb; have HG0 := Lib.hid hgV; clear hb hgV)
      | (go_at_call 47; with_reducible refine (HNU.out _).mono ?_; rintro e w1 ⟨rfl, hw1⟩; subst w1)
      | (go_at_call 48; with_reducible refine (HM.out _).mono ?_; rintro e w3 ⟨rfl, g3⟩; have HB3 := Lib.hid (HB0.out.grew g3); have HG3 := Lib.hid (HG0.out.trans g3); clear g3; obtain ⟨q0, q1, q2, q3, r0, r1, r2, r3⟩ := tk4 _ _ _ _ _ HB3.out))
    refine ret_tk (S0 := S) (v0 := .int .i64 5) (v1 := .string (s.extract 0 1)) (v2 := .int .i16 0) (v3 := .int .i64 0) (.inr Tryd.results29) rfl (by go_simp) (by go_simp) (by go_simp) (by go_simp) ⟨rfl, ?_⟩
    repeat (first | with_reducible exact HG3.out | with_reducible refine Grew.sc ?_ (by first | omega | (simp <;> omega)) _ _ | with_reducible refine Grew.alloc ?_ _)
  · rw [if_neg h0, Nat.max_eq_right (by omega)]
    have hpos' : (0 : Int) < (m : Int) := by omega
    go_enter Tryd.func29, Tryd.ntmps29
    go_wp2_with (first
      | (go_at_call 45; generalize hV : World.alloc _ _ = V; have hb : Blk S [.int .i64 0, .string ⟨#[]⟩, .int .i16 0, .int .i64 0] 38 V := (by subst hV hS; exact Blk.new w _ _); have hgV : Grew w V := (by subst hV; exact (Grew.refl w).alloc _); clear hV; with_reducible refine (HW.out _).mono ?_; rintro e w1 ⟨rfl, hw1⟩; subst w1; have HB0 := Lib.hid hb; have HG0 := Lib.hid hgV; clear hb hgV)
      | (go_at_call 47; with_reducible refine (HNU.out _).mono ?_; rintro e w1 ⟨rfl, hw1⟩; subst w1)
      | (go_at_call 48; with_reducible refine (HM.out _).mono ?_; rintro e w3 ⟨rfl, g3⟩; have HB3 := Lib.hid (HB0.out.grew g3); have HG3 := Lib.hid (HG0.out.trans g3); clear g3; obtain ⟨q0, q1, q2, q3, r0, r1, r2, r3⟩ := tk4 _ _ _ _ _ HB3.out))
    all_goals first | (exfalso; omega) | skip
    refine ret_tk (S0 := S) (v0 := .int .i64 4) (v1 := .string (s.extract 0 m)) (v2 := .int .i16 0) (v3 := .int .i64 0) (.inr Tryd.results29) rfl (by go_simp) (by go_simp) (by go_simp) (by go_simp) ⟨rfl, ?_⟩
    repeat (first | with_reducible exact HG3.out | with_reducible refine Grew.sc ?_ (by first | omega | (simp <;> omega)) _ _ | with_reducible refine Grew.alloc ?_ _)
set_option maxHeartbeats 8000000 in
theorem one_number (s : ByteArray) (hs : s.size ≤ 100000) (hn : s.data.toList ≠ []) (h1 : hd ltr s.data.toList = false) (h2 : hd dig s.data.toList = true) (w : World) : Calls Tryd.prog 29 #[.string s] w (Said s w) := by
  obtain ⟨S, hS⟩ : ∃ S, w.heap.size = S := ⟨_, rfl⟩
  have hsz : 0 < s.size := List.length_pos_iff.2 hn
  have hw := fun W => word_any s hs W
  rw [wl_no h1] at hw
  have hnu := fun W => number_any s hs W
  have hft := ft_num h1 h2
  have hfl := ft_len s.data.toList
  rw [← hft, hfl] at hnu
  have hle : fl s.data.toList ≤ s.size := fl_le s.data.toList
  have hpos := fl_pos hn
  obtain ⟨n, hnn⟩ : ∃ n, fl s.data.toList = n := ⟨_, rfl⟩
  have htk : ft s.data.toList = s.data.toList.take n := by rw [ft, hnn]
  rw [hnn] at hnu hle hpos hfl
  have hsl : s.extract 0 n = ⟨(ft s.data.toList).toArray⟩ := by rw [extract_list, htk]
  have hdg : ∀ c ∈ ft s.data.toList, 48 ≤ c.toNat ∧ c.toNat ≤ 57 := fun c hc => dig_byte (tw_all dig s.data.toList c (by rw [← hft]; exact hc))
  have hkd : kd (ft s.data.toList) = if okn (ft s.data.toList) = true then 2 else 5 := by
    rw [kd, hd_ft ltr hn, h1, if_neg (by simp), hd_ft dig hn, h2, if_pos rfl]
  have hvl : vl (ft s.data.toList) = if okn (ft s.data.toList) = true then ((dval 0 (ft s.data.toList) : Nat) : Int) else (0 : Int) := by
    rw [vl, hkd]
    split
    · rw [if_pos rfl]
    · rw [if_neg (by omega)]
  have hok : okn (ft s.data.toList) = (decide (dval 0 (ft s.data.toList) ≤ 32767) && !(decide (1 < n) && hd (· == 48) s.data.toList)) := by
    rw [okn, hfl, hd_ft _ hn]
  have hget : ∀ k (hk : k < n), (s.data.toList.take (k + 1)) = s.data.toList.take k ++ [s[k]'(Nat.lt_of_lt_of_le hk hle)] ∧ 48 ≤ (s[k]'(Nat.lt_of_lt_of_le hk hle)).toNat ∧ (s[k]'(Nat.lt_of_lt_of_le hk hle)).toNat ≤ 57 := fun k hk => by
    have h3 := take_snoc s k (by omega)
    refine ⟨h3, hdg _ ?_⟩
    have h4 : s[k]'(Nat.lt_of_lt_of_le hk hle) ∈ s.data.toList.take (k + 1) := by rw [h3]; simp
    rw [htk]
    have h5 : s.data.toList.take (k + 1) = (s.data.toList.take n).take (k + 1) := by rw [List.take_take, Nat.min_eq_left (by omega)]
    rw [h5] at h4
    exact List.mem_of_mem_take h4
  have hmono : ∀ k, k ≤ n → dval 0 (s.data.toList.take k) ≤ dval 0 (ft s.data.toList) := fun k hk => by
    have h5 : s.data.toList.take k = (s.data.toList.take n).take k := by rw [List.take_take, Nat.min_eq_left hk]
    rw [h5, htk]
    exact dval_take _ _ _
  have hall : dval 0 (s.data.toList.take n) = dval 0 (ft s.data.toList) := by rw [htk]
  have hhd : hd (· == 48) s.data.toList = (s[0]'hsz == 48) := by
    have h6 : s.data.toList[0]'hsz = s[0]'hsz := rfl
    cases hx : s.data.toList with
    | nil => exact absurd hx hn
    | cons a r =>
      simp only [hx, List.getElem_cons_zero] at h6
      rw [hd, h6]
  unfold Said
  rw [hvl, hkd, ← hsl]
  rw [hhd] at hok
  have hb48 : (s[0]'hsz == 48) = (((s[0]'hsz).toNat : Int) == 48) := by
    rw [Bool.eq_iff_iff, byte_is, beq_iff_eq]
    exact Iff.rfl
  rw [hb48] at hok
  clear hkd hvl hsl hfl hft hdg h1 h2 hhd hb48 hn htk hnn
  generalize okn (ft s.data.toList) = ok at *
  generalize dval 0 (ft s.data.toList) = d at *
  have HW := Lib.hid hw
  have HNU := Lib.hid hnu
  have HGET := Lib.hid hget
  have HMONO := Lib.hid hmono
  have HALL := Lib.hid hall
  have HOK := Lib.hid hok
  obtain ⟨z, hz⟩ : ∃ z : Int, (if ok = true then (2 : Int) else 5) = z := ⟨_, rfl⟩
  obtain ⟨y, hy⟩ : ∃ y : Int, (if ok = true then (d : Int) else (0 : Int)) = y := ⟨_, rfl⟩
  rw [hz, hy]
  have HZ := Lib.hid hz
  have HYY := Lib.hid hy
  have hpos' : (0 : Int) < (n : Int) := by omega
  clear hw hnu hget hmono hall hok hz hy
  go_enter Tryd.func29, Tryd.ntmps29
  go_wp2_with (first
    | (go_at_call 45; generalize hV : World.alloc _ _ = V; have hb : Blk S [.int .i64 0, .string ⟨#[]⟩, .int .i16 0, .int .i64 0] 38 V := (by subst hV hS; exact Blk.new w _ _); have hgV : Grew w V := (by subst hV; exact (Grew.refl w).alloc _); clear hV; with_reducible refine (HW.out _).mono ?_; rintro e w1 ⟨rfl, hw1⟩; subst w1; have HB0 := Lib.hid hb; have HG0 := Lib.hid hgV; clear hb hgV)
    | (go_at_call 47; with_reducible refine (HNU.out _).mono ?_; rintro e w1 ⟨rfl, hw1⟩; subst w1))
  go_loopg [4, 5] n (fun gg vv iv wr => ∃ (k m : Nat), vv = .int .i64 (m : Int) ∧ iv = .int .i64 (k : Int) ∧ k ≤ n ∧ gg = n - k ∧ m ≤ 327679 ∧ Hid (m = dval 0 (s.data.toList.take k)) ∧ wr = V)
  case atStart => exact ⟨0, 0, rfl, rfl, Nat.zero_le _, rfl, by omega, Lib.hid rfl, rfl⟩
  case round =>
    obtain ⟨k, m, rfl, rfl, hk, rfl, hm, HM, rfl⟩ := hrel
    obtain ⟨q0, q1, q2, q3, r0, r1, r2, r3⟩ := tk4 _ _ _ _ _ HB0.out
    by_cases hbig : 32767 < m
    · have hokf : ok = false := by
        have h5 := HMONO.out k hk
        rw [← HM.out] at h5
        rw [HOK.out, decide_eq_false (by omega)]; rfl
      have hz : 5 = z := by rw [← HZ.out, hokf]; rfl
      have hy : 0 = y := by rw [← HYY.out, hokf]; rfl
      subst hz hy
      clear hokf
      rcases Nat.lt_or_ge k n with hlt | hge
      · go_wp2
        all_goals first | (exfalso; omega) | skip
        refine ret_tk (S0 := S) (v0 := .int .i64 5) (v1 := .string (s.extract 0 n)) (v2 := .int .i16 0) (v3 := .int .i64 0) (.inr Tryd.results29) rfl (by go_simp) (by go_simp) (by go_simp) (by go_simp) ⟨rfl, ?_⟩
        repeat (first | with_reducible exact HG0.out | with_reducible refine Grew.sc ?_ (by first | omega | (simp <;> omega)) _ _ | with_reducible refine Grew.alloc ?_ _)
      · obtain rfl : k = n := by omega
        go_wp2
        all_goals first | (exfalso; omega) | skip
        refine ret_tk (S0 := S) (v0 := .int .i64 5) (v1 := .string (s.extract 0 k)) (v2 := .int .i16 0) (v3 := .int .i64 0) (.inr Tryd.results29) rfl (by go_simp) (by go_simp) (by go_simp) (by go_simp) ⟨rfl, ?_⟩
        repeat (first | with_reducible exact HG0.out | with_reducible refine Grew.sc ?_ (by first | omega | (simp <;> omega)) _ _ | with_reducible refine Grew.alloc ?_ _)
    · by_cases hlt : k < n
      · have hgt := HGET.out k hlt
        obtain ⟨h5, g1, g2⟩ := hgt
        have HN : Hid (10 * m + ((s[k]'(Nat.lt_of_lt_of_le hlt hle)).toNat - 48) = dval 0 (s.data.toList.take (k + 1))) := Lib.hid (by rw [h5, dval_snoc, ← HM.out])
        have hks : k < s.size := Nat.lt_of_lt_of_le hlt hle
        clear h5
        go_wp2
        all_goals first | (exfalso; omega) | skip
        go_roundg (n - (k + 1))
        case measure => omega
        case rel => exact ⟨k + 1, 10 * m + ((s[k]'(Nat.lt_of_lt_of_le hlt hle)).toNat - 48), (by go_num), (by go_num), hlt, rfl, by omega, HN, rfl⟩
      · obtain rfl : k = n := by omega
        obtain rfl : m = d := by rw [HM.out]; exact HALL.out
        have hdl : decide (m ≤ 32767) = true := decide_eq_true (by omega)
        by_cases h1n : 1 < k
        · by_cases h48 : ((s[0]'hsz).toNat : Int) = 48
          · have hokf : ok = false := by rw [HOK.out, hdl, decide_eq_true h1n, h48]; rfl
            have hz : 5 = z := by rw [← HZ.out, hokf]; rfl
            have hy : 0 = y := by rw [← HYY.out, hokf]; rfl
            subst hz hy
            clear hokf hdl
            go_wp2
            all_goals first | (exfalso; omega) | skip
            refine ret_tk (S0 := S) (v0 := .int .i64 5) (v1 := .string (s.extract 0 k)) (v2 := .int .i16 0) (v3 := .int .i64 0) (.inr Tryd.results29) rfl (by go_simp) (by go_simp) (by go_simp) (by go_simp) ⟨rfl, ?_⟩
            repeat (first | with_reducible exact HG0.out | with_reducible refine Grew.sc ?_ (by first | omega | (simp <;> omega)) _ _ | with_reducible refine Grew.alloc ?_ _)
          · have h48b : (((s[0]'hsz).toNat : Int) == 48) = false := beq_eq_false_iff_ne.2 h48
            have hokf : ok = true := by rw [HOK.out, hdl, h48b, Bool.and_false]; rfl
            have hz : 2 = z := by rw [← HZ.out, hokf]; rfl
            have hy : (m : Int) = y := by rw [← HYY.out, hokf]; rfl
            subst hz hy
            clear hokf hdl
            go_wp2
            all_goals first | (exfalso; omega) | skip
            refine ret_tk (S0 := S) (v0 := .int .i64 2) (v1 := .string (s.extract 0 k)) (v2 := .int .i16 m) (v3 := .int .i64 0) (.inr Tryd.results29) rfl (by go_simp) (by go_simp) (by go_simp) (by go_simp) ⟨rfl, ?_⟩
            repeat (first | with_reducible exact HG0.out | with_reducible refine Grew.sc ?_ (by first | omega | (simp <;> omega)) _ _ | with_reducible refine Grew.alloc ?_ _)
        · have hokf : ok = true := by rw [HOK.out, hdl, decide_eq_false h1n]; rfl
          have hz : 2 = z := by rw [← HZ.out, hokf]; rfl
          have hy : (m : Int) = y := by rw [← HYY.out, hokf]; rfl
          subst hz hy
          clear hokf hdl
          go_wp2
          all_goals first | (exfalso; omega) | skip
          refine ret_tk (S0 := S) (v0 := .int .i64 2) (v1 := .string (s.extract 0 k)) (v2 := .int .i16 m) (v3 := .int .i64 0) (.inr Tryd.results29) rfl (by go_simp) (by go_simp) (by go_simp) (by go_simp) ⟨rfl, ?_⟩
          repeat (first | with_reducible exact HG0.out | with_reducible refine Grew.sc ?_ (by first | omega | (simp <;> omega)) _ _ | with_reducible refine Grew.alloc ?_ _)
theorem one_any (s : ByteArray) (hs : s.size ≤ 100000) (hn : s.data.toList ≠ []) (w : World) : Calls Tryd.prog 29 #[.string s] w (Said s w) := by
  cases h1 : hd ltr s.data.toList with
  | true => exact one_word s hs hn h1 w
  | false =>
    cases h2 : hd dig s.data.toList with
    | true => exact one_number s hs hn h1 h2 w
    | false => exact one_mark s hs hn h1 h2 w
end Go.Proofs.YtcajamgajchheaaDoor
