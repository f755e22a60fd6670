/-
  LAYER 6 (deadlinequeue): valid, Feasible and the reference's Feasible.
-/
import Derived.Test.YtjcoghjkjnhljaaDqDur
namespace Go.Proofs.Ytjcoghjkjnhljaa
open Go Go.RowKit Go.IntWalk Go.Sort
set_option maxRecDepth 8000
set_option linter.unusedSimpArgs false

theorem ret_two {a b c d : Int} (h : (c, d) = (a, b)) : Ending.returned (.tuple #[.int .i64 a, .int .i64 b]) = .returned (.tuple #[.int .i64 c, .int .i64 d]) := by
  obtain ⟨rfl, rfl⟩ := Prod.mk.inj h
  rfl
theorem feas_bad {g : Int → Int} {t : Int} {xs : List It} (h : validB g t xs = false) : ((feas g t xs).1, (feas g t xs).2) = (0, 1) := by simp [feas, h]
theorem feas_none {g : Int → Int} {t : Int} {xs : List It} (h : validB g t xs = true) (hl : late g t (isort xs) = none) : ((feas g t xs).1, (feas g t xs).2) = (0, 0) := by simp [feas, h, hl]
theorem feas_some {g : Int → Int} {t : Int} {xs : List It} {x : It} (h : validB g t xs = true) (hl : late g t (isort xs) = some x) : ((feas g t xs).1, (feas g t xs).2) = (x.1, 14) := by simp [feas, h, hl]
theorem itOk_perm {l m : List It} (h : l.Perm m) (hl : itOk l) : itOk m := fun x hx => hl x (h.mem_iff.2 hx)
set_option maxHeartbeats 4000000 in
theorem rfeasible_any (t : Int) (p : Option Addr) (n c b : Nat) (xs : List It) (g : Int → Int) (w : World) (hl : xs.length = n) (hn : n ≤ 1000) (h : RdI w p c xs) (hok : itOk xs) (hD : Dur w b g) (ht : In64 t) :
    Calls Try.prog 25 #[.int .i64 t, .slice p n c, .map (some b)] w fun e w' => e = .returned (.tuple #[.int .i64 (feas g t xs).1, .int .i64 (feas g t xs).2]) ∧ Grew w w' := by
  have HS := Lib.hid (sorted_any p n c xs w hl (by omega) h)
  have HD := Lib.hid hD
  have Hok := Lib.hid (itOk_perm (isort_perm xs).symm hok)
  have hxl : xs.length ≤ 1000 := by omega
  have hsl := isort_len xs
  obtain ⟨t0, t1⟩ := ht
  clear h hl hD hok
  go_enter Try.func25, Try.ntmps25
  go_wp2_with fail
  (with_reducible refine HS.out.mono ?_)
  clear HS
  rintro e w1 (⟨p1, c1, rfl, hid, hr, g1⟩ | ⟨rfl, hid, g1⟩)
  · have Hid1 := Lib.hid hid
    have HR := Lib.hid hr
    have G1 := Lib.hid g1
    clear hid hr g1
    by_cases ht0 : t < 0
    · have hno := Lib.hid (show validB g t xs = false by
        rw [← Bool.not_eq_true, valid_iff, isTm_iff]
        omega)
      go_wp2
      go_ret2
      exact ⟨ret_two (feas_bad hno.out), G1.out⟩
    by_cases ht1 : 1099511627776 < t
    · have hno := Lib.hid (show validB g t xs = false by
        rw [← Bool.not_eq_true, valid_iff, isTm_iff]
        omega)
      go_wp2
      go_ret2
      exact ⟨ret_two (feas_bad hno.out), G1.out⟩
    replace ht0 : 0 ≤ t := by omega
    replace ht1 : t ≤ 1099511627776 := by omega
    go_wp2_with fail
    have hsb : (isort xs).length ≤ 1000 := by omega
    rw [← hsl]
    clear hsl
    generalize hso : isort xs = so at HR Hok hsb ⊢
    have Hso := Lib.hid hso
    clear hso
    go_loopg [32] so.length (fun gg iv wr => ∃ k : Nat, iv = .int .i64 (k : Int) ∧ k ≤ so.length ∧ gg = so.length - k ∧ Hid (∀ x ∈ so.take k, okIt g x = true) ∧ Hid (Grew w1 wr))
    case atStart => exact ⟨0, rfl, Nat.zero_le _, rfl, by simp [Hid], Grew.refl _⟩
    case round =>
      obtain ⟨k, rfl, hk, rfl, hall, hg⟩ := hrel
      by_cases hlt : k < so.length
      · have hrk := HR.out.kept hg.out
        obtain ⟨bb, o, rfl, -⟩ := hrk.cells (by omega)
        obtain ⟨hx0, hx1⟩ := hrk.at hlt
        have hts := take_snocI so k hlt
        have hmem : so.getD k (0, 0) ∈ so := by simp [List.getD, hlt]
        have hin := Hok.out _ hmem
        generalize so.getD k (0, 0) = x at hx0 hx1 hts hin hmem
        obtain ⟨x1, x2⟩ := x
        simp only [] at hin
        have Hmem : Hid ((x1, x2) ∈ xs) := Lib.hid (by rw [← Hso.out] at hmem; exact (isort_perm xs).mem_iff.1 hmem)
        have Hin := Lib.hid hin.1
        have Hts := Lib.hid hts
        have HD' := Lib.hid (((HD.out.grew G1.out).grew hg.out).grew ((Grew.refl wr).alloc (.cells #[.int .i64 x1, .int .i64 x2] 36)))
        have hgr := HD.out.in64 x1
        generalize hgx : g x1 = gx at hgr
        have Hgx := Lib.hid hgx
        obtain ⟨hr1, hr2⟩ := hgr
        obtain ⟨-, hr3, hr4⟩ := hin
        clear hgx hts hrk hmem
        by_cases a1 : x2 < 0
        · have hno := Lib.hid (show validB g t xs = false by
            rw [← Bool.not_eq_true, valid_iff]
            rintro ⟨_, _, hall⟩
            have := hall _ Hmem.out
            simp only [okIt, Bool.and_eq_true, isTm_iff, Hgx.out] at this
            omega)
          go_wp2_with (at_lookup; refine wpList_lookD _ _ rfl rfl b g rfl HD'.out x1 rfl Hin.out ?_; rw [Hgx.out])
          go_ret2
          exact ⟨ret_two (feas_bad hno.out), (G1.out.trans hg.out).alloc _⟩
        by_cases a2 : 1099511627776 < x2
        · have hno := Lib.hid (show validB g t xs = false by
            rw [← Bool.not_eq_true, valid_iff]
            rintro ⟨_, _, hall⟩
            have := hall _ Hmem.out
            simp only [okIt, Bool.and_eq_true, isTm_iff, Hgx.out] at this
            omega)
          go_wp2_with (at_lookup; refine wpList_lookD _ _ rfl rfl b g rfl HD'.out x1 rfl Hin.out ?_; rw [Hgx.out])
          go_ret2
          exact ⟨ret_two (feas_bad hno.out), (G1.out.trans hg.out).alloc _⟩
        by_cases a3 : gx < 0
        · have hno := Lib.hid (show validB g t xs = false by
            rw [← Bool.not_eq_true, valid_iff]
            rintro ⟨_, _, hall⟩
            have := hall _ Hmem.out
            simp only [okIt, Bool.and_eq_true, isTm_iff, Hgx.out] at this
            omega)
          go_wp2_with (at_lookup; refine wpList_lookD _ _ rfl rfl b g rfl HD'.out x1 rfl Hin.out ?_; rw [Hgx.out])
          go_ret2
          exact ⟨ret_two (feas_bad hno.out), (G1.out.trans hg.out).alloc _⟩
        by_cases a4 : 1099511627776 < gx
        · have hno := Lib.hid (show validB g t xs = false by
            rw [← Bool.not_eq_true, valid_iff]
            rintro ⟨_, _, hall⟩
            have := hall _ Hmem.out
            simp only [okIt, Bool.and_eq_true, isTm_iff, Hgx.out] at this
            omega)
          go_wp2_with (at_lookup; refine wpList_lookD _ _ rfl rfl b g rfl HD'.out x1 rfl Hin.out ?_; rw [Hgx.out])
          go_ret2
          exact ⟨ret_two (feas_bad hno.out), (G1.out.trans hg.out).alloc _⟩
        have hnext : Hid (∀ x ∈ so.take (k + 1), okIt g x = true) := Lib.hid fun x hx => by
          rw [Hts.out] at hx
          rcases List.mem_append.1 hx with hx | hx
          · exact hall.out x hx
          · obtain rfl : x = (x1, x2) := by simpa using hx
            simp only [okIt, Bool.and_eq_true, isTm_iff, Hgx.out]
            omega
        go_wp2_with (at_lookup; refine wpList_lookD _ _ rfl rfl b g rfl HD'.out x1 rfl Hin.out ?_; rw [Hgx.out])
        go_roundg (so.length - (k + 1))
        case measure => omega
        case rel => exact ⟨k + 1, by go_num, by omega, rfl, hnext, hg.out.alloc _⟩
      · obtain rfl : k = so.length := by omega
        rw [List.take_length] at hall
        have Hpos := hall
        have hval := Lib.hid (show validB g t xs = true by
          rw [valid_iff, isTm_iff]
          exact ⟨⟨ht0, ht1⟩, idsB_iff.1 Hid1.out, fun x hx => hall.out x (by rw [← Hso.out]; exact (isort_perm xs).mem_iff.2 hx)⟩)
        have G2 := Lib.hid (G1.out.trans hg.out)
        have HR2 := Lib.hid (HR.out.kept hg.out)
        obtain ⟨w2, hw2⟩ : ∃ w2, w2 = wr := ⟨_, rfl⟩
        rw [← hw2] at G2 HR2 ⊢
        clear hw2 hall hg HR
        go_wp2_with fail
        go_loopg [0, 59] so.length (fun gg tv iv wr => ∃ (k : Nat) (u : Int), tv = .int .i64 u ∧ iv = .int .i64 (k : Int) ∧ k ≤ so.length ∧ gg = so.length - k ∧ 0 ≤ u ∧ u ≤ 1099511627776 ∧ Hid (late g u (so.drop k) = late g t so) ∧ Hid (Grew w2 wr))
        case atStart => exact ⟨0, t, rfl, rfl, Nat.zero_le _, rfl, ht0, ht1, rfl, Grew.refl _⟩
        case round =>
          obtain ⟨k, u, rfl, rfl, hk, rfl, hu1, hu2, hla, hg⟩ := hrel
          by_cases hlt : k < so.length
          · have hrk := HR2.out.kept hg.out
            obtain ⟨bb, o, rfl, -⟩ := hrk.cells (by omega)
            obtain ⟨hx0, hx1⟩ := hrk.at hlt
            have hdr := drop_consI so k hlt
            have hmem : so.getD k (0, 0) ∈ so := by simp [List.getD, hlt]
            have hin := Hok.out _ hmem
            have hpp := Hpos.out _ hmem
            generalize so.getD k (0, 0) = x at hx0 hx1 hdr hin hpp hmem
            obtain ⟨x1, x2⟩ := x
            simp only [okIt, Bool.and_eq_true, isTm_iff] at hpp
            obtain ⟨⟨hd3, hd4⟩, hd1, hd2⟩ := hpp
            simp only [] at hin hd1 hd2 hd3 hd4
            have Hin := Lib.hid hin.1
            have hls := late_split g u (x1, x2) (so.drop (k + 1))
            rw [← hdr, hla.out] at hls
            simp only [] at hls
            have Hls := Lib.hid hls
            have HD' := Lib.hid (((HD.out.grew G2.out).grew hg.out).grew ((Grew.refl wr).alloc (.cells #[.int .i64 x1, .int .i64 x2] 36)))
            generalize hgx : g x1 = gx at hd1 hd2
            clear hls hdr hin hrk hmem
            by_cases hlate : x2 < u + gx
            · have Hgx := Lib.hid hgx
              clear hgx
              have e1 := Lib.hid (show late g t so = some (x1, x2) by rw [Hls.out, Hgx.out, if_pos hlate])
              go_wp2_with (at_lookup; refine wpList_lookD _ _ rfl rfl b g rfl HD'.out x1 rfl Hin.out ?_; rw [Hgx.out])
              go_ret2
              exact ⟨ret_two (feas_some hval.out (by rw [Hso.out]; exact e1.out)), (G2.out.trans hg.out).alloc _⟩
            · have Hgx := Lib.hid hgx
              clear hgx
              have e1 := Lib.hid (show late g (u + gx) (so.drop (k + 1)) = late g t so by rw [Hls.out, Hgx.out, if_neg hlate])
              have hle : u + gx ≤ x2 := by omega
              clear hlate
              go_wp2_with (at_lookup; refine wpList_lookD _ _ rfl rfl b g rfl HD'.out x1 rfl Hin.out ?_; rw [Hgx.out])
              go_roundg (so.length - (k + 1))
              case measure => omega
              case rel => exact ⟨k + 1, u + gx, rfl, by go_num, by omega, rfl, by omega, by omega, e1, hg.out.alloc _⟩
          · obtain rfl : k = so.length := by omega
            rw [List.drop_length] at hla
            have e1 := Lib.hid (show late g t so = none by rw [← hla.out]; rfl)
            go_wp2
            go_ret2
            exact ⟨ret_two (feas_none hval.out (by rw [Hso.out]; exact e1.out)), G2.out.trans hg.out⟩
  · have hno := Lib.hid (show validB g t xs = false by
      rw [← Bool.not_eq_true, valid_iff]
      rintro ⟨_, hi, _⟩
      rw [← idsB_iff, hid] at hi
      cases hi)
    have G1 := Lib.hid g1
    clear hid g1
    go_wp2
    go_ret2
    exact ⟨ret_two (feas_bad hno.out), G1.out⟩
end Go.Proofs.Ytjcoghjkjnhljaa
