/-
  CONTRACTS OF LAYER 13 (powertrace): the reference's meter.
-/
import Derived.Test.YtapgpdgbdmnkgaaDoorPtMeter
namespace Go.Proofs.YtapgpdgbdmnkgaaDoor
open Go Go.RowKit Go.IntWalk
open Go.Lib (itoa)
set_option linter.unusedSimpArgs false
set_option linter.unusedVariables false
set_option maxRecDepth 8000

section
variable {dst : Option Tmp} {ty : TypeId} {pos : String} {after : Array Edge} {g : Option (Nat × Bool)} {a : Act} {w : World} {T : Value → World → Prop}
theorem rn_ret_c37 {fn : Func} {p0 : Tmp} (h : fn.results = #[.cell p0 37]) {tmps : Array Value} {w : World} {S0 : Nat} {v0_0 v0_1 v0_2 v0_3 v0_4 : Value} {R : Ending → World → Prop} (hp0 : tmps.getD p0 undef = .pointer (some ⟨S0, 0, none⟩)) (h0_0 : w.cell? ⟨S0, 0, none⟩ = some v0_0) (h0_1 : w.cell? ⟨S0, 1, none⟩ = some v0_1) (h0_2 : w.cell? ⟨S0, 2, none⟩ = some v0_2) (h0_3 : w.cell? ⟨S0, 3, none⟩ = some v0_3) (h0_4 : w.cell? ⟨S0, 4, none⟩ = some v0_4) (hR : R (.returned (.agg #[v0_0, v0_1, v0_2, v0_3, v0_4])) w) : bodyPost Tryd.prog fn R .ret { tmps := tmps, defers := [] } w := by
  refine bodyPost_ret (v := .agg #[v0_0, v0_1, v0_2, v0_3, v0_4]) ?_ rfl hR
  rw [Array.getD_eq_getD_getElem?] at hp0
  simp [results, h, hp0, h0_0, h0_1, h0_2, h0_3, h0_4, go_sem]
theorem rn_ret_c37_t {fn : Func} {p0 p1 : Tmp} (h : fn.results = #[.cell p0 37, .tmp p1]) {tmps : Array Value} {w : World} {S0 : Nat} {v0_0 v0_1 v0_2 v0_3 v0_4 : Value} {v1 : Value} {R : Ending → World → Prop} (hp0 : tmps.getD p0 undef = .pointer (some ⟨S0, 0, none⟩)) (h0_0 : w.cell? ⟨S0, 0, none⟩ = some v0_0) (h0_1 : w.cell? ⟨S0, 1, none⟩ = some v0_1) (h0_2 : w.cell? ⟨S0, 2, none⟩ = some v0_2) (h0_3 : w.cell? ⟨S0, 3, none⟩ = some v0_3) (h0_4 : w.cell? ⟨S0, 4, none⟩ = some v0_4) (hp1 : tmps.getD p1 undef = v1) (hR : R (.returned (.tuple #[.agg #[v0_0, v0_1, v0_2, v0_3, v0_4], v1])) w) : bodyPost Tryd.prog fn R .ret { tmps := tmps, defers := [] } w := by
  refine bodyPost_ret (v := .tuple #[.agg #[v0_0, v0_1, v0_2, v0_3, v0_4], v1]) ?_ rfl hR
  rw [Array.getD_eq_getD_getElem?] at hp0 hp1
  simp [results, h, hp0, h0_0, h0_1, h0_2, h0_3, h0_4, hp1, go_sem]
theorem rn_ret_c37_t_t {fn : Func} {p0 p1 p2 : Tmp} (h : fn.results = #[.cell p0 37, .tmp p1, .tmp p2]) {tmps : Array Value} {w : World} {S0 : Nat} {v0_0 v0_1 v0_2 v0_3 v0_4 : Value} {v1 : Value} {v2 : Value} {R : Ending → World → Prop} (hp0 : tmps.getD p0 undef = .pointer (some ⟨S0, 0, none⟩)) (h0_0 : w.cell? ⟨S0, 0, none⟩ = some v0_0) (h0_1 : w.cell? ⟨S0, 1, none⟩ = some v0_1) (h0_2 : w.cell? ⟨S0, 2, none⟩ = some v0_2) (h0_3 : w.cell? ⟨S0, 3, none⟩ = some v0_3) (h0_4 : w.cell? ⟨S0, 4, none⟩ = some v0_4) (hp1 : tmps.getD p1 undef = v1) (hp2 : tmps.getD p2 undef = v2) (hR : R (.returned (.tuple #[.agg #[v0_0, v0_1, v0_2, v0_3, v0_4], v1, v2])) w) : bodyPost Tryd.prog fn R .ret { tmps := tmps, defers := [] } w := by
  refine bodyPost_ret (v := .tuple #[.agg #[v0_0, v0_1, v0_2, v0_3, v0_4], v1, v2]) ?_ rfl hR
  rw [Array.getD_eq_getD_getElem?] at hp0 hp1 hp2
  simp [results, h, hp0, h0_0, h0_1, h0_2, h0_3, h0_4, hp1, hp2, go_sem]
end
def shownOf : List It → Int
  | [] => -1
  | x :: _ => x.1
/-- The reference's meter as a value. -/
abbrev rmv (p : Option Addr) (n c at' : Nat) (left : Int) (dark : Bool) (count : Nat) : Value := .agg #[.slice p n c, .int .i64 (at' : Int), .int .i64 left, .bool dark, .int .i64 (count : Int)]
theorem ret_val {a b : Value} (h : a = b) : Ending.returned a = .returned b := by rw [h]
set_option maxHeartbeats 2000000 in
theorem rload_any (p : Option Addr) (n c k count : Nat) (left : Int) (dark : Bool) (xs : List It) (w : World) (h : Rw 2 itc w p c xs) (hn : xs.length = n) (hk : k ≤ n) :
    Calls Tryd.prog 42 #[rmv p n c k left dark count] w fun e w' => e = .returned (rmv p n c k (shownOf (xs.drop k)) false count) ∧ Grew w w' := by
  subst hn
  by_cases hlt : k < xs.length
  · obtain ⟨b, o, rfl, hcc⟩ := h.rd.cells (by omega)
    have d0 := h.cell (List.getElem?_eq_getElem hlt) (j := 0) rfl
    have HS := Lib.hid (show shownOf (xs.drop k) = xs[k].1 by rw [List.drop_eq_getElem_cons hlt]; rfl)
    generalize xs[k] = x at d0 HS
    rw [Nat.add_zero] at d0
    have hbl := World.block_lt_of_cell? _ _ d0
    have hmax := h.max
    have hcap := h.cap
    clear h hcc
    go_enter Tryd.func42, Tryd.ntmps42
    go_wp2
    refine rn_ret_c37 Tryd.results42 (S0 := w.heap.size + 1) (v0_0 := .slice (some ⟨b, o, none⟩) xs.length c) (v0_1 := .int .i64 k) (v0_2 := .int .i64 x.1) (v0_3 := .bool false) (v0_4 := .int .i64 count) rfl (by go_simp) (by go_simp) (by go_simp) (by go_simp) (by go_simp) ⟨ret_val (by rw [HS.out]), ?_⟩
    repeat (first | with_reducible exact Grew.refl _ | with_reducible refine Grew.alloc ?_ _ | with_reducible refine Grew.drw ?_ | with_reducible refine Grew.sc ?_ (by first | omega | (simp <;> omega)) _ _)
  · obtain rfl : k = xs.length := by omega
    have HS := Lib.hid (show shownOf (xs.drop xs.length) = -1 by rw [List.drop_length]; rfl)
    have hmax := h.max
    have hcap := h.cap
    clear h
    go_enter Tryd.func42, Tryd.ntmps42
    go_wp2
    refine rn_ret_c37 Tryd.results42 (S0 := w.heap.size + 1) (v0_0 := .slice p xs.length c) (v0_1 := .int .i64 xs.length) (v0_2 := .int .i64 (-1)) (v0_3 := .bool false) (v0_4 := .int .i64 count) rfl (by go_simp) (by go_simp) (by go_simp) (by go_simp) (by go_simp) ⟨ret_val (by rw [HS.out]), ?_⟩
    repeat (first | with_reducible exact Grew.refl _ | with_reducible refine Grew.alloc ?_ _ | with_reducible refine Grew.drw ?_ | with_reducible refine Grew.sc ?_ (by first | omega | (simp <;> omega)) _ _)
set_option maxHeartbeats 1000000 in
theorem rstart_any (p : Option Addr) (n c : Nat) (xs : List It) (w : World) (h : Rw 2 itc w p c xs) (hn : xs.length = n) :
    Calls Tryd.prog 21 #[.slice p n c] w fun e w' => e = .returned (rmv p n c 0 (shownOf xs) false 0) ∧ Grew w w' := by
  have HL : Hid (∀ W, Grew w W → Calls Tryd.prog 42 #[.agg #[.slice p n c, .int .i64 0, .int .i64 0, .bool false, .int .i64 0]] W fun e w' => e = .returned (.agg #[.slice p n c, .int .i64 0, .int .i64 (shownOf xs), .bool false, .int .i64 0]) ∧ Grew W w') := Lib.hid (fun (W : World) (hg : Grew w W) => rload_any p n c 0 0 0 false xs W (h.kept hg) hn (Nat.zero_le _))
  clear h hn
  go_enter Tryd.func21, Tryd.ntmps21
  go_wp2_with (go_at_call 42; generalize hW : World.alloc _ _ = V; have hB : Blk w.heap.size [.slice none 0 0, .int .i64 0, .int .i64 0, .bool false, .int .i64 0] 37 V := (by subst hW; exact Blk.new w _ _); have hg : Grew w V := (by subst hW; exact (Grew.refl _).alloc _); clear hW; (with_reducible refine (HL.out _ hg).mono ?_); rintro e w1 ⟨rfl, g1⟩; have HB := Lib.hid (hB.grew g1); have HG := Lib.hid (hg.trans g1); have b0 := HB.out.cell 0; have b1 := HB.out.cell 1; have b2 := HB.out.cell 2; have b3 := HB.out.cell 3; have b4 := HB.out.cell 4; have bf := HB.out.free; have bl := HB.out.lt; simp only [List.getElem?_cons_zero, List.getElem?_cons_succ] at b0 b1 b2 b3 b4; clear hg g1 hB)
  refine rn_ret_c37 Tryd.results21 (S0 := w.heap.size) (v0_0 := .slice p n c) (v0_1 := .int .i64 0) (v0_2 := .int .i64 (shownOf xs)) (v0_3 := .bool false) (v0_4 := .int .i64 0) rfl (by go_simp) (by go_simp) (by go_simp) (by go_simp) (by go_simp) ⟨rfl, ?_⟩
  have hg := HG.out
  repeat (first | with_reducible exact hg | with_reducible refine Grew.alloc ?_ _ | with_reducible refine Grew.drw ?_ | with_reducible refine Grew.sc ?_ (by first | omega | (simp <;> omega)) _ _)
/-- The reference's meter shows what the plain one holds. -/
structure RRel (xs : List It) (k : Nat) (m : Mt) : Prop where
  at' : xs.drop k = m.rest
  le : k ≤ xs.length
theorem Mt.shown_dark {m : Mt} (h : m.dark = true) (h2 : m.dark = true → m.rest ≠ []) : m.shown = m.left := by
  unfold Mt.shown
  cases hr : m.rest with
  | nil => exact absurd hr (h2 h)
  | cons x r => rfl
set_option maxHeartbeats 4000000 in
theorem rspend_any (p : Option Addr) (n c k : Nat) (m : Mt) (z : Int) (w : World) (hg : m.good) (hz : -9223372036854775808 ≤ z ∧ z ≤ 9223372036854775807) (hc : m.count ≤ 1000000) :
    Calls Tryd.prog 22 #[rmv p n c k m.shown m.dark m.count, .int .i64 z] w fun e w' => e = .returned (.tuple #[rmv p n c k (m.spend z).shown (m.spend z).dark (m.spend z).count, .bool (m.spent z)]) ∧ Grew w w' := by
  obtain ⟨rest, left, dark, count⟩ := m
  obtain ⟨-, -, hg3⟩ := hg
  simp only at hc
  cases dark with
  | true =>
    have HS : Hid ((⟨rest, left, true, count⟩ : Mt).spend z = ⟨rest, left, true, count⟩ ∧ (⟨rest, left, true, count⟩ : Mt).spent z = false) := Lib.hid ⟨rfl, rfl⟩
    generalize hsh : (⟨rest, left, true, count⟩ : Mt).shown = sh
    have HSH := Lib.hid hsh
    clear hsh hg3
    by_cases hz0 : z < 0
    all_goals
      go_enter Tryd.func22, Tryd.ntmps22
      go_wp2
      refine rn_ret_c37_t Tryd.results22 (S0 := w.heap.size + 1) (v0_0 := .slice p n c) (v0_1 := .int .i64 k) (v0_2 := .int .i64 sh) (v0_3 := .bool true) (v0_4 := .int .i64 count) (v1 := .bool false) rfl (by go_simp) (by go_simp) (by go_simp) (by go_simp) (by go_simp) rfl ⟨ret_val (by rw [HS.out.1, HS.out.2, HSH.out]), ?_⟩
      repeat (first | with_reducible exact Grew.refl _ | with_reducible refine Grew.alloc ?_ _ | with_reducible refine Grew.drw ?_ | with_reducible refine Grew.sc ?_ (by first | omega | (simp <;> omega)) _ _)
  | false =>
    cases rest with
    | nil =>
      have HS : Hid ((⟨[], left, false, count⟩ : Mt).spend z = ⟨[], left, false, count⟩ ∧ (⟨[], left, false, count⟩ : Mt).spent z = true) := Lib.hid ⟨rfl, rfl⟩
      rw [show (⟨[], left, false, count⟩ : Mt).shown = -1 from rfl]
      clear hg3
      by_cases hz0 : z < 0
      all_goals
        go_enter Tryd.func22, Tryd.ntmps22
        go_wp2
        refine rn_ret_c37_t Tryd.results22 (S0 := w.heap.size + 1) (v0_0 := .slice p n c) (v0_1 := .int .i64 k) (v0_2 := .int .i64 (-1)) (v0_3 := .bool false) (v0_4 := .int .i64 count) (v1 := .bool true) rfl (by go_simp) (by go_simp) (by go_simp) (by go_simp) (by go_simp) rfl ⟨ret_val (by rw [HS.out.1, HS.out.2]; first | done | rfl), ?_⟩
        repeat (first | with_reducible exact Grew.refl _ | with_reducible refine Grew.alloc ?_ _ | with_reducible refine Grew.drw ?_ | with_reducible refine Grew.sc ?_ (by first | omega | (simp <;> omega)) _ _)
    | cons x r =>
      obtain ⟨l0, l1⟩ := hg3 (by simp)
      simp only at l0 l1
      rw [show (⟨x :: r, left, false, count⟩ : Mt).shown = left from rfl]
      have hl1 : (left == -1) = false := by rw [beq_eq_false_iff_ne]; omega
      by_cases hlt : left < max z 0
      · have HS : Hid ((⟨x :: r, left, false, count⟩ : Mt).spend z = ⟨x :: r, 0, true, count + 1⟩ ∧ (⟨x :: r, left, false, count⟩ : Mt).spent z = false) := Lib.hid ⟨by simp [Mt.spend, hlt], by simp [Mt.spent, hlt]⟩
        have hz0 : ¬ z < 0 := by omega
        have hzl : ¬ z ≤ left := by omega
        clear hlt hg3
        go_enter Tryd.func22, Tryd.ntmps22
        go_wp2
        refine rn_ret_c37_t Tryd.results22 (S0 := w.heap.size + 1) (v0_0 := .slice p n c) (v0_1 := .int .i64 k) (v0_2 := .int .i64 0) (v0_3 := .bool true) (v0_4 := .int .i64 (count + 1)) (v1 := .bool false) rfl (by go_simp) (by go_simp) (by go_simp) (by go_simp) (by go_simp) rfl ⟨ret_val (by rw [HS.out.1, HS.out.2]; first | done | rfl), ?_⟩
        repeat (first | with_reducible exact Grew.refl _ | with_reducible refine Grew.alloc ?_ _ | with_reducible refine Grew.drw ?_ | with_reducible refine Grew.sc ?_ (by first | omega | (simp <;> omega)) _ _)
      · have HS : Hid ((⟨x :: r, left, false, count⟩ : Mt).spend z = ⟨x :: r, left - max z 0, false, count⟩ ∧ (⟨x :: r, left, false, count⟩ : Mt).spent z = true) := Lib.hid ⟨by simp [Mt.spend, hlt], by simp [Mt.spent, hlt]⟩
        by_cases hz0 : z < 0
        · have hzm : max z 0 = 0 := by omega
          rw [hzm] at HS
          clear hlt hg3
          go_enter Tryd.func22, Tryd.ntmps22
          go_wp2
          refine rn_ret_c37_t Tryd.results22 (S0 := w.heap.size + 1) (v0_0 := .slice p n c) (v0_1 := .int .i64 k) (v0_2 := .int .i64 left) (v0_3 := .bool false) (v0_4 := .int .i64 count) (v1 := .bool true) rfl (by go_simp) (by go_simp) (by go_simp) (by go_simp) (by go_simp) rfl ⟨ret_val (by rw [HS.out.1, HS.out.2]; simp [Mt.shown]), ?_⟩
          repeat (first | with_reducible exact Grew.refl _ | with_reducible refine Grew.alloc ?_ _ | with_reducible refine Grew.drw ?_ | with_reducible refine Grew.sc ?_ (by first | omega | (simp <;> omega)) _ _)
        · have hzm : max z 0 = z := by omega
          rw [hzm] at HS
          have hzl : z ≤ left := by omega
          clear hlt hg3
          go_enter Tryd.func22, Tryd.ntmps22
          go_wp2
          refine rn_ret_c37_t Tryd.results22 (S0 := w.heap.size + 1) (v0_0 := .slice p n c) (v0_1 := .int .i64 k) (v0_2 := .int .i64 (left - z)) (v0_3 := .bool false) (v0_4 := .int .i64 count) (v1 := .bool true) rfl (by go_simp) (by go_simp) (by go_simp) (by go_simp) (by go_simp) rfl ⟨ret_val (by rw [HS.out.1, HS.out.2]; first | done | rfl), ?_⟩
          repeat (first | with_reducible exact Grew.refl _ | with_reducible refine Grew.alloc ?_ _ | with_reducible refine Grew.drw ?_ | with_reducible refine Grew.sc ?_ (by first | omega | (simp <;> omega)) _ _)
set_option maxHeartbeats 4000000 in
theorem rnext_any (p : Option Addr) (n c k : Nat) (m : Mt) (xs : List It) (w : World) (h : Rw 2 itc w p c xs) (hn : xs.length = n) (hk : xs.drop k = m.rest) (hkn : k ≤ n) (hl : n ≤ 100000) (hg : m.good) :
    Calls Tryd.prog 24 #[rmv p n c k m.shown m.dark m.count] w fun e w' => e = .returned (.tuple #[rmv p n c (if m.dark = true then k + 1 else k) m.next.shown m.next.dark m.next.count, .int .i64 m.off, .bool m.dark]) ∧ Grew w w' := by
  obtain ⟨rest, left, dark, count⟩ := m
  obtain ⟨-, hg2, -⟩ := hg
  cases dark with
  | false =>
    have HS : Hid ((⟨rest, left, false, count⟩ : Mt).next = ⟨rest, left, false, count⟩ ∧ (⟨rest, left, false, count⟩ : Mt).off = 0) := Lib.hid ⟨rfl, rfl⟩
    generalize hsh : (⟨rest, left, false, count⟩ : Mt).shown = sh
    have HSH := Lib.hid hsh
    clear hsh hg2 hk h hn
    go_enter Tryd.func24, Tryd.ntmps24
    go_wp2
    refine rn_ret_c37_t_t Tryd.results24 (S0 := w.heap.size + 1) (v0_0 := .slice p n c) (v0_1 := .int .i64 k) (v0_2 := .int .i64 sh) (v0_3 := .bool false) (v0_4 := .int .i64 count) (v1 := .int .i64 0) (v2 := .bool false) rfl (by go_simp) (by go_simp) (by go_simp) (by go_simp) (by go_simp) rfl rfl ⟨ret_val (by rw [HS.out.1, HS.out.2, HSH.out]; first | done | rfl), ?_⟩
    repeat (first | with_reducible exact Grew.refl _ | with_reducible refine Grew.alloc ?_ _ | with_reducible refine Grew.drw ?_ | with_reducible refine Grew.sc ?_ (by first | omega | (simp <;> omega)) _ _)
  | true =>
    cases rest with
    | nil => exact absurd rfl (hg2 rfl)
    | cons x r =>
      subst hn
      simp only at hk
      have hlt : k < xs.length := by
        rcases Nat.lt_or_ge k xs.length with hh | hh
        · exact hh
        · rw [List.drop_eq_nil_of_le hh] at hk
          cases hk
      have hxk : xs[k] = x ∧ xs.drop (k + 1) = r := by
        rw [List.drop_eq_getElem_cons hlt] at hk
        exact ⟨(List.cons.inj hk).1, (List.cons.inj hk).2⟩
      obtain ⟨b, o, rfl, hcc⟩ := h.rd.cells (by omega)
      have d1 := h.cell (List.getElem?_eq_getElem hlt) (j := 1) rfl
      rw [hxk.1] at d1
      have hbl := World.block_lt_of_cell? _ _ d1
      have hmax := h.max
      have hcap := h.cap
      have hsr : shownOf (xs.drop (k + 1)) = (⟨r, leftOf r left, false, count⟩ : Mt).shown := by
        rw [hxk.2]
        cases r <;> rfl
      have HS : Hid ((⟨x :: r, left, true, count⟩ : Mt).next = ⟨r, leftOf r left, false, count⟩ ∧ (⟨x :: r, left, true, count⟩ : Mt).off = x.2) := Lib.hid ⟨rfl, rfl⟩
      have HL := Lib.hid (fun (W : World) (hgW : Grew w W) => rload_any (some ⟨b, o, none⟩) xs.length c (k + 1) count left true xs W (h.kept hgW) rfl hlt)
      rw [hsr] at HL
      have HL2 : Hid (∀ (W : World), Grew w W → Calls Tryd.prog 42 #[.agg #[.slice (some ⟨b, o, none⟩) xs.length c, .int .i64 ((k : Int) + 1), .int .i64 left, .bool true, .int .i64 (count : Int)]] W fun e w' => e = .returned (rmv (some ⟨b, o, none⟩) xs.length c (k + 1) (⟨r, leftOf r left, false, count⟩ : Mt).shown false count) ∧ Grew W w') := Lib.hid (by
        have hh := HL.out
        unfold rmv at hh
        rw [show ((k + 1 : Nat) : Int) = (k : Int) + 1 by omega] at hh
        exact hh)
      rw [show (⟨x :: r, left, true, count⟩ : Mt).shown = left from rfl]
      clear hsr hxk hk hcc h HL hg2
      go_enter Tryd.func24, Tryd.ntmps24
      go_wp2_with (go_at_call 42; generalize hW : World.alloc _ _ = V; have hB : Blk (w.heap.size + 1) [.slice none 0 0, .int .i64 0, .int .i64 0, .bool false, .int .i64 0] 37 V := (by subst hW; have hh := Blk.new (w.alloc (.cells #[.slice (some ⟨b, o, none⟩) xs.length c, .int .i64 ((k : Int) + 1), .int .i64 left, .bool true, .int .i64 (count : Int)] 37)) [.slice none 0 0, .int .i64 0, .int .i64 0, .bool false, .int .i64 0] 37; simpa using hh); have hg : Grew w V := (by subst hW; repeat (first | with_reducible exact Grew.refl _ | with_reducible refine Grew.alloc ?_ _ | with_reducible refine Grew.drw ?_ | with_reducible refine Grew.sc ?_ (by first | omega | (simp <;> omega)) _ _)); clear hW; (with_reducible refine (HL2.out _ hg).mono ?_); rintro e w1 ⟨rfl, g1⟩; have HB := Lib.hid (hB.grew g1); have HG := Lib.hid (hg.trans g1); have b0 := HB.out.cell 0; have b1 := HB.out.cell 1; have b2 := HB.out.cell 2; have b3 := HB.out.cell 3; have b4 := HB.out.cell 4; have bf := HB.out.free; have bl := HB.out.lt; simp only [List.getElem?_cons_zero, List.getElem?_cons_succ] at b0 b1 b2 b3 b4; clear hg g1 hB)
      refine rn_ret_c37_t_t Tryd.results24 (S0 := w.heap.size + 1) (v0_0 := .slice (some ⟨b, o, none⟩) xs.length c) (v0_1 := .int .i64 ((k + 1 : Nat) : Int)) (v0_2 := .int .i64 (⟨r, leftOf r left, false, count⟩ : Mt).shown) (v0_3 := .bool false) (v0_4 := .int .i64 count) (v1 := .int .i64 x.2) (v2 := .bool true) rfl (by go_simp) (by go_simp) (by go_simp) (by go_simp) (by go_simp) rfl rfl ⟨ret_val (by rw [HS.out.1, HS.out.2]; first | done | rfl), ?_⟩
      have hg := HG.out
      repeat (first | with_reducible exact hg | with_reducible refine Grew.alloc ?_ _ | with_reducible refine Grew.drw ?_ | with_reducible refine Grew.sc ?_ (by first | omega | (simp <;> omega)) _ _)
end Go.Proofs.YtapgpdgbdmnkgaaDoor
