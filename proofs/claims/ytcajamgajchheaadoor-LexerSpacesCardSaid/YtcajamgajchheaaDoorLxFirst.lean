/-
  LAYER 15 (lexer): word, number (the program's).
-/
import Derived.Test.YtcajamgajchheaaDoorLxPlain2
import Derived.Test.YtcajamgajchheaaDoorLxWord
namespace Go.Proofs.YtcajamgajchheaaDoor
open Go Go.RowKit Go.IntWalk
open Go.Lib (itoa decDigits)
set_option linter.unusedSimpArgs false
set_option linter.unusedVariables false
set_option maxRecDepth 8000

theorem parseM_dig : ∀ (t : List UInt8) (acc : Nat), acc ≤ 65535 → (∀ c ∈ t, 48 ≤ c.toNat ∧ c.toNat ≤ 57) → (dval acc t ≤ 65535 ∧ Lib.parseUintM 65535 acc t = .ok (dval acc t)) ∨ (65535 < dval acc t ∧ Lib.parseUintM 65535 acc t = .range)
  | [], acc, ha, _ => .inl ⟨ha, rfl⟩
  | c :: r, acc, ha, hd => by
    have hc := hd c (List.mem_cons_self ..)
    rw [Lib.parseUintM, if_pos hc, if_neg (by omega)]
    have hge := dval_ge (10 * acc + (c.toNat - 48)) r
    by_cases h : 65535 < acc * 10 + (c.toNat - 48)
    · rw [if_pos h]
      refine .inr ⟨?_, rfl⟩
      show 65535 < dval (10 * acc + (c.toNat - 48)) r
      omega
    · rw [if_neg h, Nat.mul_comm acc 10]
      exact parseM_dig r _ (by omega) (fun x hx => hd x (List.mem_cons_of_mem _ hx))
theorem parse_dig {t : List UInt8} (hn : t ≠ []) (hd : ∀ c ∈ t, 48 ≤ c.toNat ∧ c.toNat ≤ 57) : (dval 0 t ≤ 32767 ∧ Lib.parseIntB 16 t = .ok (dval 0 t : Nat)) ∨ (32767 < dval 0 t ∧ Lib.parseIntB 16 t = .range) := by
  cases t with
  | nil => exact absurd rfl hn
  | cons c r =>
    have hc := hd c (List.mem_cons_self ..)
    rw [Lib.parseIntB, if_neg (by omega)]
    have hu : Lib.parseUintB 16 (c :: r) = Lib.parseUintM 65535 0 (c :: r) := by rw [Lib.parseUintB, if_neg hn]
    rw [hu]
    rcases parseM_dig (c :: r) 0 (by omega) hd with ⟨h1, h2⟩ | ⟨h1, h2⟩
    · rw [h2]
      by_cases h : 32767 < dval 0 (c :: r)
      · refine .inr ⟨h, ?_⟩
        have h5 : ¬ c.toNat = 45 ∧ 2 ^ (16 - 1) ≤ dval 0 (c :: r) := ⟨by omega, by show 32768 ≤ _; omega⟩
        simp only
        rw [if_pos h5]
      · refine .inl ⟨by omega, ?_⟩
        have h5 : ¬ (¬ c.toNat = 45 ∧ 2 ^ (16 - 1) ≤ dval 0 (c :: r)) := fun h6 => by have h7 : 32768 ≤ dval 0 (c :: r) := h6.2; omega
        have h6 : ¬ (c.toNat = 45 ∧ 2 ^ (16 - 1) < dval 0 (c :: r)) := fun h6 => by omega
        simp only
        rw [if_neg h5, if_neg h6, if_neg (by omega)]
    · rw [h2]
      exact .inr ⟨by omega, rfl⟩
/-- A result of four cells. -/
theorem ret_tk {fn : Func} {p0 : Tmp} {tmps : Array Value} {w : World} {S0 : Nat} {v0 v1 v2 v3 : Value} {R : Ending → World → Prop} (h : fn.results = #[.cell p0 41] ∨ fn.results = #[.cell p0 38]) (hp0 : tmps.getD p0 undef = .pointer (some ⟨S0, 0, none⟩)) (h0 : w.cell? ⟨S0, 0, none⟩ = some v0) (h1 : w.cell? ⟨S0, 1, none⟩ = some v1) (h2 : w.cell? ⟨S0, 2, none⟩ = some v2) (h3 : w.cell? ⟨S0, 3, none⟩ = some v3) (hR : R (.returned (.agg #[v0, v1, v2, v3])) w) : bodyPost Tryd.prog fn R .ret { tmps := tmps, defers := [] } w := by
  refine bodyPost_ret (v := .agg #[v0, v1, v2, v3]) ?_ rfl hR
  rw [Array.getD_eq_getD_getElem?] at hp0
  rcases h with h | h
  · simp [results, h, hp0, h0, h1, h2, h3, go_sem]
  · simp [results, h, hp0, h0, h1, h2, h3, go_sem]
theorem ret_val {a b : Value} (h : a = b) : Ending.returned a = .returned b := by rw [h]
theorem tk4 (w : World) (k v p : Int) (t : ByteArray) {S : Nat} {e : TypeId} (h : Blk S [.int .i64 k, .string t, .int .i16 v, .int .i64 p] e w) :
    w.cell? ⟨S, 0, none⟩ = some (.int .i64 k) ∧ w.cell? ⟨S, 1, none⟩ = some (.string t) ∧ w.cell? ⟨S, 2, none⟩ = some (.int .i16 v) ∧ w.cell? ⟨S, 3, none⟩ = some (.int .i64 p) ∧
    w.frozen? ⟨S, 0, none⟩ = false ∧ w.frozen? ⟨S, 1, none⟩ = false ∧ w.frozen? ⟨S, 2, none⟩ = false ∧ w.frozen? ⟨S, 3, none⟩ = false :=
  ⟨h.cell 0, h.cell 1, h.cell 2, h.cell 3, h.free 0, h.free 1, h.free 2, h.free 3⟩
set_option maxHeartbeats 4000000 in
theorem wordP_any (s : ByteArray) (hs : s.size ≤ 100000) (w : World) (hE : Env w) : Calls Tryd.prog 41 #[.string s] w fun e w' => e = .returned (.agg #[.int .i64 (if kwl.contains s.data.toList = true then 3 else if s.size ≤ 32 then 1 else 5), .string s, .int .i16 0, .int .i64 0]) ∧ Grew w w' := by
  have HE := Lib.hid hE
  have HC := Lib.hid (fun W (h : Env W) => iskw_any s W h)
  obtain ⟨z, hz⟩ : ∃ z : Int, (if kwl.contains s.data.toList = true then 3 else if s.size ≤ 32 then 1 else 5) = z := ⟨_, rfl⟩
  rw [hz]
  cases hk : kwl.contains s.data.toList with
  | true =>
    rw [hk, if_pos rfl] at hz
    rw [hk] at HC
    subst hz
    clear hE hk
    go_enter Tryd.func41, Tryd.ntmps41
    go_wp2_with (go_at_call 57; refine (HC.out _ (HE.out.grew (by repeat (first | with_reducible exact Grew.refl _ | with_reducible refine Grew.sc ?_ (by first | omega | (simp <;> omega)) _ _ | with_reducible refine Grew.alloc ?_ _)))).mono ?_; rintro e w1 ⟨rfl, rfl⟩)
    refine ret_tk (S0 := w.heap.size) (v0 := .int .i64 3) (v1 := .string s) (v2 := .int .i16 0) (v3 := .int .i64 0) (.inl Tryd.results41) rfl (by go_simp) (by go_simp) (by go_simp) (by go_simp) ⟨rfl, ?_⟩
    repeat (first | with_reducible exact Grew.refl _ | with_reducible refine Grew.sc ?_ (by first | omega | (simp <;> omega)) _ _ | with_reducible refine Grew.alloc ?_ _)
  | false =>
    rw [hk, if_neg (by simp)] at hz
    rw [hk] at HC
    clear hE hk
    by_cases hl : s.size ≤ 32
    · rw [if_pos hl] at hz
      subst hz
      go_enter Tryd.func41, Tryd.ntmps41
      go_wp2_with (go_at_call 57; refine (HC.out _ (HE.out.grew (by repeat (first | with_reducible exact Grew.refl _ | with_reducible refine Grew.sc ?_ (by first | omega | (simp <;> omega)) _ _ | with_reducible refine Grew.alloc ?_ _)))).mono ?_; rintro e w1 ⟨rfl, rfl⟩)
      all_goals first | (exfalso; omega) | skip
      refine ret_tk (S0 := w.heap.size) (v0 := .int .i64 1) (v1 := .string s) (v2 := .int .i16 0) (v3 := .int .i64 0) (.inl Tryd.results41) rfl (by go_simp) (by go_simp) (by go_simp) (by go_simp) ⟨rfl, ?_⟩
      repeat (first | with_reducible exact Grew.refl _ | with_reducible refine Grew.sc ?_ (by first | omega | (simp <;> omega)) _ _ | with_reducible refine Grew.alloc ?_ _)
    · rw [if_neg hl] at hz
      subst hz
      go_enter Tryd.func41, Tryd.ntmps41
      go_wp2_with (go_at_call 57; refine (HC.out _ (HE.out.grew (by repeat (first | with_reducible exact Grew.refl _ | with_reducible refine Grew.sc ?_ (by first | omega | (simp <;> omega)) _ _ | with_reducible refine Grew.alloc ?_ _)))).mono ?_; rintro e w1 ⟨rfl, rfl⟩)
      all_goals first | (exfalso; omega) | skip
      refine ret_tk (S0 := w.heap.size) (v0 := .int .i64 5) (v1 := .string s) (v2 := .int .i16 0) (v3 := .int .i64 0) (.inl Tryd.results41) rfl (by go_simp) (by go_simp) (by go_simp) (by go_simp) ⟨rfl, ?_⟩
      repeat (first | with_reducible exact Grew.refl _ | with_reducible refine Grew.sc ?_ (by first | omega | (simp <;> omega)) _ _ | with_reducible refine Grew.alloc ?_ _)
end Go.Proofs.YtcajamgajchheaaDoor
