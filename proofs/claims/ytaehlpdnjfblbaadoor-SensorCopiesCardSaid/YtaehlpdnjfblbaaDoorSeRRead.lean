/-
  CONTRACTS OF LAYER 10's REFERENCE: number.
-/
import Derived.Test.YtaehlpdnjfblbaaDoorSeRText
import Derived.Deep.LoopGhost
import Derived.Deep.CutBlock
import Derived.Lib.Slices
namespace Go.Proofs.YtaehlpdnjfblbaaDoor
open Go Go.RowKit Go.IntWalk
open Go.Lib (itoa)
set_option linter.unusedSimpArgs false
set_option linter.unusedVariables false
set_option maxRecDepth 8000

/-- What number gives at the bytes l. -/
def Numb (l : List UInt8) (w : World) (e : Ending) (w' : World) : Prop := ∃ (v : Int) (ok : Bool), e = .returned (.tuple #[.int .i64 v, .bool ok]) ∧ (ok = true → l = itoa v) ∧ (ok = false → ∀ z : Int, -999999999999999 ≤ z ∧ z ≤ 999999999999999 → l ≠ itoa z) ∧ -999999999999999 ≤ v ∧ v ≤ 999999999999999 ∧ Grew w w'
theorem neg_body (s : ByteArray) (h0 : 0 < s.size) (hc : (s[0]'h0).toNat = 45) (t : ByteArray) (ht : t = s.extract 1 s.size) : s.data.toList = 45 :: t.data.toList := by
  subst ht
  obtain ⟨⟨l⟩⟩ := s
  cases l with
  | nil => exact absurd h0 (Nat.lt_irrefl 0)
  | cons c r =>
    have e3 : c = 45 := UInt8.toNat_inj.1 hc
    subst e3
    have e : (ByteArray.mk ⟨45 :: r⟩).extract 1 (ByteArray.mk ⟨45 :: r⟩).size = ⟨⟨r⟩⟩ := by
      apply ByteArray.ext
      rw [ByteArray.data_extract]
      have hs : (ByteArray.mk ⟨45 :: r⟩).size = r.length + 1 := rfl
      rw [hs]
      simp
    rw [e]
theorem pos_digits {l : List UInt8} {z : Int} (h : l = itoa z) (h0 : l.head? ≠ some 45) : ∃ u : Nat, z = u ∧ l = Lib.decDigits u := by
  by_cases hz : z < 0
  · obtain ⟨u, rfl⟩ : ∃ u : Nat, z = -(u : Int) := ⟨z.natAbs, by omega⟩
    rw [Lib.itoa_neg u (by omega)] at h
    rw [h] at h0
    exact absurd rfl h0
  · obtain ⟨u, rfl⟩ : ∃ u : Nat, z = u := ⟨z.toNat, by omega⟩
    rw [Lib.itoa_nonneg] at h
    exact ⟨u, rfl, h⟩
theorem neg_digits {d : List UInt8} {z : Int} (h : 45 :: d = itoa z) : ∃ u : Nat, z = -(u : Int) ∧ d = Lib.decDigits u := by
  by_cases hz : z < 0
  · obtain ⟨u, rfl⟩ : ∃ u : Nat, z = -(u : Int) := ⟨z.natAbs, by omega⟩
    rw [Lib.itoa_neg u (by omega)] at h
    injection h with _ h
    exact ⟨u, rfl, h⟩
  · obtain ⟨u, rfl⟩ : ∃ u : Nat, z = u := ⟨z.toNat, by omega⟩
    rw [Lib.itoa_nonneg] at h
    have := decDigits_digit u 45 (by rw [← h]; simp)
    exact absurd this.1 (by decide)
theorem beq_toList {l : List UInt8} {s : ByteArray} (h : (l == s.toList) = true) : s.data.toList = l := by
  rw [ByteArray.toList_eq] at h
  exact (eq_of_beq h).symm
theorem bne_toList {l : List UInt8} {s : ByteArray} (h : (l == s.toList) = false) : s.data.toList ≠ l := fun e => by
  rw [ByteArray.toList_eq, ← e] at h
  simp at h
/-- Digits without a sign. -/
theorem fin_pos {l : List UInt8} (h0 : l.head? ≠ some 45) :
    (15 < l.length → ∀ z : Int, -999999999999999 ≤ z ∧ z ≤ 999999999999999 → l ≠ itoa z) ∧ (∀ c, c ∈ l → ¬ (48 ≤ c.toNat ∧ c.toNat ≤ 57) → ∀ z : Int, -999999999999999 ≤ z ∧ z ≤ 999999999999999 → l ≠ itoa z) ∧ ∀ m : Nat, m = dval 0 l → ∀ z : Int, l = itoa z → z = m := by
  refine ⟨fun hl z hz e => ?_, fun c hc hd z _ e => ?_, fun m hm z e => ?_⟩
  · obtain ⟨u, rfl, e2⟩ := pos_digits e h0
    have := decDigits_pow u 14 (by omega)
    rw [← e2] at this
    omega
  · obtain ⟨u, rfl, e2⟩ := pos_digits e h0
    exact hd (decDigits_digit u c (by rw [← e2]; exact hc))
  · obtain ⟨u, rfl, e2⟩ := pos_digits e h0
    rw [hm, e2, dval_decDigits]
theorem fin_neg {d : List UInt8} :
    (15 < d.length → ∀ z : Int, -999999999999999 ≤ z ∧ z ≤ 999999999999999 → 45 :: d ≠ itoa z) ∧ (∀ c, c ∈ d → ¬ (48 ≤ c.toNat ∧ c.toNat ≤ 57) → ∀ z : Int, -999999999999999 ≤ z ∧ z ≤ 999999999999999 → 45 :: d ≠ itoa z) ∧ ∀ m : Nat, m = dval 0 d → ∀ z : Int, 45 :: d = itoa z → z = -(m : Int) := by
  refine ⟨fun hl z hz e => ?_, fun c hc hd z _ e => ?_, fun m hm z e => ?_⟩
  · obtain ⟨u, rfl, e2⟩ := neg_digits e
    have := decDigits_pow u 14 (by omega)
    rw [← e2] at this
    omega
  · obtain ⟨u, rfl, e2⟩ := neg_digits e
    exact hd (decDigits_digit u c (by rw [← e2]; exact hc))
  · obtain ⟨u, rfl, e2⟩ := neg_digits e
    rw [hm, e2, dval_decDigits]
set_option maxHeartbeats 2000000 in
theorem rnumber_pos (s : ByteArray) (hs : s.size ≤ 100000) (h0 : s.data.toList.head? ≠ some 45) (w : World) :
    Calls Tryd.prog 39 #[.string s] w (Numb s.data.toList w) := by
  obtain ⟨f1, f2, f3⟩ := fin_pos h0
  have HLONG : s.size > 15 → ∀ z : Int, -999999999999999 ≤ z ∧ z ≤ 999999999999999 → s.data.toList ≠ itoa z := fun h => f1 h
  have HBAD := f2
  have HFIN : ∀ m : Nat, m = dval 0 s.data.toList → (∀ c ∈ s.data.toList, 48 ≤ c.toNat ∧ c.toNat ≤ 57) → ((itoa (m : Int) == s.toList) = true → s.data.toList = itoa (m : Int)) ∧ ((itoa (m : Int) == s.toList) = false → ∀ z : Int, -999999999999999 ≤ z ∧ z ≤ 999999999999999 → s.data.toList ≠ itoa z) := fun m hm _ =>
    ⟨fun h => beq_toList h, fun h z _ e => bne_toList h (by rw [e, f3 m hm z e])⟩
  replace HLONG := Lib.hid HLONG
  replace HBAD := Lib.hid HBAD
  replace HFIN := Lib.hid HFIN
  clear f1 f2 f3
  by_cases hz : s.size = 0
  · have hnl : s.toList = [] := by rw [ByteArray.toList_eq]; exact List.eq_nil_of_length_eq_zero hz
    clear h0 hz
    go_enter Tryd.func39, Tryd.ntmps39
    go_wp2
    clear hnl
    go_loopg [4, 6] s.size (fun gg nv iv wr => ∃ (k m : Nat), nv = .int .i64 (m : Int) ∧ iv = .int .i64 (k : Int) ∧ k ≤ s.size ∧ gg = s.size - k ∧ m ≤ 999999999999999 ∧ (0 < k → s.size ≤ 15) ∧ Hid (m = dval 0 (s.data.toList.take k)) ∧ Hid (∀ c ∈ s.data.toList.take k, 48 ≤ c.toNat ∧ c.toNat ≤ 57) ∧ wr = w)
    case atStart => exact ⟨0, 0, rfl, rfl, Nat.zero_le _, rfl, by omega, by omega, Lib.hid rfl, Lib.hid (fun c hc => by simp at hc), rfl⟩
    case round =>
      obtain ⟨k, m, rfl, rfl, hk, rfl, hm, h15, HV, HD, rfl⟩ := hrel
      by_cases hlt : k < s.size
      · have HS := Lib.hid (show dval 0 (s.data.toList.take (k + 1)) = 10 * dval 0 (s.data.toList.take k) + (s[k].toNat - 48) by rw [take_snoc s k hlt, dval_snoc])
        have HM : Hid (s[k] ∈ s.data.toList) := List.getElem_mem (l := s.data.toList) (n := k) hlt
        have HT := Lib.hid (take_snoc s k hlt)
        by_cases g1 : 48 ≤ s[k].toNat ∧ s[k].toNat ≤ 57
        · obtain ⟨g1, g2⟩ := g1
          by_cases g3 : s.size ≤ 15
          · have G := Lib.hid (And.intro g1 g2)
            have HD2 : Hid (∀ c ∈ s.data.toList.take (k + 1), 48 ≤ c.toNat ∧ c.toNat ≤ 57) := Lib.hid (fun c hc => by
              rw [HT.out] at hc
              rcases List.mem_append.1 hc with hc | hc
              · exact HD.out c hc
              · rw [List.mem_singleton.1 hc]; exact G.out)
            have HB : Hid (10 * m + (s[k].toNat - 48) ≤ 999999999999999) := Lib.hid (by
              have := dval_le15 _ HD2.out (by rw [List.length_take]; exact Nat.le_trans (Nat.min_le_right _ _) g3)
              rw [HS.out, ← HV.out] at this
              exact this)
            have hbb := HB.out
            go_wp2
            all_goals first | (exfalso; omega) | skip
            go_roundg (s.size - (k + 1))
            case measure => omega
            case rel => exact ⟨k + 1, 10 * m + (s[k].toNat - 48), (by go_num), (by go_num), hlt, rfl, HB.out, fun _ => g3, Lib.hid (by rw [HS.out, HV.out]), HD2, rfl⟩
          · have HN := Lib.hid (HLONG (by omega))
            go_wp2
            all_goals first | (exfalso; omega) | skip
            all_goals refine bodyPost_ret (v := .tuple #[.int .i64 0, .bool false]) (by simp [results, Tryd.results39, go_sem]) rfl ?_
            all_goals exact ⟨0, false, rfl, (fun h => by cases h), fun _ => HN.out, by omega, by omega, Grew.refl _⟩
        · have HN := Lib.hid (HBAD _ HM.out g1)
          go_wp2
          all_goals first | (exfalso; omega) | skip
          all_goals refine bodyPost_ret (v := .tuple #[.int .i64 0, .bool false]) (by simp [results, Tryd.results39, go_sem]) rfl ?_
          all_goals exact ⟨0, false, rfl, (fun h => by cases h), fun _ => HN.out, by omega, by omega, Grew.refl _⟩
      · obtain rfl : k = s.size := by omega
        have hall : s.data.toList.take s.size = s.data.toList := List.take_of_length_le (Nat.le_refl _)
        rw [hall] at HV HD
        have HF := Lib.hid (HFIN m HV.out HD.out)
        clear hall
        have hc := rnum_any ((m : Int)) wr (by omega)
        have HC := Lib.hid hc
        clear hc
        go_wp2_with (go_at_call 32; (with_reducible refine (HC.out).mono ?_); rintro e w1 ⟨rfl, g1⟩; have HG := Lib.hid g1; clear g1)
        refine bodyPost_ret (v := .tuple #[.int .i64 ((m : Int)), .bool (itoa ((m : Int)) == s.toList)]) (by simp [results, Tryd.results39, go_sem]) rfl ?_
        exact ⟨_, _, rfl, HF.out.1, HF.out.2, by omega, by omega, HG.out⟩
  · have hpos : 0 < s.size := by omega
    have hnl : ¬ s.toList = [] := by
      rw [ByteArray.toList_eq]
      intro h
      have h1 : s.data.toList.length = 0 := by rw [h]; rfl
      have h2 : s.size = 0 := h1
      omega
    have hie : s.toList.isEmpty = false := by cases hh : s.toList with | nil => exact absurd hh hnl | cons _ _ => rfl
    have hne : (((s[0]'hpos).toNat : Int) == 45) = false := beq_eq_false_iff_ne.2 fun h => h0 (by
      obtain ⟨⟨l⟩⟩ := s
      cases l with
      | nil => exact absurd hpos (Nat.lt_irrefl 0)
      | cons c r =>
        have h' : ((c.toNat : Nat) : Int) = 45 := h
        have : c = 45 := UInt8.toNat_inj.1 (by have e : (45 : UInt8).toNat = 45 := rfl
                                               omega)
        rw [this]; rfl)
    clear h0 hz
    go_enter Tryd.func39, Tryd.ntmps39
    go_wp2
    clear hnl hie hne
    go_loopg [4, 6] s.size (fun gg nv iv wr => ∃ (k m : Nat), nv = .int .i64 (m : Int) ∧ iv = .int .i64 (k : Int) ∧ k ≤ s.size ∧ gg = s.size - k ∧ m ≤ 999999999999999 ∧ (0 < k → s.size ≤ 15) ∧ Hid (m = dval 0 (s.data.toList.take k)) ∧ Hid (∀ c ∈ s.data.toList.take k, 48 ≤ c.toNat ∧ c.toNat ≤ 57) ∧ wr = w)
    case atStart => exact ⟨0, 0, rfl, rfl, Nat.zero_le _, rfl, by omega, by omega, Lib.hid rfl, Lib.hid (fun c hc => by simp at hc), rfl⟩
    case round =>
      obtain ⟨k, m, rfl, rfl, hk, rfl, hm, h15, HV, HD, rfl⟩ := hrel
      by_cases hlt : k < s.size
      · have HS := Lib.hid (show dval 0 (s.data.toList.take (k + 1)) = 10 * dval 0 (s.data.toList.take k) + (s[k].toNat - 48) by rw [take_snoc s k hlt, dval_snoc])
        have HM : Hid (s[k] ∈ s.data.toList) := List.getElem_mem (l := s.data.toList) (n := k) hlt
        have HT := Lib.hid (take_snoc s k hlt)
        by_cases g1 : 48 ≤ s[k].toNat ∧ s[k].toNat ≤ 57
        · obtain ⟨g1, g2⟩ := g1
          by_cases g3 : s.size ≤ 15
          · have G := Lib.hid (And.intro g1 g2)
            have HD2 : Hid (∀ c ∈ s.data.toList.take (k + 1), 48 ≤ c.toNat ∧ c.toNat ≤ 57) := Lib.hid (fun c hc => by
              rw [HT.out] at hc
              rcases List.mem_append.1 hc with hc | hc
              · exact HD.out c hc
              · rw [List.mem_singleton.1 hc]; exact G.out)
            have HB : Hid (10 * m + (s[k].toNat - 48) ≤ 999999999999999) := Lib.hid (by
              have := dval_le15 _ HD2.out (by rw [List.length_take]; exact Nat.le_trans (Nat.min_le_right _ _) g3)
              rw [HS.out, ← HV.out] at this
              exact this)
            have hbb := HB.out
            go_wp2
            all_goals first | (exfalso; omega) | skip
            go_roundg (s.size - (k + 1))
            case measure => omega
            case rel => exact ⟨k + 1, 10 * m + (s[k].toNat - 48), (by go_num), (by go_num), hlt, rfl, HB.out, fun _ => g3, Lib.hid (by rw [HS.out, HV.out]), HD2, rfl⟩
          · have HN := Lib.hid (HLONG (by omega))
            go_wp2
            all_goals first | (exfalso; omega) | skip
            all_goals refine bodyPost_ret (v := .tuple #[.int .i64 0, .bool false]) (by simp [results, Tryd.results39, go_sem]) rfl ?_
            all_goals exact ⟨0, false, rfl, (fun h => by cases h), fun _ => HN.out, by omega, by omega, Grew.refl _⟩
        · have HN := Lib.hid (HBAD _ HM.out g1)
          go_wp2
          all_goals first | (exfalso; omega) | skip
          all_goals refine bodyPost_ret (v := .tuple #[.int .i64 0, .bool false]) (by simp [results, Tryd.results39, go_sem]) rfl ?_
          all_goals exact ⟨0, false, rfl, (fun h => by cases h), fun _ => HN.out, by omega, by omega, Grew.refl _⟩
      · obtain rfl : k = s.size := by omega
        have hall : s.data.toList.take s.size = s.data.toList := List.take_of_length_le (Nat.le_refl _)
        rw [hall] at HV HD
        have HF := Lib.hid (HFIN m HV.out HD.out)
        clear hall
        have hc := rnum_any ((m : Int)) wr (by omega)
        have HC := Lib.hid hc
        clear hc
        go_wp2_with (go_at_call 32; (with_reducible refine (HC.out).mono ?_); rintro e w1 ⟨rfl, g1⟩; have HG := Lib.hid g1; clear g1)
        refine bodyPost_ret (v := .tuple #[.int .i64 ((m : Int)), .bool (itoa ((m : Int)) == s.toList)]) (by simp [results, Tryd.results39, go_sem]) rfl ?_
        exact ⟨_, _, rfl, HF.out.1, HF.out.2, by omega, by omega, HG.out⟩
set_option maxHeartbeats 2000000 in
theorem rnumber_neg (s : ByteArray) (hs : s.size ≤ 100000) (h0 : s.data.toList.head? = some 45) (w : World) :
    Calls Tryd.prog 39 #[.string s] w (Numb s.data.toList w) := by
  have hnl0 : ¬ s.data.toList = [] := fun h => by rw [h] at h0; cases h0
  have hpos : 0 < s.size := by
    show 0 < s.data.toList.length
    exact List.length_pos_iff.2 hnl0
  have hnl : ¬ s.toList = [] := by rw [ByteArray.toList_eq]; exact hnl0
  have hie : s.toList.isEmpty = false := by cases hh : s.toList with | nil => exact absurd hh hnl | cons _ _ => rfl
  have h45 : (s[0]'hpos).toNat = 45 := by
    have h1 : s.data.toList[0]? = some 45 := by rw [← List.head?_eq_getElem?]; exact h0
    rw [List.getElem?_eq_getElem (by exact hpos)] at h1
    have h2 : s[0]'hpos = 45 := Option.some.inj h1
    rw [h2]; rfl
  have hsd := neg_body s hpos h45 _ rfl
  obtain ⟨d, hd⟩ : ∃ d, d = s.extract 1 s.size := ⟨_, rfl⟩
  rw [← hd] at hsd
  have hdl : d.size + 1 = s.size := by
    have : s.data.toList.length = (45 :: d.data.toList).length := by rw [hsd]
    exact this.symm
  have hds : ¬ d.toList = s.toList := fun e => by
    rw [ByteArray.toList_eq, ByteArray.toList_eq] at e
    have h1 : d.data.toList.length = s.data.toList.length := by rw [e]
    have h2 : d.size = s.size := h1
    omega
  have hds2 : (d.toList == s.toList) = false := beq_eq_false_iff_ne.2 hds
  have hne : (((s[0]'hpos).toNat : Int) == 45) = true := by rw [h45]; rfl
  obtain ⟨f1, f2, f3⟩ := fin_neg (d := d.data.toList)
  rw [← hsd] at f1 f2 f3
  have HLONG : d.size > 15 → ∀ z : Int, -999999999999999 ≤ z ∧ z ≤ 999999999999999 → s.data.toList ≠ itoa z := fun h => f1 h
  have HBAD := f2
  have HFIN : ∀ m : Nat, m = dval 0 d.data.toList → (∀ c ∈ d.data.toList, 48 ≤ c.toNat ∧ c.toNat ≤ 57) → ((itoa (-(m : Int)) == s.toList) = true → s.data.toList = itoa (-(m : Int))) ∧ ((itoa (-(m : Int)) == s.toList) = false → ∀ z : Int, -999999999999999 ≤ z ∧ z ≤ 999999999999999 → s.data.toList ≠ itoa z) := fun m hm _ =>
    ⟨fun h => beq_toList h, fun h z _ e => bne_toList h (by rw [e, f3 m hm z e])⟩
  replace HLONG := Lib.hid HLONG
  replace HBAD := Lib.hid HBAD
  replace HFIN := Lib.hid HFIN
  have HDS := Lib.hid (And.intro hds hds2)
  have hdl5 : d.size ≤ 100000 := by omega
  clear f1 f2 f3 h0 hsd hnl0 h45 hdl hds hds2
  go_enter Tryd.func39, Tryd.ntmps39
  go_wp2
  rw [← hd]
  clear hnl hie hne hd
  go_loopg [4, 6] d.size (fun gg nv iv wr => ∃ (k m : Nat), nv = .int .i64 (m : Int) ∧ iv = .int .i64 (k : Int) ∧ k ≤ d.size ∧ gg = d.size - k ∧ m ≤ 999999999999999 ∧ (0 < k → d.size ≤ 15) ∧ Hid (m = dval 0 (d.data.toList.take k)) ∧ Hid (∀ c ∈ d.data.toList.take k, 48 ≤ c.toNat ∧ c.toNat ≤ 57) ∧ wr = w)
  case atStart => exact ⟨0, 0, rfl, rfl, Nat.zero_le _, rfl, by omega, by omega, Lib.hid rfl, Lib.hid (fun c hc => by simp at hc), rfl⟩
  case round =>
    obtain ⟨k, m, rfl, rfl, hk, rfl, hm, h15, HV, HD, rfl⟩ := hrel
    by_cases hlt : k < d.size
    · have HS := Lib.hid (show dval 0 (d.data.toList.take (k + 1)) = 10 * dval 0 (d.data.toList.take k) + (d[k].toNat - 48) by rw [take_snoc d k hlt, dval_snoc])
      have HM : Hid (d[k] ∈ d.data.toList) := List.getElem_mem (l := d.data.toList) (n := k) hlt
      have HT := Lib.hid (take_snoc d k hlt)
      by_cases g1 : 48 ≤ d[k].toNat ∧ d[k].toNat ≤ 57
      · obtain ⟨g1, g2⟩ := g1
        by_cases g3 : d.size ≤ 15
        · have G := Lib.hid (And.intro g1 g2)
          have HD2 : Hid (∀ c ∈ d.data.toList.take (k + 1), 48 ≤ c.toNat ∧ c.toNat ≤ 57) := Lib.hid (fun c hc => by
            rw [HT.out] at hc
            rcases List.mem_append.1 hc with hc | hc
            · exact HD.out c hc
            · rw [List.mem_singleton.1 hc]; exact G.out)
          have HB : Hid (10 * m + (d[k].toNat - 48) ≤ 999999999999999) := Lib.hid (by
            have := dval_le15 _ HD2.out (by rw [List.length_take]; exact Nat.le_trans (Nat.min_le_right _ _) g3)
            rw [HS.out, ← HV.out] at this
            exact this)
          have hbb := HB.out
          go_wp2
          all_goals first | (exfalso; omega) | skip
          go_roundg (d.size - (k + 1))
          case measure => omega
          case rel => exact ⟨k + 1, 10 * m + (d[k].toNat - 48), (by go_num), (by go_num), hlt, rfl, HB.out, fun _ => g3, Lib.hid (by rw [HS.out, HV.out]), HD2, rfl⟩
        · have HN := Lib.hid (HLONG (by omega))
          go_wp2
          all_goals first | (exfalso; omega) | skip
          all_goals refine bodyPost_ret (v := .tuple #[.int .i64 0, .bool false]) (by simp [results, Tryd.results39, go_sem]) rfl ?_
          all_goals exact ⟨0, false, rfl, (fun h => by cases h), fun _ => HN.out, by omega, by omega, Grew.refl _⟩
      · have HN := Lib.hid (HBAD _ HM.out g1)
        go_wp2
        all_goals first | (exfalso; omega) | skip
        all_goals refine bodyPost_ret (v := .tuple #[.int .i64 0, .bool false]) (by simp [results, Tryd.results39, go_sem]) rfl ?_
        all_goals exact ⟨0, false, rfl, (fun h => by cases h), fun _ => HN.out, by omega, by omega, Grew.refl _⟩
    · obtain rfl : k = d.size := by omega
      have hall : d.data.toList.take d.size = d.data.toList := List.take_of_length_le (Nat.le_refl _)
      rw [hall] at HV HD
      have HF := Lib.hid (HFIN m HV.out HD.out)
      clear hall
      have hc := rnum_any (-(m : Int)) wr (by omega)
      have HC := Lib.hid hc
      clear hc
      obtain ⟨hds, hds2⟩ := HDS.out
      have hw : IntKind.i64.wrap (-(m : Int)) = -(m : Int) := i64_in _ (by omega)
      go_wp2_with (go_at_call 32; (with_reducible refine (HC.out).mono ?_); rintro e w1 ⟨rfl, g1⟩; have HG := Lib.hid g1; clear g1)
      refine bodyPost_ret (v := .tuple #[.int .i64 (-(m : Int)), .bool (itoa (-(m : Int)) == s.toList)]) (by simp [results, Tryd.results39, go_sem]) rfl ?_
      exact ⟨_, _, rfl, HF.out.1, HF.out.2, by omega, by omega, HG.out⟩
theorem rnumber_any (l : List UInt8) (hs : l.length ≤ 100000) (w : World) :
    Calls Tryd.prog 39 #[.string ⟨l.toArray⟩] w (Numb l w) := by
  by_cases h : l.head? = some 45
  · exact rnumber_neg ⟨l.toArray⟩ hs h w
  · exact rnumber_pos ⟨l.toArray⟩ hs h w
end Go.Proofs.YtaehlpdnjfblbaaDoor
