/-
  CONTRACTS OF LAYER 10's REFERENCE: line.
-/
import Derived.Test.YtaehlpdnjfblbaaDoorSeRRead
namespace Go.Proofs.YtaehlpdnjfblbaaDoor
open Go Go.RowKit Go.IntWalk
open Go.Lib (itoa)
set_option linter.unusedSimpArgs false
set_option linter.unusedVariables false
set_option maxRecDepth 8000

theorem rnumber_s (s : ByteArray) (hs : s.size ≤ 100000) (w : World) : Calls Tryd.prog 39 #[.string s] w (Numb s.data.toList w) := by
  by_cases h : s.data.toList.head? = some 45
  · exact rnumber_neg s hs h w
  · exact rnumber_pos s hs h w
/-- What the reference's line gives. -/
def RLine (l : List UInt8) (w : World) (e : Ending) (w' : World) : Prop := ∃ (c : It) (ok : Bool), e = .returned (.tuple #[itv c, .bool ok]) ∧ (ok = true → l = lineT c ∧ -32768 ≤ c.2 ∧ c.2 ≤ 32767) ∧ (ok = false → ∀ x : It, (0 ≤ x.1 ∧ x.1 ≤ 1099511627776) ∧ -32768 ≤ x.2 ∧ x.2 ≤ 32767 → l ≠ lineT x) ∧ Grew w w'
theorem extract_take (s : ByteArray) (k : Nat) : (s.extract 0 k).data.toList = s.data.toList.take k := by
  rw [ByteArray.data_extract]; simp
theorem extract_drop (s : ByteArray) (k : Nat) : (s.extract k s.size).data.toList = s.data.toList.drop k := by
  rw [ByteArray.data_extract]
  simp only [Array.toList_extract, List.extract_eq_take_drop]
  rw [List.take_of_length_le]
  rw [List.length_drop]
  exact Nat.le_refl _
theorem u8_32 {c : UInt8} (h : (c.toNat : Int) = 32) : c = 32 := UInt8.toNat_inj.1 (show c.toNat = 32 by omega)
theorem u8_10 {c : UInt8} (h : (c.toNat : Int) = 10) : c = 10 := UInt8.toNat_inj.1 (show c.toNat = 10 by omega)
theorem no_line {l : List UInt8} (h : (32 : UInt8) ∉ l) (x : It) : l ≠ lineT x := fun e => h (by rw [e]; unfold lineT; simp)
theorem rline_close {l a b : List UInt8} {v1 v2 : Int} {ok1 ok2 : Bool} (hl : l = a ++ 32 :: b) (hna : (32 : UInt8) ∉ a) (y1 : ok1 = true → a = itoa v1) (n1 : ok1 = false → ∀ z : Int, -999999999999999 ≤ z ∧ z ≤ 999999999999999 → a ≠ itoa z) (y2 : ok2 = true → b = itoa v2) (n2 : ok2 = false → ∀ z : Int, -999999999999999 ≤ z ∧ z ≤ 999999999999999 → b ≠ itoa z) :
    ((ok1 && ok2 && decide (-32768 ≤ v2) && decide (v2 ≤ 32767)) = true → l = lineT (v1, v2) ∧ -32768 ≤ v2 ∧ v2 ≤ 32767) ∧ ((ok1 && ok2 && decide (-32768 ≤ v2) && decide (v2 ≤ 32767)) = false → ∀ x : It, (0 ≤ x.1 ∧ x.1 ≤ 1099511627776) ∧ -32768 ≤ x.2 ∧ x.2 ≤ 32767 → l ≠ lineT x) := by
  constructor
  · intro h
    simp only [Bool.and_eq_true, decide_eq_true_eq] at h
    obtain ⟨⟨⟨h1, h2⟩, h3⟩, h4⟩ := h
    refine ⟨?_, h3, h4⟩
    rw [hl, y1 h1, y2 h2]
    rfl
  · intro h x hx e
    rw [hl] at e
    obtain ⟨e1, e2⟩ := split_one e hna (itoa_no (by decide))
    cases h1 : ok1 with
    | false => exact n1 h1 x.1 (by omega) e1
    | true =>
      cases h2 : ok2 with
      | false => exact n2 h2 x.2 (by omega) e2
      | true =>
        have := itoa_inj ((y2 h2).symm.trans e2)
        rw [h1, h2, decide_eq_true (show -32768 ≤ v2 by omega), decide_eq_true (show v2 ≤ 32767 by omega)] at h
        cases h
set_option maxHeartbeats 4000000 in
theorem rline_any (s : ByteArray) (hs : s.size ≤ 100000) (w : World) : Calls Tryd.prog 33 #[.string s] w (RLine s.data.toList w) := by
  go_enter Tryd.func33, Tryd.ntmps33
  go_wp2
  obtain ⟨S, hS⟩ : ∃ S, S = w.heap.size := ⟨_, rfl⟩
  rw [← hS]
  refine wp_at9 (fun W => Blk S (itc (0, 0)) 37 W ∧ Grew w W) ⟨by rw [hS]; exact Blk.new w _ _, (Grew.refl _).alloc _⟩ ?_
  intro W hW
  have HS := Lib.hid hW
  have HSL := Lib.hid (Nat.le_of_eq hS.symm)
  clear hW hS
  go_loopg [4] s.size (fun gg iv wr => ∃ (k : Nat), iv = .int .i64 (k : Int) ∧ k ≤ s.size ∧ gg = s.size - k ∧ Hid ((32 : UInt8) ∉ s.data.toList.take k) ∧ Hid (Blk S (itc (0, 0)) 37 wr) ∧ Hid (Grew w wr))
  case atStart => exact ⟨0, rfl, Nat.zero_le _, rfl, Lib.hid (by simp), Lib.hid HS.out.1, Lib.hid HS.out.2⟩
  clear HS
  case round =>
    obtain ⟨k, rfl, hk, rfl, HN, HB, HG⟩ := hrel
    have b0 := HB.out.cell 0
    have b1 := HB.out.cell 1
    have bf := HB.out.free
    have bl := HB.out.lt
    simp only [List.getElem?_cons_zero, List.getElem?_cons_succ] at b0 b1
    by_cases hlt : k < s.size
    · have HT := Lib.hid (take_snoc s k hlt)
      have HLT := Lib.hid (Nat.succ_le_of_lt hlt)
      by_cases hc : s[k] = 32
      · have hcb : ((s[k].toNat : Int) == 32) = true := by rw [hc]; rfl
        have N1 := Lib.hid (fun W => rnumber_s (s.extract 0 k) (by rw [ByteArray.size_extract]; omega) W)
        have N2 := Lib.hid (fun W => rnumber_s (s.extract (k + 1) s.size) (by rw [ByteArray.size_extract]; omega) W)
        have HDD : Hid (s.data.toList = s.data.toList.take k ++ 32 :: s.data.toList.drop (k + 1)) := Lib.hid (by
          have h1 := List.drop_eq_getElem_cons (l := s.data.toList) (show k < s.data.toList.length from hlt)
          have h2 := List.take_append_drop k s.data.toList
          have h3 : s.data.toList[k]'hlt = 32 := hc
          rw [h1, h3] at h2
          exact h2.symm)
        simp only [extract_take, extract_drop] at N1 N2
        have tk1 := Lib.hid trivial
        clear hc
        go_wp2_with (first
          | (go_at_call 39; clear tk1; clear b0 b1 bf bl; (with_reducible refine (N1.out _).mono ?_); rintro e w1 ⟨v1, ok1, rfl, y1, n1, q1, q2, g1⟩; have Y1 := Lib.hid y1; have X1 := Lib.hid n1; have HB1 := Lib.hid (HB.out.grew g1); have HG1 := Lib.hid (HG.out.trans g1); clear y1 n1 g1)
          | (go_at_call 39; (with_reducible refine (N2.out _).mono ?_); rintro e w2 ⟨v2, ok2, rfl, y2, n2, q3, q4, g2⟩; have Y2 := Lib.hid y2; have X2 := Lib.hid n2; have HB2 := Lib.hid (HB1.out.grew g2); have HG2 := Lib.hid (HG1.out.trans g2); clear y2 n2 g2; have b0 := HB2.out.cell 0; have b1 := HB2.out.cell 1; have bf := HB2.out.free; have bl := HB2.out.lt; simp only [List.getElem?_cons_zero, List.getElem?_cons_succ] at b0 b1))
        · rename_i e0 e1 e2 e3
          have HK := Lib.hid (rline_close (v2 := v2) HDD.out HN.out Y1.out X1.out Y2.out X2.out)
          refine rn_ret_c37_t Tryd.results33 (S0 := S) (v0_0 := .int .i64 v1) (v0_1 := .int .i16 (IntKind.i16.wrap v2)) (v1 := .bool (decide (v2 ≤ 32767))) rfl (by go_simp) (by go_simp) rfl ⟨(v1, IntKind.i16.wrap v2), decide (v2 ≤ 32767), rfl, fun h => ?_, fun h => ?_, ?_⟩
          · have h3 := of_decide_eq_true h
            obtain ⟨z1, z2⟩ := HK.out.1 (by rw [e1, e2, decide_eq_true e3, h]; rfl)
            have hw : IntKind.i16.wrap v2 = v2 := i16_in _ (by omega)
            show s.data.toList = lineT (v1, IntKind.i16.wrap v2) ∧ -32768 ≤ IntKind.i16.wrap v2 ∧ IntKind.i16.wrap v2 ≤ 32767
            rw [hw]
            exact ⟨z1, z2⟩
          · exact HK.out.2 (by rw [h]; simp)
          · exact (HG2.out.sc HSL.out _ _).sc HSL.out _ _
        · rename_i e0 e1 e2 e3
          have HK := Lib.hid (rline_close (v2 := v2) HDD.out HN.out Y1.out X1.out Y2.out X2.out)
          refine rn_ret_c37_t Tryd.results33 (S0 := S) (v0_0 := .int .i64 v1) (v0_1 := .int .i16 (IntKind.i16.wrap v2)) (v1 := .bool (false)) rfl (by go_simp) (by go_simp) rfl ⟨(v1, IntKind.i16.wrap v2), false, rfl, fun h => ?_, fun h => ?_, ?_⟩
          · cases h
          · exact HK.out.2 (by rw [decide_eq_false (show ¬ -32768 ≤ v2 by omega)]; simp)
          · exact (HG2.out.sc HSL.out _ _).sc HSL.out _ _
        · rename_i e0 e1 e2
          have HK := Lib.hid (rline_close (v2 := v2) HDD.out HN.out Y1.out X1.out Y2.out X2.out)
          refine rn_ret_c37_t Tryd.results33 (S0 := S) (v0_0 := .int .i64 v1) (v0_1 := .int .i16 (IntKind.i16.wrap v2)) (v1 := .bool (false)) rfl (by go_simp) (by go_simp) rfl ⟨(v1, IntKind.i16.wrap v2), false, rfl, fun h => ?_, fun h => ?_, ?_⟩
          · cases h
          · exact HK.out.2 (by rw [show ok2 = false by simpa using e2]; simp)
          · exact (HG2.out.sc HSL.out _ _).sc HSL.out _ _
        · rename_i e0 e1
          have HK := Lib.hid (rline_close (v2 := v2) HDD.out HN.out Y1.out X1.out Y2.out X2.out)
          refine rn_ret_c37_t Tryd.results33 (S0 := S) (v0_0 := .int .i64 v1) (v0_1 := .int .i16 (IntKind.i16.wrap v2)) (v1 := .bool (false)) rfl (by go_simp) (by go_simp) rfl ⟨(v1, IntKind.i16.wrap v2), false, rfl, fun h => ?_, fun h => ?_, ?_⟩
          · cases h
          · exact HK.out.2 (by rw [show ok1 = false by simpa using e1]; simp)
          · exact (HG2.out.sc HSL.out _ _).sc HSL.out _ _
      · have hcb : ((s[k].toNat : Int) == 32) = false := beq_eq_false_iff_ne.2 fun h => hc (u8_32 h)
        have HC := Lib.hid hc
        clear hc
        go_wp2
        go_roundg (s.size - (k + 1))
        case measure => have := HLT.out; omega
        case rel => exact ⟨k + 1, by go_num, HLT.out, rfl, Lib.hid (by
          rw [HT.out]
          intro h
          rcases List.mem_append.1 h with h | h
          · exact HN.out h
          · exact HC.out (List.mem_singleton.1 h).symm), HB, HG⟩
    · obtain rfl : k = s.size := by omega
      have HZ : Hid ((32 : UInt8) ∉ s.data.toList) := Lib.hid (by have h1 := HN.out; rwa [show s.data.toList.take s.size = s.data.toList from List.take_of_length_le (Nat.le_refl _)] at h1)
      go_wp2
      refine rn_ret_c37_t Tryd.results33 (S0 := S) (v0_0 := .int .i64 0) (v0_1 := .int .i16 0) (v1 := .bool false) rfl (by go_simp) (by go_simp) rfl ⟨(0, 0), false, rfl, (fun h => by cases h), fun _ x _ => no_line HZ.out x, ?_⟩
      repeat (first | with_reducible exact HG.out | with_reducible refine Grew.alloc ?_ _ | with_reducible refine Grew.drw ?_ | with_reducible refine Grew.sc ?_ HSL.out _ _ | with_reducible refine Grew.sc ?_ (by have := HG.out.size; omega) _ _)
end Go.Proofs.YtaehlpdnjfblbaaDoor
