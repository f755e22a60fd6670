/-
  CONTRACTS OF LAYER 11's REFERENCE: Mnemonic, Shape, has, register, below, costs, Valid.
-/
import Derived.Test.YtbhglpiiabpdjaaDoorShort
import Derived.Test.YtbhglpiiabpdjaaDoorCiValid
import Derived.Deep.CutBlock
import Derived.Lib.SmallJoins
namespace Go.Proofs.YtbhglpiiabpdjaaDoor
open Go Go.RowKit Go.IntWalk
set_option linter.unusedSimpArgs false
set_option linter.unusedVariables false
set_option maxRecDepth 8000
theorem bytes_eq {a b : List UInt8} (h : a = b) : Ending.returned (.string ⟨a.toArray⟩) = .returned (.string ⟨b.toArray⟩) := by rw [h]
theorem sh_out {op : Int} (h : op < 0 ∨ 31 ≤ op) : sh op = [] := by unfold sh hasR regs hasI; rw [opr_out h]; rfl
theorem sh_rest (op : Int) : [2, 14, 15, 19, 20, 22, 23, 24, 26, 3, 4, 5, 16, 17, 6, 7, 8, 9, 10, 11, 12, 13, 18, 21, 27, 29, 25, 28].all (fun c : Int => op != c) = true → sh op = [] :=
  op_all (fun op => [2, 14, 15, 19, 20, 22, 23, 24, 26, 3, 4, 5, 16, 17, 6, 7, 8, 9, 10, 11, 12, 13, 18, 21, 27, 29, 25, 28].all (fun c : Int => op != c) = true → sh op = []) (fun op h _ => by exact sh_out h) (by decide) op
set_option maxHeartbeats 4000000 in
theorem shape_any (op : Int) (w : World) : Calls Tryd.prog 70 #[.int .i64 op] w fun e w' => e = .returned (.string ⟨(sh op).toArray⟩) ∧ Grew w w' := by
  go_enter Tryd.func70, Tryd.ntmps70
  go_wp2
  all_goals (rename_i hl; go_ret; refine ⟨bytes_eq (b := sh op) ?_, Grew.refl _⟩)
  all_goals first
    | (obtain rfl := eq_of_beq hl; decide)
    | exact (sh_rest op (by simp [bne, *])).symm
/-- How many values of Imm are valid, from 0 on; 0 for movi. -/
def rbel (op : Int) : Int := if op = 2 then 0 else if hasI op then (opr op).hi + 1 else 0
theorem rbel_out {op : Int} (h : op < 0 ∨ 31 ≤ op) : rbel op = 0 := by unfold rbel hasI; rw [opr_out h]; simp [Opr.no]
theorem rbel_rest (op : Int) : [14, 15, 27, 18, 19, 20, 21, 22, 23, 24, 26, 29].all (fun c : Int => op != c) = true → rbel op = 0 :=
  op_all (fun op => [14, 15, 27, 18, 19, 20, 21, 22, 23, 24, 26, 29].all (fun c : Int => op != c) = true → rbel op = 0) (fun op h _ => by exact rbel_out h) (by decide) op
set_option maxHeartbeats 4000000 in
theorem below_any (op : Int) (w : World) : Calls Tryd.prog 73 #[.int .i64 op] w fun e w' => e = .returned (.int .i64 (rbel op)) ∧ Grew w w' := by
  go_enter Tryd.func73, Tryd.ntmps73
  go_wp2
  all_goals (rename_i hl; go_ret; refine ⟨ret_i64 (b := rbel op) ?_, Grew.refl _⟩)
  all_goals first
    | (obtain rfl := eq_of_beq hl; decide)
    | exact (rbel_rest op (by simp [bne, *])).symm
theorem rwr_rest (op : Int) : [24, 25, 15, 17, 26, 27, 28].all (fun c : Int => op != c) = true → (cst op).2.2 = 0 :=
  op_all (fun op => [24, 25, 15, 17, 26, 27, 28].all (fun c : Int => op != c) = true → (cst op).2.2 = 0) (fun op h _ => by rw [cst_out h]) (by decide) op
set_option maxHeartbeats 4000000 in
theorem rwrites_any (op : Int) (w : World) : Calls Tryd.prog 31 #[.int .i64 op] w fun e w' => e = .returned (.int .i64 (cst op).2.2) ∧ Grew w w' := by
  go_enter Tryd.func31, Tryd.ntmps31
  go_wp2
  all_goals (rename_i hl; go_ret; refine ⟨ret_i64 (b := (cst op).2.2) ?_, Grew.refl _⟩)
  all_goals first
    | (obtain rfl := eq_of_beq hl; decide)
    | exact (rwr_rest op (by simp [bne, *])).symm
theorem mncell (k : Nat) (hk : k < 31) (w : World) : (w.alloc (.cells #[.string ⟨#[]⟩, .string ⟨#[104, 97, 108, 116]⟩, .string ⟨#[109, 111, 118, 105]⟩, .string ⟨#[109, 111, 118]⟩, .string ⟨#[110, 101, 103]⟩, .string ⟨#[110, 111, 116]⟩, .string ⟨#[97, 100, 100]⟩, .string ⟨#[115, 117, 98]⟩, .string ⟨#[109, 117, 108]⟩, .string ⟨#[100, 105, 118]⟩, .string ⟨#[109, 111, 100]⟩, .string ⟨#[101, 113]⟩, .string ⟨#[108, 116]⟩, .string ⟨#[108, 101]⟩, .string ⟨#[108, 111, 97, 100]⟩, .string ⟨#[115, 116, 111, 114, 101]⟩, .string ⟨#[108, 111, 97, 100, 120]⟩, .string ⟨#[115, 116, 111, 114, 101, 120]⟩, .string ⟨#[105, 110, 100, 101, 120]⟩, .string ⟨#[115, 112, 105, 108, 108]⟩, .string ⟨#[102, 105, 108, 108]⟩, .string ⟨#[106, 117, 109, 112]⟩, .string ⟨#[106, 117, 109, 112, 122]⟩, .string ⟨#[114, 101, 97, 100]⟩, .string ⟨#[115, 101, 110, 100]⟩, .string ⟨#[101, 109, 105, 116]⟩, .string ⟨#[111, 117, 116]⟩, .string ⟨#[108, 111, 103]⟩, .string ⟨#[108, 111, 103, 120]⟩, .string ⟨#[99, 111, 109, 109, 105, 116]⟩, .string ⟨#[110, 111, 112]⟩] 9)).cell? ⟨w.heap.size, k, none⟩ = some (.string ⟨(opr (k : Int)).mn.toArray⟩) := by
  have h0 : (#[.string ⟨#[]⟩, .string ⟨#[104, 97, 108, 116]⟩, .string ⟨#[109, 111, 118, 105]⟩, .string ⟨#[109, 111, 118]⟩, .string ⟨#[110, 101, 103]⟩, .string ⟨#[110, 111, 116]⟩, .string ⟨#[97, 100, 100]⟩, .string ⟨#[115, 117, 98]⟩, .string ⟨#[109, 117, 108]⟩, .string ⟨#[100, 105, 118]⟩, .string ⟨#[109, 111, 100]⟩, .string ⟨#[101, 113]⟩, .string ⟨#[108, 116]⟩, .string ⟨#[108, 101]⟩, .string ⟨#[108, 111, 97, 100]⟩, .string ⟨#[115, 116, 111, 114, 101]⟩, .string ⟨#[108, 111, 97, 100, 120]⟩, .string ⟨#[115, 116, 111, 114, 101, 120]⟩, .string ⟨#[105, 110, 100, 101, 120]⟩, .string ⟨#[115, 112, 105, 108, 108]⟩, .string ⟨#[102, 105, 108, 108]⟩, .string ⟨#[106, 117, 109, 112]⟩, .string ⟨#[106, 117, 109, 112, 122]⟩, .string ⟨#[114, 101, 97, 100]⟩, .string ⟨#[115, 101, 110, 100]⟩, .string ⟨#[101, 109, 105, 116]⟩, .string ⟨#[111, 117, 116]⟩, .string ⟨#[108, 111, 103]⟩, .string ⟨#[108, 111, 103, 120]⟩, .string ⟨#[99, 111, 109, 109, 105, 116]⟩, .string ⟨#[110, 111, 112]⟩] : Array Value) = (oprs.map (fun o => Value.string ⟨o.mn.toArray⟩)).toArray := rfl
  have hl : k < oprs.length := hk
  have h2 : oprs[k]? = some (opr (k : Int)) := by
    unfold opr
    simp only [Int.toNat_natCast, List.getD, List.getElem?_eq_getElem hl, Option.getD_some]
  have h3 := (Blk.new w (oprs.map (fun o => Value.string ⟨o.mn.toArray⟩)) 9).cell k
  rw [h0, h3, List.getElem?_map, h2]
  rfl
set_option maxHeartbeats 4000000 in
theorem mnemonic_any (op : Int) (w : World) : Calls Tryd.prog 61 #[.int .i64 op] w fun e w' => e = .returned (.string ⟨(opr op).mn.toArray⟩) ∧ Grew w w' := by
  by_cases h1 : op < 1
  · have HE := Lib.hid (show [] = (opr op).mn by
      rcases Int.lt_or_eq_of_le (show op ≤ 0 by omega) with h | rfl
      · rw [opr_out (.inl h)]; rfl
      · rfl)
    go_enter Tryd.func61, Tryd.ntmps61
    go_wp2
    go_ret
    exact ⟨bytes_eq HE.out, (Grew.refl _).alloc _⟩
  · by_cases h2 : 31 ≤ op
    · have HE := Lib.hid (show [] = (opr op).mn by rw [opr_out (.inr h2)]; rfl)
      go_enter Tryd.func61, Tryd.ntmps61
      go_wp2
      go_ret
      exact ⟨bytes_eq HE.out, (Grew.refl _).alloc _⟩
    · obtain ⟨k, hk, rfl⟩ : ∃ k : Nat, k < 31 ∧ op = k := ⟨op.toNat, by omega, by omega⟩
      have HC := Lib.hid (mncell k hk w)
      go_enter Tryd.func61, Tryd.ntmps61
      go_upto_region 2 with fail
      have hg := (Grew.refl w).alloc (.cells #[.string ⟨#[]⟩, .string ⟨#[104, 97, 108, 116]⟩, .string ⟨#[109, 111, 118, 105]⟩, .string ⟨#[109, 111, 118]⟩, .string ⟨#[110, 101, 103]⟩, .string ⟨#[110, 111, 116]⟩, .string ⟨#[97, 100, 100]⟩, .string ⟨#[115, 117, 98]⟩, .string ⟨#[109, 117, 108]⟩, .string ⟨#[100, 105, 118]⟩, .string ⟨#[109, 111, 100]⟩, .string ⟨#[101, 113]⟩, .string ⟨#[108, 116]⟩, .string ⟨#[108, 101]⟩, .string ⟨#[108, 111, 97, 100]⟩, .string ⟨#[115, 116, 111, 114, 101]⟩, .string ⟨#[108, 111, 97, 100, 120]⟩, .string ⟨#[115, 116, 111, 114, 101, 120]⟩, .string ⟨#[105, 110, 100, 101, 120]⟩, .string ⟨#[115, 112, 105, 108, 108]⟩, .string ⟨#[102, 105, 108, 108]⟩, .string ⟨#[106, 117, 109, 112]⟩, .string ⟨#[106, 117, 109, 112, 122]⟩, .string ⟨#[114, 101, 97, 100]⟩, .string ⟨#[115, 101, 110, 100]⟩, .string ⟨#[101, 109, 105, 116]⟩, .string ⟨#[111, 117, 116]⟩, .string ⟨#[108, 111, 103]⟩, .string ⟨#[108, 111, 103, 120]⟩, .string ⟨#[99, 111, 109, 109, 105, 116]⟩, .string ⟨#[110, 111, 112]⟩] 9)
      generalize hV : World.alloc _ _ = V at HC hg ⊢
      clear hV
      have hc := HC.out
      have b0 : ¬ (k : Int) < 1 := h1
      go_wp2
      go_ret
      exact ⟨rfl, hg⟩
theorem ren0 (op : Int) : [23, 24, 25, 26, 27, 28, 15, 17, 29].all (fun c : Int => op != c) = true → (opr op).mn.isEmpty = true → (cst op).1 = 0 :=
  op_all (fun op => [23, 24, 25, 26, 27, 28, 15, 17, 29].all (fun c : Int => op != c) = true → (opr op).mn.isEmpty = true → (cst op).1 = 0) (fun op h _ => by intro _; rw [cst_out h]) (by decide) op
theorem ren1 (op : Int) : [23, 24, 25, 26, 27, 28, 15, 17, 29].all (fun c : Int => op != c) = true → (opr op).mn.isEmpty = false → (cst op).1 = 1 :=
  op_all (fun op => [23, 24, 25, 26, 27, 28, 15, 17, 29].all (fun c : Int => op != c) = true → (opr op).mn.isEmpty = false → (cst op).1 = 1) (fun op h _ => by intro h1; rw [opr_out h] at h1; cases h1) (by decide) op
set_option maxHeartbeats 4000000 in
theorem renergy_any (op : Int) (w : World) : Calls Tryd.prog 30 #[.int .i64 op] w fun e w' => e = .returned (.int .i64 ((cst op).1)) ∧ Grew w w' := by
  go_enter Tryd.func30, Tryd.ntmps30
  go_wp2_with (go_at_call 61; (with_reducible refine (mnemonic_any op _).mono ?_); rintro e w1 ⟨rfl, g1⟩; have HB := Lib.hid g1; clear g1)
  all_goals (rename_i hl; go_ret; refine ⟨ret_i64 (b := (cst op).1) ?_, by first | exact Grew.refl _ | exact HB.out⟩)
  all_goals first
    | (obtain rfl := eq_of_beq hl; decide)
    | exact (ren0 op (by simp [bne, *]) (by assumption)).symm
    | exact (ren1 op (by simp [bne, *]) (by assumption)).symm
theorem rti0 (op : Int) : [23, 27, 28, 15, 17, 24, 25, 26, 29].all (fun c : Int => op != c) = true → (opr op).mn.isEmpty = true → (cst op).2.1 = 0 :=
  op_all (fun op => [23, 27, 28, 15, 17, 24, 25, 26, 29].all (fun c : Int => op != c) = true → (opr op).mn.isEmpty = true → (cst op).2.1 = 0) (fun op h _ => by intro _; rw [cst_out h]) (by decide) op
theorem rti1 (op : Int) : [23, 27, 28, 15, 17, 24, 25, 26, 29].all (fun c : Int => op != c) = true → (opr op).mn.isEmpty = false → (cst op).2.1 = 1 :=
  op_all (fun op => [23, 27, 28, 15, 17, 24, 25, 26, 29].all (fun c : Int => op != c) = true → (opr op).mn.isEmpty = false → (cst op).2.1 = 1) (fun op h _ => by intro h1; rw [opr_out h] at h1; cases h1) (by decide) op
set_option maxHeartbeats 4000000 in
theorem rticks_any (op : Int) (w : World) : Calls Tryd.prog 32 #[.int .i64 op] w fun e w' => e = .returned (.int .i64 ((cst op).2.1)) ∧ Grew w w' := by
  go_enter Tryd.func32, Tryd.ntmps32
  go_wp2_with (go_at_call 61; (with_reducible refine (mnemonic_any op _).mono ?_); rintro e w1 ⟨rfl, g1⟩; have HB := Lib.hid g1; clear g1)
  all_goals (rename_i hl; go_ret; refine ⟨ret_i64 (b := (cst op).2.1) ?_, by first | exact Grew.refl _ | exact HB.out⟩)
  all_goals first
    | (obtain rfl := eq_of_beq hl; decide)
    | exact (rti0 op (by simp [bne, *]) (by assumption)).symm
    | exact (rti1 op (by simp [bne, *]) (by assumption)).symm
theorem has_any (s : ByteArray) (c : UInt8) (hs : s.size ≤ 1000) (w : World) : Calls Tryd.prog 72 #[.string s, .int .u8 c.toNat] w fun e w' => e = .returned (.bool (s.data.toList.contains c)) ∧ Grew w w' := by
  go_enter Tryd.func72, Tryd.ntmps72
  go_wp2
  go_loopg [5] s.size (fun gg iv wr => ∃ k : Nat, iv = .int .i64 (k : Int) ∧ k ≤ s.size ∧ gg = s.size - k ∧ Hid (c ∉ s.data.toList.take k) ∧ wr = w)
  case atStart => exact ⟨0, rfl, Nat.zero_le _, rfl, Lib.hid (by simp), rfl⟩
  case round =>
    obtain ⟨k, rfl, hk, rfl, HT, rfl⟩ := hrel
    by_cases hlt : k < s.size
    · have HS := Lib.hid (take_snoc s k hlt)
      have HM : Hid (s[k] ∈ s.data.toList) := Lib.hid (List.getElem_mem (l := s.data.toList) (n := k) hlt)
      by_cases he : s[k] = c
      · have HE := Lib.hid he
        have h1 : (((s[k]).toNat : Int) == (c.toNat : Int)) = true := by rw [he]; simp
        clear he
        go_wp2
        go_ret
        exact ⟨ret_bool (by rw [List.contains_iff_mem.2 (HE.out ▸ HM.out)]), Grew.refl _⟩
      · have HE := Lib.hid he
        have h1 : (((s[k]).toNat : Int) == (c.toNat : Int)) = false := by
          cases h : (((s[k]).toNat : Int) == (c.toNat : Int))
          · rfl
          · exact absurd (UInt8.toNat_inj.1 (by have := eq_of_beq h; omega)) he
        clear he
        go_wp2
        go_roundg (s.size - (k + 1))
        case measure => omega
        case rel => exact ⟨k + 1, (by go_num), hlt, rfl, Lib.hid (by rw [HS.out]; intro hm; rcases List.mem_append.1 hm with hm | hm; exact HT.out hm; exact HE.out (List.mem_singleton.1 hm).symm), rfl⟩
    · have HE := Lib.hid (show s.data.toList.take k = s.data.toList from List.take_of_length_le (by show s.data.toList.length ≤ k; simp; omega))
      go_wp2
      go_ret
      exact ⟨ret_bool (by have := HT.out; rw [HE.out] at this; simpa using this), Grew.refl _⟩
theorem sh97 (op : Int) : (sh op).contains 97 = hasR op 0 := by unfold sh; cases hasR op 0 <;> cases hasR op 1 <;> cases hasR op 2 <;> cases hasI op <;> rfl
theorem sh98 (op : Int) : (sh op).contains 98 = hasR op 1 := by unfold sh; cases hasR op 0 <;> cases hasR op 1 <;> cases hasR op 2 <;> cases hasI op <;> rfl
theorem sh99 (op : Int) : (sh op).contains 99 = hasR op 2 := by unfold sh; cases hasR op 0 <;> cases hasR op 1 <;> cases hasR op 2 <;> cases hasI op <;> rfl
theorem sh105 (op : Int) : (sh op).contains 105 = hasI op := by unfold sh; cases hasR op 0 <;> cases hasR op 1 <;> cases hasR op 2 <;> cases hasI op <;> rfl
theorem sh_len (op : Int) : (sh op).length ≤ 4 := by unfold sh; cases hasR op 0 <;> cases hasR op 1 <;> cases hasR op 2 <;> cases hasI op <;> decide
theorem has_is (op : Int) (c : UInt8) (b : Bool) (hb : (sh op).contains c = b) (w : World) : Calls Tryd.prog 72 #[.string ⟨(sh op).toArray⟩, .int .u8 c.toNat] w fun e w' => e = .returned (.bool b) ∧ Grew w w' := by
  have h := has_any ⟨(sh op).toArray⟩ c (by have := sh_len op; show (sh op).toArray.size ≤ 1000; simp; omega) w
  have e : (⟨(sh op).toArray⟩ : ByteArray).data.toList = sh op := by simp
  rw [e, hb] at h
  exact h
theorem has97 (op : Int) (b : Bool) (hb : hasR op 0 = b) (w : World) : Calls Tryd.prog 72 #[.string ⟨(sh op).toArray⟩, .int .u8 97] w fun e w' => e = .returned (.bool b) ∧ Grew w w' := has_is op 97 b ((sh97 op).trans hb) w
theorem has98 (op : Int) (b : Bool) (hb : hasR op 1 = b) (w : World) : Calls Tryd.prog 72 #[.string ⟨(sh op).toArray⟩, .int .u8 98] w fun e w' => e = .returned (.bool b) ∧ Grew w w' := has_is op 98 b ((sh98 op).trans hb) w
theorem has99 (op : Int) (b : Bool) (hb : hasR op 2 = b) (w : World) : Calls Tryd.prog 72 #[.string ⟨(sh op).toArray⟩, .int .u8 99] w fun e w' => e = .returned (.bool b) ∧ Grew w w' := has_is op 99 b ((sh99 op).trans hb) w
theorem has105 (op : Int) (b : Bool) (hb : hasI op = b) (w : World) : Calls Tryd.prog 72 #[.string ⟨(sh op).toArray⟩, .int .u8 105] w fun e w' => e = .returned (.bool b) ∧ Grew w w' := has_is op 105 b ((sh105 op).trans hb) w
theorem below_is (op R : Int) (h : rbel op = R) (w : World) : Calls Tryd.prog 73 #[.int .i64 op] w fun e w' => e = .returned (.int .i64 R) ∧ Grew w w' := h ▸ below_any op w
theorem ok_f (n : Int) : (n == 0) = ok false n := by rw [Bool.eq_iff_iff]; simp [ok]; omega
theorem ok_t1 {n : Int} (h : 0 ≤ n) : decide (n < 8) = ok true n := by rw [Bool.eq_iff_iff]; simp [ok]; omega
theorem ok_t0 {n : Int} (h : n < 0) : false = ok true n := by rw [Bool.eq_iff_iff]; simp [ok]; omega
theorem register_raw (op : Int) (c n : Int) (h b : Bool) (hc : ∀ w, Calls Tryd.prog 72 #[.string ⟨(sh op).toArray⟩, .int .u8 c] w fun e w' => e = .returned (.bool h) ∧ Grew w w') (hb : ok h n = b) (w : World) :
    Calls Tryd.prog 71 #[.string ⟨(sh op).toArray⟩, .int .u8 c, .int .i64 n] w fun e w' => e = .returned (.bool b) ∧ Grew w w' := by
  have HC := Lib.hid hc
  have HB1 := Lib.hid hb
  clear hc hb
  cases h
  · go_enter Tryd.func71, Tryd.ntmps71
    go_wp2_with (go_at_call 72; (with_reducible refine (HC.out _).mono ?_); rintro e w1 ⟨rfl, g1⟩; have HB := Lib.hid g1; clear g1)
    go_ret
    exact ⟨ret_bool ((ok_f n).trans HB1.out), HB.out⟩
  · go_enter Tryd.func71, Tryd.ntmps71
    go_wp2_with (go_at_call 72; (with_reducible refine (HC.out _).mono ?_); rintro e w1 ⟨rfl, g1⟩; have HB := Lib.hid g1; clear g1)
    all_goals go_ret
    · exact ⟨ret_bool ((ok_t1 (by assumption)).trans HB1.out), HB.out⟩
    · exact ⟨ret_bool ((ok_t0 (by assumption)).trans HB1.out), HB.out⟩
theorem reg97 (op n : Int) (b : Bool) (hb : ok (hasR op 0) n = b) (w : World) : Calls Tryd.prog 71 #[.string ⟨(sh op).toArray⟩, .int .u8 97, .int .i64 n] w fun e w' => e = .returned (.bool b) ∧ Grew w w' := register_raw op 97 n _ b (has97 op _ rfl) hb w
theorem reg98 (op n : Int) (b : Bool) (hb : ok (hasR op 1) n = b) (w : World) : Calls Tryd.prog 71 #[.string ⟨(sh op).toArray⟩, .int .u8 98, .int .i64 n] w fun e w' => e = .returned (.bool b) ∧ Grew w w' := register_raw op 98 n _ b (has98 op _ rfl) hb w
theorem reg99 (op n : Int) (b : Bool) (hb : ok (hasR op 2) n = b) (w : World) : Calls Tryd.prog 71 #[.string ⟨(sh op).toArray⟩, .int .u8 99, .int .i64 n] w fun e w' => e = .returned (.bool b) ∧ Grew w w' := register_raw op 99 n _ b (has99 op _ rfl) hb w
/-- The last part of validity, as the program and as the reference say it. -/
def tailP (op i : Int) : Bool := !((opr op).ev && i.tmod 2 != 0) && (!(opr op).mn.isEmpty && (decide ((opr op).lo ≤ i) && decide (i ≤ (opr op).hi)))
def tailR (M I : Bool) (op R i : Int) : Bool := if M then false else if !I then i == 0 else if op == 2 then true else if R == 16383 && i.tmod 2 != 0 then false else decide (0 ≤ i) && decide (i < R)
theorem tab_tail : ∀ k : Fin 31, ((opr (k.val : Int)).mn.isEmpty = true) ∨ (hasI (k.val : Int) = false ∧ (opr (k.val : Int)).lo = 0 ∧ (opr (k.val : Int)).hi = 0 ∧ (opr (k.val : Int)).ev = false) ∨ (hasI (k.val : Int) = true ∧ ((k.val : Int) == 2) = true ∧ (opr (k.val : Int)).lo = -32768 ∧ (opr (k.val : Int)).hi = 32767 ∧ (opr (k.val : Int)).ev = false) ∨ (hasI (k.val : Int) = true ∧ ((k.val : Int) == 2) = false ∧ (opr (k.val : Int)).lo = 0 ∧ rbel (k.val : Int) = (opr (k.val : Int)).hi + 1 ∧ (opr (k.val : Int)).ev = (rbel (k.val : Int) == 16383)) := by decide
theorem tail_eq (op i : Int) (h : -32768 ≤ i ∧ i ≤ 32767) : tailP op i = tailR (opr op).mn.isEmpty (hasI op) op (rbel op) i := by
  rcases op_cases op with ho | ⟨k, rfl⟩
  · unfold tailP tailR; rw [opr_out ho]; simp [Opr.no]
  · unfold tailP tailR
    rcases tab_tail k with h1 | ⟨h1, h2, h3, h4⟩ | ⟨h1, h2, h3, h4, h5⟩ | ⟨h1, h2, h3, h4, h5⟩
    · rw [h1]; simp
    · rw [h1, h2, h3, h4]
      cases (opr (k.val : Int)).mn.isEmpty
      · rw [Bool.eq_iff_iff]; simp; omega
      · simp
    · rw [h1, h2, h3, h4, h5]
      cases (opr (k.val : Int)).mn.isEmpty
      · rw [Bool.eq_iff_iff]; simp; omega
      · simp
    · rw [h1, h2, h3, h5, h4]
      cases (opr (k.val : Int)).mn.isEmpty
      · generalize (opr (k.val : Int)).hi = H
        by_cases hr : (H + 1 == 16383) = true
        · rw [hr]
          by_cases hm : (i.tmod 2 != 0) = true
          · rw [hm]; simp
          · rw [Bool.not_eq_true] at hm; rw [hm, Bool.eq_iff_iff]; simp; omega
        · rw [Bool.not_eq_true] at hr; rw [hr, Bool.eq_iff_iff]; simp; omega
      · simp
theorem valid_parts (x : Cd) : valid x = (ok (hasR x.op 0) x.a && (ok (hasR x.op 1) x.b && (ok (hasR x.op 2) x.c && tailP x.op x.i))) := by
  have h3 : ((opr x.op).mn != []) = !(opr x.op).mn.isEmpty := by cases (opr x.op).mn <;> rfl
  unfold valid tailP
  rw [h3]
set_option maxHeartbeats 8000000 in
theorem rvalid_any (x : Cd) (w : World) (hi : -32768 ≤ x.i ∧ x.i ≤ 32767) :
    Calls Tryd.prog 57 #[cdV x] w fun e w' => e = .returned (.bool (valid x)) ∧ Grew w w' := by
  obtain ⟨bA, HA⟩ : ∃ b, Hid (ok (hasR x.op 0) x.a = b) := ⟨_, Lib.hid rfl⟩
  obtain ⟨bB, HB1⟩ : ∃ b, Hid (ok (hasR x.op 1) x.b = b) := ⟨_, Lib.hid rfl⟩
  obtain ⟨bC, HC⟩ : ∃ b, Hid (ok (hasR x.op 2) x.c = b) := ⟨_, Lib.hid rfl⟩
  obtain ⟨bI, HI⟩ : ∃ b, Hid (hasI x.op = b) := ⟨_, Lib.hid rfl⟩
  obtain ⟨R, HR⟩ : ∃ R, Hid (rbel x.op = R) := ⟨_, Lib.hid rfl⟩
  have HV : Hid (valid x = (bA && (bB && (bC && tailR (opr x.op).mn.isEmpty bI x.op R x.i)))) := Lib.hid (by rw [valid_parts, HA.out, HB1.out, HC.out, tail_eq x.op x.i hi, HI.out, HR.out])
  have hi1 := hi.1
  have hi2 := hi.2
  clear hi
  have HB := Lib.hid (Grew.refl w)
  have tk0 := Lib.hid trivial
  have tk1 := Lib.hid trivial
  have tk2 := Lib.hid trivial
  have tk3 := Lib.hid trivial
  have tk4 := Lib.hid trivial
  have tk5 := Lib.hid trivial
  have tk6 := Lib.hid trivial
  have tk7 := Lib.hid trivial
  go_enter Tryd.func57, Tryd.ntmps57
  go_wp2_with (first
    | (go_at_call 61; clear tk0; generalize hW : World.alloc _ _ = V; have bx : Blk (w.heap.size) [.int .i64 x.op, .int .i64 x.a, .int .i64 x.b, .int .i64 x.c, .int .i16 x.i] 72 V := (by subst hW; exact Blk.grew (w := (w.alloc (.cells #[.int .i64 x.op, .int .i64 x.a, .int .i64 x.b, .int .i64 x.c, .int .i16 x.i] 72))) (by simpa using Blk.new w [.int .i64 x.op, .int .i64 x.a, .int .i64 x.b, .int .i64 x.c, .int .i16 x.i] 72) (by repeat (first | with_reducible exact Grew.refl _ | with_reducible refine Grew.alloc ?_ _ | with_reducible refine Grew.drw ?_ | with_reducible refine Grew.drwN ?_ _ | with_reducible refine Grew.sc ?_ (by first | omega | (simp <;> omega)) _ _))); replace HB : Hid (Grew w V) := Lib.hid (by subst hW; repeat (first | with_reducible exact HB.out | with_reducible refine Grew.sc ?_ (by first | omega | (simp <;> omega)) _ _ | with_reducible refine Grew.alloc ?_ _ | with_reducible refine Grew.drw ?_ | with_reducible refine Grew.drwN ?_ _)); clear hW; (with_reducible refine (mnemonic_any x.op _).mono ?_); rintro e w1 ⟨rfl, g1⟩; replace bx := bx.grew g1; replace HB := Lib.hid (HB.out.trans g1); clear g1; have bx0 := bx.cell 0; have bx1 := bx.cell 1; have bx2 := bx.cell 2; have bx3 := bx.cell 3; have bx4 := bx.cell 4; have bxf := bx.free; have bxl := bx.lt; simp only [zz7, zz8] at bx0 bx1 bx2 bx3 bx4 bxl)
    | (go_at_call 70; clear tk1; (with_reducible refine (shape_any x.op _).mono ?_); rintro e w2 ⟨rfl, g1⟩; clear bx0 bx1 bx2 bx3 bx4 bxf bxl; replace bx := bx.grew g1; replace HB := Lib.hid (HB.out.trans g1); clear g1; have bx0 := bx.cell 0; have bx1 := bx.cell 1; have bx2 := bx.cell 2; have bx3 := bx.cell 3; have bx4 := bx.cell 4; have bxf := bx.free; have bxl := bx.lt; simp only [zz7, zz8] at bx0 bx1 bx2 bx3 bx4 bxl)
    | (go_at_call 71; clear tk2; (with_reducible refine (reg97 x.op x.a bA HA.out _).mono ?_); rintro e w3 ⟨rfl, g1⟩; clear bx0 bx1 bx2 bx3 bx4 bxf bxl; replace bx := bx.grew g1; replace HB := Lib.hid (HB.out.trans g1); clear g1; have bx0 := bx.cell 0; have bx1 := bx.cell 1; have bx2 := bx.cell 2; have bx3 := bx.cell 3; have bx4 := bx.cell 4; have bxf := bx.free; have bxl := bx.lt; simp only [zz7, zz8] at bx0 bx1 bx2 bx3 bx4 bxl)
    | (go_at_call 71; clear tk3; (with_reducible refine (reg98 x.op x.b bB HB1.out _).mono ?_); rintro e w4 ⟨rfl, g1⟩; clear bx0 bx1 bx2 bx3 bx4 bxf bxl; replace bx := bx.grew g1; replace HB := Lib.hid (HB.out.trans g1); clear g1; have bx0 := bx.cell 0; have bx1 := bx.cell 1; have bx2 := bx.cell 2; have bx3 := bx.cell 3; have bx4 := bx.cell 4; have bxf := bx.free; have bxl := bx.lt; simp only [zz7, zz8] at bx0 bx1 bx2 bx3 bx4 bxl)
    | (go_at_call 71; clear tk4; (with_reducible refine (reg99 x.op x.c bC HC.out _).mono ?_); rintro e w5 ⟨rfl, g1⟩; clear bx0 bx1 bx2 bx3 bx4 bxf bxl; replace bx := bx.grew g1; replace HB := Lib.hid (HB.out.trans g1); clear g1; have bx0 := bx.cell 0; have bx1 := bx.cell 1; have bx2 := bx.cell 2; have bx3 := bx.cell 3; have bx4 := bx.cell 4; have bxf := bx.free; have bxl := bx.lt; simp only [zz7, zz8] at bx0 bx1 bx2 bx3 bx4 bxl)
    | (go_at_call 72; clear tk5; (with_reducible refine (has105 x.op bI HI.out _).mono ?_); rintro e w6 ⟨rfl, g1⟩; clear bx0 bx1 bx2 bx3 bx4 bxf bxl; replace bx := bx.grew g1; replace HB := Lib.hid (HB.out.trans g1); clear g1; have bx0 := bx.cell 0; have bx1 := bx.cell 1; have bx2 := bx.cell 2; have bx3 := bx.cell 3; have bx4 := bx.cell 4; have bxf := bx.free; have bxl := bx.lt; simp only [zz7, zz8] at bx0 bx1 bx2 bx3 bx4 bxl)
    | (go_at_call 73; clear tk6; (with_reducible refine (below_is x.op R HR.out _).mono ?_); rintro e w7 ⟨rfl, g1⟩; clear bx0 bx1 bx2 bx3 bx4 bxf bxl; replace bx := bx.grew g1; replace HB := Lib.hid (HB.out.trans g1); clear g1; have bx0 := bx.cell 0; have bx1 := bx.cell 1; have bx2 := bx.cell 2; have bx3 := bx.cell 3; have bx4 := bx.cell 4; have bxf := bx.free; have bxl := bx.lt; simp only [zz7, zz8] at bx0 bx1 bx2 bx3 bx4 bxl)
    | (go_at_call 73; clear tk7; (with_reducible refine (below_is x.op R HR.out _).mono ?_); rintro e w8 ⟨rfl, g1⟩; clear bx0 bx1 bx2 bx3 bx4 bxf bxl; replace bx := bx.grew g1; replace HB := Lib.hid (HB.out.trans g1); clear g1; have bx0 := bx.cell 0; have bx1 := bx.cell 1; have bx2 := bx.cell 2; have bx3 := bx.cell 3; have bx4 := bx.cell 4; have bxf := bx.free; have bxl := bx.lt; simp only [zz7, zz8] at bx0 bx1 bx2 bx3 bx4 bxl))
  all_goals (go_ret; refine ⟨ret_bool ?_, HB.out⟩; rw [HV.out]; clear HV HA HB1 HC HI HR HB; unfold tailR; clear bx bx0 bx1 bx2 bx3 bx4 bxf bxl; first | (simp [*]; done) | (simp [*]; omega) | (simp_all; done) | (simp_all; omega))
theorem rvalid_is (x : Cd) (w : World) (b : Bool) (hb : valid x = b) (hi : -32768 ≤ x.i ∧ x.i ≤ 32767) :
    Calls Tryd.prog 57 #[cdV x] w fun e w' => e = .returned (.bool b) ∧ Grew w w' := hb ▸ rvalid_any x w hi
end Go.Proofs.YtbhglpiiabpdjaaDoor
