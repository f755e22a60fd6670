/-
  CONTRACTS OF LAYER 11's REFERENCE: Mnemonic, Shape, has, register, below, costs, Defines.
-/
import Derived.Test.YtddffijipphfeaaDoorIsaEnc
import Derived.Deep.CutBlock
namespace Go.Proofs.YtddffijipphfeaaDoor
open Go Go.RowKit Go.IntWalk
set_option linter.unusedSimpArgs false
set_option linter.unusedVariables false
set_option maxRecDepth 8000
theorem bytes_eq {a b : List UInt8} (h : a = b) : Ending.returned (.string ⟨a.toArray⟩) = .returned (.string ⟨b.toArray⟩) := by rw [h]
theorem sh_out {op : Int} (h : op < 0 ∨ 31 ≤ op) : sh op = [] := by unfold sh hasR regs hasI; rw [opr_out h]; rfl
theorem sh_rest (op : Int) : [2, 14, 15, 19, 20, 22, 23, 24, 26, 3, 4, 5, 16, 17, 6, 7, 8, 9, 10, 11, 12, 13, 18, 21, 27, 29, 25, 28].all (fun c : Int => op != c) = true → sh op = [] :=
  op_all (fun op => [2, 14, 15, 19, 20, 22, 23, 24, 26, 3, 4, 5, 16, 17, 6, 7, 8, 9, 10, 11, 12, 13, 18, 21, 27, 29, 25, 28].all (fun c : Int => op != c) = true → sh op = []) (fun op h _ => by exact sh_out h) (by decide) op
set_option maxHeartbeats 4000000 in
theorem shape_any (op : Int) (w : World) : Calls Tryd.prog 40 #[.int .i64 op] w fun e w' => e = .returned (.string ⟨(sh op).toArray⟩) ∧ Grew w w' := by
  go_enter Tryd.func40, Tryd.ntmps40
  go_wp2
  all_goals (rename_i hl; go_ret; refine ⟨bytes_eq (b := sh op) ?_, Grew.refl _⟩)
  all_goals first
    | (obtain rfl := eq_of_beq hl; decide)
    | exact (sh_rest op (by simp [bne, *])).symm

/-- How many values of Imm are valid, from 0 on; 0 for movi. -/
def rbel (op : Int) : Int := if op = 2 then 0 else if hasI op then (opr op).hi + 1 else 0
theorem rbel_out {op : Int} (h : op < 0 ∨ 31 ≤ op) : rbel op = 0 := by unfold rbel hasI; rw [opr_out h]; simp [Opr.no]
theorem rbel_rest (op : Int) : [14, 15, 27, 18, 19, 20, 21, 22, 23, 24, 26, 29].all (fun c : Int => op != c) = true → rbel op = 0 :=
  op_all (fun op => [14, 15, 27, 18, 19, 20, 21, 22, 23, 24, 26, 29].all (fun c : Int => op != c) = true → rbel op = 0) (fun op h _ => by exact rbel_out h) (by decide) op
set_option maxHeartbeats 4000000 in
theorem below_any (op : Int) (w : World) : Calls Tryd.prog 43 #[.int .i64 op] w fun e w' => e = .returned (.int .i64 (rbel op)) ∧ Grew w w' := by
  go_enter Tryd.func43, Tryd.ntmps43
  go_wp2
  all_goals (rename_i hl; go_ret; refine ⟨ret_i64 (b := rbel op) ?_, Grew.refl _⟩)
  all_goals first
    | (obtain rfl := eq_of_beq hl; decide)
    | exact (rbel_rest op (by simp [bne, *])).symm

theorem rwr_rest (op : Int) : [24, 25, 15, 17, 26, 27, 28].all (fun c : Int => op != c) = true → (cst op).2.2 = 0 :=
  op_all (fun op => [24, 25, 15, 17, 26, 27, 28].all (fun c : Int => op != c) = true → (cst op).2.2 = 0) (fun op h _ => by rw [cst_out h]) (by decide) op
set_option maxHeartbeats 4000000 in
theorem rwrites_any (op : Int) (w : World) : Calls Tryd.prog 23 #[.int .i64 op] w fun e w' => e = .returned (.int .i64 (cst op).2.2) ∧ Grew w w' := by
  go_enter Tryd.func23, Tryd.ntmps23
  go_wp2
  all_goals (rename_i hl; go_ret; refine ⟨ret_i64 (b := (cst op).2.2) ?_, Grew.refl _⟩)
  all_goals first
    | (obtain rfl := eq_of_beq hl; decide)
    | exact (rwr_rest op (by simp [bne, *])).symm

theorem mncell (k : Nat) (hk : k < 31) (w : World) : (w.alloc (.cells #[.string ⟨#[]⟩, .string ⟨#[104, 97, 108, 116]⟩, .string ⟨#[109, 111, 118, 105]⟩, .string ⟨#[109, 111, 118]⟩, .string ⟨#[110, 101, 103]⟩, .string ⟨#[110, 111, 116]⟩, .string ⟨#[97, 100, 100]⟩, .string ⟨#[115, 117, 98]⟩, .string ⟨#[109, 117, 108]⟩, .string ⟨#[100, 105, 118]⟩, .string ⟨#[109, 111, 100]⟩, .string ⟨#[101, 113]⟩, .string ⟨#[108, 116]⟩, .string ⟨#[108, 101]⟩, .string ⟨#[108, 111, 97, 100]⟩, .string ⟨#[115, 116, 111, 114, 101]⟩, .string ⟨#[108, 111, 97, 100, 120]⟩, .string ⟨#[115, 116, 111, 114, 101, 120]⟩, .string ⟨#[105, 110, 100, 101, 120]⟩, .string ⟨#[115, 112, 105, 108, 108]⟩, .string ⟨#[102, 105, 108, 108]⟩, .string ⟨#[106, 117, 109, 112]⟩, .string ⟨#[106, 117, 109, 112, 122]⟩, .string ⟨#[114, 101, 97, 100]⟩, .string ⟨#[115, 101, 110, 100]⟩, .string ⟨#[101, 109, 105, 116]⟩, .string ⟨#[111, 117, 116]⟩, .string ⟨#[108, 111, 103]⟩, .string ⟨#[108, 111, 103, 120]⟩, .string ⟨#[99, 111, 109, 109, 105, 116]⟩, .string ⟨#[110, 111, 112]⟩] 9)).cell? ⟨w.heap.size, k, none⟩ = some (.string ⟨(opr (k : Int)).mn.toArray⟩) := by
  have h0 : (#[.string ⟨#[]⟩, .string ⟨#[104, 97, 108, 116]⟩, .string ⟨#[109, 111, 118, 105]⟩, .string ⟨#[109, 111, 118]⟩, .string ⟨#[110, 101, 103]⟩, .string ⟨#[110, 111, 116]⟩, .string ⟨#[97, 100, 100]⟩, .string ⟨#[115, 117, 98]⟩, .string ⟨#[109, 117, 108]⟩, .string ⟨#[100, 105, 118]⟩, .string ⟨#[109, 111, 100]⟩, .string ⟨#[101, 113]⟩, .string ⟨#[108, 116]⟩, .string ⟨#[108, 101]⟩, .string ⟨#[108, 111, 97, 100]⟩, .string ⟨#[115, 116, 111, 114, 101]⟩, .string ⟨#[108, 111, 97, 100, 120]⟩, .string ⟨#[115, 116, 111, 114, 101, 120]⟩, .string ⟨#[105, 110, 100, 101, 120]⟩, .string ⟨#[115, 112, 105, 108, 108]⟩, .string ⟨#[102, 105, 108, 108]⟩, .string ⟨#[106, 117, 109, 112]⟩, .string ⟨#[106, 117, 109, 112, 122]⟩, .string ⟨#[114, 101, 97, 100]⟩, .string ⟨#[115, 101, 110, 100]⟩, .string ⟨#[101, 109, 105, 116]⟩, .string ⟨#[111, 117, 116]⟩, .string ⟨#[108, 111, 103]⟩, .string ⟨#[108, 111, 103, 120]⟩, .string ⟨#[99, 111, 109, 109, 105, 116]⟩, .string ⟨#[110, 111, 112]⟩] : Array Value) = (oprs.map (fun o => Value.string ⟨o.mn.toArray⟩)).toArray := rfl
  have hl : k < oprs.length := hk
  have h2 : oprs[k]? = some (opr (k : Int)) := by
    unfold opr
    simp only [Int.toNat_natCast, List.getD, List.getElem?_eq_getElem hl, Option.getD_some]
  have h3 := (Blk.new w (oprs.map (fun o => Value.string ⟨o.mn.toArray⟩)) 9).cell k
  rw [h0, h3, List.getElem?_map, h2]
  rfl
set_option maxHeartbeats 4000000 in
theorem mnemonic_any (op : Int) (w : World) : Calls Tryd.prog 39 #[.int .i64 op] w fun e w' => e = .returned (.string ⟨(opr op).mn.toArray⟩) ∧ Grew w w' := by
  by_cases h1 : op < 1
  · have HE := Lib.hid (show [] = (opr op).mn by
      rcases Int.lt_or_eq_of_le (show op ≤ 0 by omega) with h | rfl
      · rw [opr_out (.inl h)]; rfl
      · rfl)
    go_enter Tryd.func39, Tryd.ntmps39
    go_wp2
    go_ret
    exact ⟨bytes_eq HE.out, (Grew.refl _).alloc _⟩
  · by_cases h2 : 31 ≤ op
    · have HE := Lib.hid (show [] = (opr op).mn by rw [opr_out (.inr h2)]; rfl)
      go_enter Tryd.func39, Tryd.ntmps39
      go_wp2
      go_ret
      exact ⟨bytes_eq HE.out, (Grew.refl _).alloc _⟩
    · obtain ⟨k, hk, rfl⟩ : ∃ k : Nat, k < 31 ∧ op = k := ⟨op.toNat, by omega, by omega⟩
      have HC := Lib.hid (mncell k hk w)
      go_enter Tryd.func39, Tryd.ntmps39
      go_upto_region 2 with fail
      have hg := (Grew.refl w).alloc (.cells #[.string ⟨#[]⟩, .string ⟨#[104, 97, 108, 116]⟩, .string ⟨#[109, 111, 118, 105]⟩, .string ⟨#[109, 111, 118]⟩, .string ⟨#[110, 101, 103]⟩, .string ⟨#[110, 111, 116]⟩, .string ⟨#[97, 100, 100]⟩, .string ⟨#[115, 117, 98]⟩, .string ⟨#[109, 117, 108]⟩, .string ⟨#[100, 105, 118]⟩, .string ⟨#[109, 111, 100]⟩, .string ⟨#[101, 113]⟩, .string ⟨#[108, 116]⟩, .string ⟨#[108, 101]⟩, .string ⟨#[108, 111, 97, 100]⟩, .string ⟨#[115, 116, 111, 114, 101]⟩, .string ⟨#[108, 111, 97, 100, 120]⟩, .string ⟨#[115, 116, 111, 114, 101, 120]⟩, .string ⟨#[105, 110, 100, 101, 120]⟩, .string ⟨#[115, 112, 105, 108, 108]⟩, .string ⟨#[102, 105, 108, 108]⟩, .string ⟨#[106, 117, 109, 112]⟩, .string ⟨#[106, 117, 109, 112, 122]⟩, .string ⟨#[114, 101, 97, 100]⟩, .string ⟨#[115, 101, 110, 100]⟩, .string ⟨#[101, 109, 105, 116]⟩, .string ⟨#[111, 117, 116]⟩, .string ⟨#[108, 111, 103]⟩, .string ⟨#[108, 111, 103, 120]⟩, .string ⟨#[99, 111, 109, 109, 105, 116]⟩, .string ⟨#[110, 111, 112]⟩] 9)
      generalize hV : World.alloc _ _ = V at HC hg ⊢
      clear hV
      have hc := HC.out
      have b0 : ¬ (k : Int) < 1 := h1
      go_wp2
      go_ret
      exact ⟨rfl, hg⟩
theorem ren0 (op : Int) : [23, 24, 25, 26, 27, 28, 15, 17, 29].all (fun c : Int => op != c) = true → (opr op).mn.isEmpty = true → (cst op).1 = 0 :=
  op_all (fun op => [23, 24, 25, 26, 27, 28, 15, 17, 29].all (fun c : Int => op != c) = true → (opr op).mn.isEmpty = true → (cst op).1 = 0) (fun op h _ => by intro _; rw [cst_out h]) (by decide) op
theorem ren1 (op : Int) : [23, 24, 25, 26, 27, 28, 15, 17, 29].all (fun c : Int => op != c) = true → (opr op).mn.isEmpty = false → (cst op).1 = 1 :=
  op_all (fun op => [23, 24, 25, 26, 27, 28, 15, 17, 29].all (fun c : Int => op != c) = true → (opr op).mn.isEmpty = false → (cst op).1 = 1) (fun op h _ => by intro h1; rw [opr_out h] at h1; cases h1) (by decide) op
set_option maxHeartbeats 4000000 in
theorem renergy_any (op : Int) (w : World) : Calls Tryd.prog 19 #[.int .i64 op] w fun e w' => e = .returned (.int .i64 ((cst op).1)) ∧ Grew w w' := by
  go_enter Tryd.func19, Tryd.ntmps19
  go_wp2_with (go_at_call 39; (with_reducible refine (mnemonic_any op _).mono ?_); rintro e w1 ⟨rfl, g1⟩; have HB := Lib.hid g1; clear g1)
  all_goals (rename_i hl; go_ret; refine ⟨ret_i64 (b := (cst op).1) ?_, by first | exact Grew.refl _ | exact HB.out⟩)
  all_goals first
    | (obtain rfl := eq_of_beq hl; decide)
    | exact (ren0 op (by simp [bne, *]) (by assumption)).symm
    | exact (ren1 op (by simp [bne, *]) (by assumption)).symm

theorem rti0 (op : Int) : [23, 27, 28, 15, 17, 24, 25, 26, 29].all (fun c : Int => op != c) = true → (opr op).mn.isEmpty = true → (cst op).2.1 = 0 :=
  op_all (fun op => [23, 27, 28, 15, 17, 24, 25, 26, 29].all (fun c : Int => op != c) = true → (opr op).mn.isEmpty = true → (cst op).2.1 = 0) (fun op h _ => by intro _; rw [cst_out h]) (by decide) op
theorem rti1 (op : Int) : [23, 27, 28, 15, 17, 24, 25, 26, 29].all (fun c : Int => op != c) = true → (opr op).mn.isEmpty = false → (cst op).2.1 = 1 :=
  op_all (fun op => [23, 27, 28, 15, 17, 24, 25, 26, 29].all (fun c : Int => op != c) = true → (opr op).mn.isEmpty = false → (cst op).2.1 = 1) (fun op h _ => by intro h1; rw [opr_out h] at h1; cases h1) (by decide) op
set_option maxHeartbeats 4000000 in
theorem rticks_any (op : Int) (w : World) : Calls Tryd.prog 21 #[.int .i64 op] w fun e w' => e = .returned (.int .i64 ((cst op).2.1)) ∧ Grew w w' := by
  go_enter Tryd.func21, Tryd.ntmps21
  go_wp2_with (go_at_call 39; (with_reducible refine (mnemonic_any op _).mono ?_); rintro e w1 ⟨rfl, g1⟩; have HB := Lib.hid g1; clear g1)
  all_goals (rename_i hl; go_ret; refine ⟨ret_i64 (b := (cst op).2.1) ?_, by first | exact Grew.refl _ | exact HB.out⟩)
  all_goals first
    | (obtain rfl := eq_of_beq hl; decide)
    | exact (rti0 op (by simp [bne, *]) (by assumption)).symm
    | exact (rti1 op (by simp [bne, *]) (by assumption)).symm

theorem has_any (s : ByteArray) (c : UInt8) (hs : s.size ≤ 1000) (w : World) : Calls Tryd.prog 42 #[.string s, .int .u8 c.toNat] w fun e w' => e = .returned (.bool (s.data.toList.contains c)) ∧ Grew w w' := by
  go_enter Tryd.func42, Tryd.ntmps42
  go_wp2
  go_loopg [5] s.size (fun gg iv wr => ∃ k : Nat, iv = .int .i64 (k : Int) ∧ k ≤ s.size ∧ gg = s.size - k ∧ Hid (c ∉ s.data.toList.take k) ∧ wr = w)
  case atStart => exact ⟨0, rfl, Nat.zero_le _, rfl, Lib.hid (by simp), rfl⟩
  case round =>
    obtain ⟨k, rfl, hk, rfl, HT, rfl⟩ := hrel
    by_cases hlt : k < s.size
    · have HS := Lib.hid (take_snoc s k hlt)
      have HM : Hid (s[k] ∈ s.data.toList) := Lib.hid (List.getElem_mem (l := s.data.toList) (n := k) hlt)
      by_cases he : s[k] = c
      · have HE := Lib.hid he
        have h1 : (((s[k]).toNat : Int) == (c.toNat : Int)) = true := by rw [he]; simp
        clear he
        go_wp2
        go_ret
        exact ⟨ret_bool (by rw [List.contains_iff_mem.2 (HE.out ▸ HM.out)]), Grew.refl _⟩
      · have HE := Lib.hid he
        have h1 : (((s[k]).toNat : Int) == (c.toNat : Int)) = false := by
          cases h : (((s[k]).toNat : Int) == (c.toNat : Int))
          · rfl
          · exact absurd (UInt8.toNat_inj.1 (by have := eq_of_beq h; omega)) he
        clear he
        go_wp2
        go_roundg (s.size - (k + 1))
        case measure => omega
        case rel => exact ⟨k + 1, (by go_num), hlt, rfl, Lib.hid (by rw [HS.out]; intro hm; rcases List.mem_append.1 hm with hm | hm; exact HT.out hm; exact HE.out (List.mem_singleton.1 hm).symm), rfl⟩
    · have HE := Lib.hid (show s.data.toList.take k = s.data.toList from List.take_of_length_le (by show s.data.toList.length ≤ k; simp; omega))
      go_wp2
      go_ret
      exact ⟨ret_bool (by have := HT.out; rw [HE.out] at this; simpa using this), Grew.refl _⟩
end Go.Proofs.YtddffijipphfeaaDoor
