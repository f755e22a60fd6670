/-
  LAYER 15: firstIs, separable.
-/
import Derived.Test.YtcajamgajchheaaDoorLxErrR
namespace Go.Proofs.YtcajamgajchheaaDoor
open Go Go.RowKit Go.IntWalk
set_option linter.unusedSimpArgs false
set_option linter.unusedVariables false
set_option maxRecDepth 8000

/-- Whether a text begins with a token, and t is the text of it. -/
def fis (xs t : List UInt8) : Bool := sk false xs == xs && ft xs == t
theorem bl_fix (xs : List UInt8) : (bl xs = 0) ↔ sk false xs = xs := by
  constructor
  · intro h
    have h1 := sk_bl xs
    rw [h, List.drop_zero] at h1
    exact h1
  · exact bl_zero
theorem firstIs_any (s t : ByteArray) (hs : s.size ≤ 100000) (hn : s.data.toList ≠ []) (w : World) (hE : Env w) : Calls Tryd.prog 49 #[.string s, .string t] w fun e w' => e = .returned (.bool (fis s.data.toList t.data.toList)) ∧ Grew w w' := by
  have HE := Lib.hid hE
  have HS := Lib.hid (fun W => skipped_any s hs W)
  have hb : bl s.data.toList ≤ s.size := bl_le s.data.toList
  have hfx := bl_fix s.data.toList
  have HF := Lib.hid (fun W (h : Env W) => first_any s hs hn W h)
  have hfe : ∀ b, fis s.data.toList t.data.toList = b → fis s.data.toList t.data.toList = b := fun b h => h
  by_cases h0 : bl s.data.toList = 0
  · rw [h0] at HS
    have hv : ∀ T : ByteArray, (⟨(ft s.data.toList).toArray⟩ : ByteArray) = T → (T.toList == t.toList) = fis s.data.toList t.data.toList := fun T hT => by
      rw [fis, hfx.1 h0, ByteArray.toList_eq, ByteArray.toList_eq, ← hT]
      simp
    obtain ⟨T, hT⟩ : ∃ T : ByteArray, (⟨(ft s.data.toList).toArray⟩ : ByteArray) = T := ⟨_, rfl⟩
    have hv1 := hv T hT
    rw [hT] at HF
    obtain ⟨kk, hkk⟩ : ∃ kk, kd (ft s.data.toList) = kk := ⟨_, rfl⟩
    obtain ⟨vv, hvv⟩ : ∃ vv, vl (ft s.data.toList) = vv := ⟨_, rfl⟩
    rw [hkk, hvv] at HF
    have hfld : ∀ W, Sem.run Tryd.prog (Instr.field 41 (.agg #[.int .i64 kk, .string T, .int .i16 vv, .int .i64 0]) 1) W = .ok (.string T) W := fun W => by kernel_rfl
    obtain ⟨b, hbb⟩ : ∃ b, fis s.data.toList t.data.toList = b := ⟨_, rfl⟩
    rw [hbb] at hv1 ⊢
    clear hv hT hkk hvv hfe hbb hfx hb hE hn h0
    go_enter Tryd.func49, Tryd.ntmps49
    go_wp2_with (first
      | (go_at_call 26; (with_reducible refine (HS.out _).mono ?_); rintro e w1 ⟨rfl, g1⟩; have HG1 := Lib.hid g1; clear g1)
      | (go_at_call 27; (with_reducible refine (HF.out _ (HE.out.grew HG1.out)).mono ?_); rintro e w2 ⟨rfl, g2⟩; have HG2 := Lib.hid (HG1.out.trans g2); clear g2))
    go_ret
    exact ⟨ret_bool (by first | exact hv1 | rfl), HG2.out⟩
  · have hv : fis s.data.toList t.data.toList = false := by
      rw [fis]
      have : (sk false s.data.toList == s.data.toList) = false := beq_eq_false_iff_ne.2 (fun h => h0 (hfx.2 h))
      rw [this]; rfl
    rw [hv]
    generalize bl s.data.toList = m at *
    have hm : ((m : Int) == 0) = false := beq_eq_false_iff_ne.2 (by omega)
    clear hfx hv hfe hE hn HF
    go_enter Tryd.func49, Tryd.ntmps49
    go_wp2_with (go_at_call 26; (with_reducible refine (HS.out _).mono ?_); rintro e w1 ⟨rfl, g1⟩; have HG1 := Lib.hid g1; clear g1)
    all_goals first | (exfalso; omega) | skip
    go_ret
    exact ⟨rfl, HG1.out⟩
theorem append_list (a b : ByteArray) : (a ++ b).data.toList = a.data.toList ++ b.data.toList := by simp
theorem sep_any (a b : ByteArray) (hs : a.size + b.size ≤ 100000) (ha : a.data.toList ≠ []) (hb : b.data.toList ≠ []) (w : World) (hE : Env w) : Calls Tryd.prog 33 #[.string a, .string b] w fun e w' => e = .returned (.bool (sep a.data.toList b.data.toList)) ∧ Grew w w' := by
  have HE := Lib.hid hE
  have H1 := Lib.hid (fun W (h : Env W) => firstIs_any (a ++ b) a (by rw [ByteArray.size_append]; exact hs) (by rw [append_list]; simp [ha]) W h)
  have H2 := Lib.hid (fun W (h : Env W) => firstIs_any b b (by omega) hb W h)
  have hv : sep a.data.toList b.data.toList = (fis (a ++ b).data.toList a.data.toList && fis b.data.toList b.data.toList) := by
    rw [sep, fis, fis, append_list]
  rw [hv]
  generalize fis b.data.toList b.data.toList = b2 at *
  clear hv hE ha hb
  cases hb1 : fis (a ++ b).data.toList a.data.toList with
  | true =>
    rw [hb1] at H1
    clear hb1
    rw [Bool.true_and]
    go_enter Tryd.func33, Tryd.ntmps33
    go_wp2_with (first
      | (go_at_call 49; (with_reducible refine (H1.out _ HE.out).mono ?_); rintro e w1 ⟨rfl, g1⟩; have HG1 := Lib.hid g1; clear g1)
      | (go_at_call 49; (with_reducible refine (H2.out _ (HE.out.grew HG1.out)).mono ?_); rintro e w2 ⟨rfl, g2⟩; have HG2 := Lib.hid (HG1.out.trans g2); clear g2))
    go_ret
    exact ⟨rfl, HG2.out⟩
  | false =>
    rw [hb1] at H1
    clear hb1
    rw [Bool.false_and]
    go_enter Tryd.func33, Tryd.ntmps33
    go_wp2_with (go_at_call 49; (with_reducible refine (H1.out _ HE.out).mono ?_); rintro e w1 ⟨rfl, g1⟩; have HG1 := Lib.hid g1; clear g1)
    go_ret
    exact ⟨rfl, HG1.out⟩
end Go.Proofs.YtcajamgajchheaaDoor
