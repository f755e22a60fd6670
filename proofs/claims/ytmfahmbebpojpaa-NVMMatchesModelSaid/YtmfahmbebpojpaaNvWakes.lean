/-
  LAYER 7 (nvm): the document's example.
-/
import Derived.Test.YtmfahmbebpojpaaNvMake
namespace Go.Proofs.Ytmfahmbebpojpaa
open Go Go.RowKit Go.IntWalk
set_option linter.unusedSimpArgs false
set_option maxRecDepth 8000

theorem wk_write : wrs { nv0 4 with left := 1 } 0 (wordB 513) = (⟨[1, 0, 0, 0], true, 0, .no, 1⟩, false) := by
  have h0 : wrap64 0 = 0 := wrap64_in _ (by omega)
  have h1 : wrap64 1 = 1 := wrap64_in _ (by omega)
  simp [wrs, wrL, wr1, validB, wordB, nv0, Mt.pays, Mt.spent, h0, h1]
/-- A step of a law: the world has changed in the memory's blocks alone, which are new. -/
theorem wakes_any (w : World) : Calls Try.prog 9 #[] w fun e w' => e = .returned (.bool true) ∧ Grew w w' := by
  have HWW : ∀ (g q : Nat) (W : World), NvS W g q { nv0 4 with left := 1 } → Calls Try.prog 25 #[.pointer (some ⟨q, 0, none⟩), .int .i64 0, .int .i16 513] W fun e w' => e = .returned (.bool false) ∧ NvS w' g q ⟨[1, 0, 0, 0], true, 0, .no, 1⟩ ∧ Chg W w' (Nvb g q .no) := fun g q W h => by
    have := writeWord_any g q _ 0 513 W h
    rw [wk_write] at this
    exact this
  have HRW : rdw ⟨[1, 0, 0, 0], false, -1, .no, 1⟩ 0 = 1 := by decide
  go_enter Try.func9, Try.ntmps9
  have HB := Lib.hid (Grew.refl w)
  go_wp2_with (first
    | (go_at_call 11; (with_reducible refine (new_any 4 _ (by omega)).mono ?_); rintro e w1 ⟨g, q, rfl, s1, g1, hg, hq⟩; have HS := Lib.hid s1; replace HB := Lib.hid g1; have HN : Hid (∀ k, Nvb g q .no k → w.heap.size ≤ k) := Lib.hid (fun k hk => by rcases hk with rfl | rfl | hk <;> first | omega | exact hk.elim); clear s1 g1 hg hq)
    | (go_at_call 15; (with_reducible refine (arm_any g q _ 1 _ HS.out).mono ?_); rintro e w1 ⟨rfl, s1, c1⟩; replace HB := Lib.hid (below_lift HB.out c1 HN.out (Nat.le_refl _)); replace HS := Lib.hid s1; clear s1 c1)
    | (go_at_call 25; (with_reducible refine (HWW g q _ HS.out).mono ?_); rintro e w1 ⟨rfl, s1, c1⟩; replace HB := Lib.hid (below_lift HB.out c1 HN.out (Nat.le_refl _)); replace HS := Lib.hid s1; clear s1 c1)
    | (go_at_call 17; (with_reducible refine (off_any g q _ _ HS.out).mono ?_); rintro e _ ⟨rfl, rfl⟩)
    | (go_at_call 20; (with_reducible refine (pon_any g q _ _ HS.out).mono ?_); rintro e w1 ⟨rfl, s1, c1⟩; replace HB := Lib.hid (below_lift HB.out c1 HN.out (Nat.le_refl _)); replace HS := Lib.hid s1; clear s1 c1)
    | (go_at_call 26; (with_reducible refine (readWord_any g q _ 0 _ HS.out).mono ?_); rintro e w1 ⟨rfl, g1⟩; replace HB := Lib.hid (Grew.trans HB.out g1); replace HS := Lib.hid (HS.out.grew g1); clear g1)
    | (go_at_call 18; (with_reducible refine (writes_any g q _ _ HS.out).mono ?_); rintro e _ ⟨rfl, rfl⟩))
  go_ret
  exact ⟨rfl, HB.out⟩
end Go.Proofs.Ytmfahmbebpojpaa
