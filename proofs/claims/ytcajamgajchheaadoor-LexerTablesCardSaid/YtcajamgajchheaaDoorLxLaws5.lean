/-
  THE STATEMENT LexerTables OF LAYER 15, WALKED.
-/
import Derived.Test.YtcajamgajchheaaDoorLxLaws3
import Derived.Test.YtcajamgajchheaaDoorLxTab
namespace Go.Proofs.YtcajamgajchheaaDoor
open Go Go.RowKit Go.IntWalk
set_option linter.unusedSimpArgs false
set_option linter.unusedVariables false
set_option maxRecDepth 8000
section
variable {dst : Option Tmp} {ty : TypeId} {pos : String} {after : Array Edge} {g : Option (Nat × Bool)} {a : Act} {w : World} {T : Value → World → Prop}
theorem rn_cv_5_3 {x : Operand} {z : Int} (hx : a.eval x = .int .u8 z) (hb : -9223372036854775808 ≤ z ∧ z ≤ 9223372036854775807) (h : T (.int .i64 z) w) : Runs Tryd.prog ⟨dst, .convert 5 3 x, ty, pos, after, g⟩ a w T := by
  refine Runs.value (v := .int .i64 z) (w' := w) ?_ h
  have hw : IntKind.i64.wrap z = z := IntWalk.i64_in _ hb
  simp only [execOp, hx]
  go_simp
theorem rn_len_43 {x : Operand} {p : Option Addr} {n c : Nat} (hx : a.eval x = .slice p n c) (h : T (.int .i64 (n : Nat)) w) : Runs Tryd.prog ⟨dst, .call { callee := .builtin .len, args := #[x], argTypes := #[43] }, ty, pos, after, g⟩ a w T := by
  refine Runs.value (v := .int .i64 (n : Nat)) (w' := w) ?_ h
  simp [execOp, resolve, invoke, builtin, hx, Result.andThen]
  go_simp
theorem rn_st_9 {x y : Operand} {q : Addr} {z : ByteArray} {v' : Value} (hx : a.eval x = .pointer (some q)) (hy : a.eval y = (.string z)) (hc : w.cell? q = some v') (hf : w.frozen? q = false) (h : T undef (w.setCell q (.string z))) : Runs Tryd.prog ⟨dst, .store 9 x y, ty, pos, after, g⟩ a w T := by
  refine Runs.skip (w' := w.setCell q (.string z)) ?_ h
  simp only [execOp, hx, hy]
  go_simp
end

section
variable {dst : Option Tmp} {ty : TypeId} {pos : String} {after : Array Edge} {g : Option (Nat × Bool)} {a : Act} {w : World} {T : Value → World → Prop}
theorem runs_rem {x y : Operand} {m n : Nat} (hx : a.eval x = .int .i64 ((m : Nat) : Int)) (hy : a.eval y = .int .i64 ((n : Nat) : Int)) (hn : 0 < n) (hb : m ≤ 1000) (h : T (.int .i64 (((m % n : Nat)) : Int)) w) : Runs Tryd.prog ⟨dst, .binOp .rem 3 x y 3, ty, pos, after, g⟩ a w T := by
  have hne : ¬ ((n : Int) = 0) := by omega
  have hlt : m % n ≤ m := Nat.mod_le _ _
  have hw : ((m : Int).tmod (n : Int)) = ((m % n : Nat) : Int) := by rw [Int.tmod_eq_emod_of_nonneg (by omega)]; rfl
  refine Runs.value (v := .int .i64 (((m % n : Nat)) : Int)) (w' := w) ?_ h
  simp only [execOp, hx, hy]
  go_simp
  first | done | omega
end
theorem scan_kw : ∀ (k : Nat) (_ : k < 22), scan (kwl.getD k []) = [⟨3, ⟨(kwl.getD k []).toArray⟩, 0, 0⟩, ⟨0, ⟨#[]⟩, 0, ((kwl.getD k []).length : Nat)⟩]
  | 0, _ => by kernel_rfl
  | 1, _ => by kernel_rfl
  | 2, _ => by kernel_rfl
  | 3, _ => by kernel_rfl
  | 4, _ => by kernel_rfl
  | 5, _ => by kernel_rfl
  | 6, _ => by kernel_rfl
  | 7, _ => by kernel_rfl
  | 8, _ => by kernel_rfl
  | 9, _ => by kernel_rfl
  | 10, _ => by kernel_rfl
  | 11, _ => by kernel_rfl
  | 12, _ => by kernel_rfl
  | 13, _ => by kernel_rfl
  | 14, _ => by kernel_rfl
  | 15, _ => by kernel_rfl
  | 16, _ => by kernel_rfl
  | 17, _ => by kernel_rfl
  | 18, _ => by kernel_rfl
  | 19, _ => by kernel_rfl
  | 20, _ => by kernel_rfl
  | 21, _ => by kernel_rfl
  | k + 22, h => absurd h (by omega)
theorem scan_mk : ∀ (k : Nat) (_ : k < 23), scan (mks.getD k []) = [⟨4, ⟨(mks.getD k []).toArray⟩, 0, 0⟩, ⟨0, ⟨#[]⟩, 0, ((mks.getD k []).length : Nat)⟩]
  | 0, _ => by kernel_rfl
  | 1, _ => by kernel_rfl
  | 2, _ => by kernel_rfl
  | 3, _ => by kernel_rfl
  | 4, _ => by kernel_rfl
  | 5, _ => by kernel_rfl
  | 6, _ => by kernel_rfl
  | 7, _ => by kernel_rfl
  | 8, _ => by kernel_rfl
  | 9, _ => by kernel_rfl
  | 10, _ => by kernel_rfl
  | 11, _ => by kernel_rfl
  | 12, _ => by kernel_rfl
  | 13, _ => by kernel_rfl
  | 14, _ => by kernel_rfl
  | 15, _ => by kernel_rfl
  | 16, _ => by kernel_rfl
  | 17, _ => by kernel_rfl
  | 18, _ => by kernel_rfl
  | 19, _ => by kernel_rfl
  | 20, _ => by kernel_rfl
  | 21, _ => by kernel_rfl
  | 22, _ => by kernel_rfl
  | k + 23, h => absurd h (by omega)
/-- A box of strings reads as a slice of them. -/
theorem rw_box {S n : Nat} {L : List (List UInt8)} {e : TypeId} {w : World} (h : Blk S (L.map (fun l => Value.string ⟨l.toArray⟩)) e w) (hn : L.length = n) (hb : n ≤ 1000) : Rw 1 stc w (some ⟨S, 0, none⟩) n (L.map (fun l => (⟨l.toArray⟩ : ByteArray))) := by
  refine ⟨⟨by simp [hn], by omega, fun _ => ⟨S, 0, rfl, fun i x hx j v hv => ?_⟩⟩, fun h => by cases h⟩
  have hj : j = 0 := by
    have := (List.getElem?_eq_some_iff.1 hv).1
    simp at this
    exact this
  subst hj
  obtain rfl : Value.string x = v := by simpa using hv
  have h1 := h.cell i
  rw [List.getElem?_map] at h1
  rw [List.getElem?_map] at hx
  cases hl : L[i]? with
  | none => rw [hl] at hx; cases hx
  | some l =>
    rw [hl] at hx h1
    obtain rfl : (⟨l.toArray⟩ : ByteArray) = x := Option.some.inj hx
    simpa using h1
theorem tok_apart {p : Option Addr} {c : Nat} {xs : List Tk} {w w' : World} {S1 S2 : Nat} {L1 L2 : List (List UInt8)} {e1 e2 : TypeId} (h : Rw 4 tkc w p c xs) (h1 : Blk S1 (L1.map (fun l => Value.string ⟨l.toArray⟩)) e1 w) (h2 : Blk S2 (L2.map (fun l => Value.string ⟨l.toArray⟩)) e2 w) (hc : Chg w w' (fun k => k = S1 ∨ k = S2)) : Rw 4 tkc w' p c xs := by
  refine h.keep fun hn b o hp hl => hc.block b hl fun hs => ?_
  subst hp
  have h0 := h.cell (List.getElem?_eq_getElem hn) (j := 0) rfl
  have key : ∀ (S : Nat) (L : List (List UInt8)) (e : TypeId), Blk S (L.map (fun l => Value.string ⟨l.toArray⟩)) e w → b = S → False := fun S L e hb hbs => by
    subst hbs
    have h9 := hb.cell (o + 0 * 4 + 0)
    rw [h9, List.getElem?_map] at h0
    cases hl : L[o + 0 * 4 + 0]? with
    | none => rw [hl] at h0; cases h0
    | some l => rw [hl] at h0; simp at h0
  rcases hs with hs | hs
  · exact key S1 L1 e1 h1 hs
  · exact key S2 L2 e2 h2 hs
theorem scan_kwb {k : Nat} (hk : k < 22) {X : ByteArray} (hX : (⟨(kwl.getD k []).toArray⟩ : ByteArray) = X) : ∃ z, scan X.data.toList = [⟨3, X, 0, 0⟩, ⟨0, ⟨#[]⟩, 0, z⟩] := by
  subst hX
  exact ⟨_, scan_kw k hk⟩
theorem scan_mkb {k : Nat} (hk : k < 23) {X : ByteArray} (hX : (⟨(mks.getD k []).toArray⟩ : ByteArray) = X) : ∃ z, scan X.data.toList = [⟨4, X, 0, 0⟩, ⟨0, ⟨#[]⟩, 0, z⟩] := by
  subst hX
  exact ⟨_, scan_mk k hk⟩
theorem kw_sz {k : Nat} (hk : k < 22) : (kwl.getD k []).length ≤ 100 := by
  have h3 : ∀ k : Fin 22, (kwl.getD k.val []).length ≤ 100 := by decide
  exact h3 ⟨k, hk⟩
theorem mk_sz {k : Nat} (hk : k < 23) : (mks.getD k []).length ≤ 100 := by
  have h3 : ∀ k : Fin 23, (mks.getD k.val []).length ≤ 100 := by decide
  exact h3 ⟨k, hk⟩
theorem samet_kw (p1 p2 : Option Addr) (c1 c2 : Nat) (w : World) (h1 : Rw 1 stc w p1 c1 kwb) (h2 : Rw 1 stc w p2 c2 kwb) : Calls Tryd.prog 23 #[.slice p1 22 c1, .slice p2 22 c2] w fun e w' => e = .returned (.bool true) ∧ Grew w w' := samet_any p1 p2 c1 c2 kwb w h1 h2
theorem samet_mk (p1 p2 : Option Addr) (c1 c2 : Nat) (w : World) (h1 : Rw 1 stc w p1 c1 mkb) (h2 : Rw 1 stc w p2 c2 mkb) : Calls Tryd.prog 23 #[.slice p1 23 c1, .slice p2 23 c2] w fun e w' => e = .returned (.bool true) ∧ Grew w w' := samet_any p1 p2 c1 c2 mkb w h1 h2
theorem kw_box {S : Nat} {e : TypeId} {w : World} (h : Blk S (kwl.map (fun l => Value.string ⟨l.toArray⟩)) e w) : Rw 1 stc w (some ⟨S, 0, none⟩) 22 kwb := rw_box h rfl (by decide)
theorem mk_box {S : Nat} {e : TypeId} {w : World} (h : Blk S (mks.map (fun l => Value.string ⟨l.toArray⟩)) e w) : Rw 1 stc w (some ⟨S, 0, none⟩) 23 mkb := rw_box h rfl (by decide)
/-- Only the two boxes have changed, and they are still there. -/
def Two2 (Sa Sb : Nat) (w w' : World) : Prop := Chg w w' (fun k => k = Sa ∨ k = Sb) ∧ ((∃ vs : List Value, vs.length = 22 ∧ Blk Sa vs 63 w) → ∃ vs : List Value, vs.length = 22 ∧ Blk Sa vs 63 w') ∧ ((∃ vs : List Value, vs.length = 23 ∧ Blk Sb vs 64 w) → ∃ vs : List Value, vs.length = 23 ∧ Blk Sb vs 64 w')
theorem Two2.refl {Sa Sb : Nat} (w : World) : Two2 Sa Sb w w := ⟨Chg.refl _ _, fun h => h, fun h => h⟩
theorem Two2.trans {Sa Sb : Nat} {a b c : World} (h : Two2 Sa Sb a b) (h' : Two2 Sa Sb b c) : Two2 Sa Sb a c := ⟨h.1.trans h'.1, fun x => h'.2.1 (h.2.1 x), fun x => h'.2.2 (h.2.2 x)⟩
set_option maxHeartbeats 8000000 in
theorem tables_law (k : Nat) (W : World) (hk : k ≤ 255) (he : Env W) : Calls Tryd.prog 9 #[.int .u8 (k : Int)] W fun e w' => e = .returned (.bool true) ∧ Grew W w' := by
  have HE := Lib.hid he
  have hnt := fun W => not_run true W
  rw [Bool.not_true] at hnt
  have h22 : k % 22 < 22 := Nat.mod_lt _ (by decide)
  have h23 : k % 23 < 23 := Nat.mod_lt _ (by decide)
  obtain ⟨X, hX⟩ : ∃ X : ByteArray, (⟨(kwl.getD (k % 22) []).toArray⟩ : ByteArray) = X := ⟨_, rfl⟩
  obtain ⟨Y, hY⟩ : ∃ Y : ByteArray, (⟨(mks.getD (k % 23) []).toArray⟩ : ByteArray) = Y := ⟨_, rfl⟩
  have hXz : X.size ≤ 100 := by rw [← hX]; exact kw_sz h22
  have hYz : Y.size ≤ 100 := by rw [← hY]; exact mk_sz h23
  obtain ⟨zx, hsx⟩ := scan_kwb h22 hX
  obtain ⟨zy, hsy⟩ := scan_mkb h23 hY
  have hcx : ∀ (S : Nat) (e : TypeId) (w : World), Blk S (kwl.map (fun l => Value.string ⟨l.toArray⟩)) e w → w.cell? ⟨S, k % 22, none⟩ = some (.string X) := fun S e w h => by
    rw [h.cell, List.getElem?_map, List.getElem?_eq_getElem (show k % 22 < kwl.length from h22)]
    rw [← hX, List.getD_eq_getElem?_getD, List.getElem?_eq_getElem (show k % 22 < kwl.length from h22)]
    rfl
  have hcy : ∀ (S : Nat) (e : TypeId) (w : World), Blk S (mks.map (fun l => Value.string ⟨l.toArray⟩)) e w → w.cell? ⟨S, k % 23, none⟩ = some (.string Y) := fun S e w h => by
    rw [h.cell, List.getElem?_map, List.getElem?_eq_getElem (show k % 23 < mks.length from h23)]
    rw [← hY, List.getD_eq_getElem?_getD, List.getElem?_eq_getElem (show k % 23 < mks.length from h23)]
    rfl
  have HS1 := Lib.hid (fun W h => scanP_any X (by omega) W h)
  have HS2 := Lib.hid (fun W h => scanP_any Y (by omega) W h)
  rw [hsx] at HS1
  rw [hsy] at HS2
  have HCX := Lib.hid hcx
  have HCY := Lib.hid hcy
  clear he hsx hsy hcx hcy hX hY
  go_enter Tryd.func9, Tryd.ntmps9
  go_upto_region 6 with (first
    | (go_at_call 10; (with_reducible refine (wakes_any _ HE.out).mono ?_); rintro e w1 ⟨rfl, g1⟩; have HG1 := Lib.hid g1; clear g1)
    | (go_at_call 21; (with_reducible refine (kwP_any _ (HE.out.grew HG1.out)).mono ?_); rintro e w2 ⟨Sa, rfl, hsa, hba, g2⟩; have HBA := Lib.hid hba; have HG2 := Lib.hid (HG1.out.trans g2); have HSA : Hid (W.heap.size ≤ Sa) := Lib.hid (Nat.le_trans HG1.out.sz hsa); clear g2 hba hsa)
    | (go_at_call 22; (with_reducible refine (mkP_any _ (HE.out.grew HG2.out)).mono ?_); rintro e w3 ⟨Sb, rfl, hsb, hbb, g3⟩; have HBB := Lib.hid hbb; have HNE : Hid (Sa ≠ Sb) := Lib.hid (by have := HBA.out.lt; omega); have HBA := Lib.hid (HBA.out.grew g3); have HG3 := Lib.hid (HG2.out.trans g3); have HSB : Hid (W.heap.size ≤ Sb) := Lib.hid (Nat.le_trans HG2.out.sz hsb); clear g3 hbb hsb)
    | (go_at_call 24; (with_reducible refine (rkw_any _).mono ?_); rintro e w4 ⟨p4, rfl, hr4, g4⟩; have HR4 := Lib.hid hr4; have HBA := Lib.hid (HBA.out.grew g4); have HBB := Lib.hid (HBB.out.grew g4); have HG4 := Lib.hid (HG3.out.trans g4); clear g4 hr4)
    | (go_at_call 23; (with_reducible refine (samet_kw _ _ _ _ _ (kw_box HBA.out) HR4.out).mono ?_); rintro e w5 ⟨rfl, g5⟩; have HBA := Lib.hid (HBA.out.grew g5); have HBB := Lib.hid (HBB.out.grew g5); have HG5 := Lib.hid (HG4.out.trans g5); clear g5)
    | (go_at_call 25; (with_reducible refine (rmk_any _).mono ?_); rintro e w6 ⟨p6, rfl, hr6, g6⟩; have HR6 := Lib.hid hr6; have HBA := Lib.hid (HBA.out.grew g6); have HBB := Lib.hid (HBB.out.grew g6); have HG6 := Lib.hid (HG5.out.trans g6); clear g6 hr6)
    | (go_at_call 23; (with_reducible refine (samet_mk _ _ _ _ _ (mk_box HBB.out) HR6.out).mono ?_); rintro e w7 ⟨rfl, g7⟩; have HBA := Lib.hid (HBA.out.grew g7); have HBB := Lib.hid (HBB.out.grew g7); have HG7 := Lib.hid (HG6.out.trans g7); clear g7))
  have qa : Atv ⟨Sa, 0 + k % 22, none⟩ (.string X) w7.drew := atv_of (Grew.refl _).drw (by rw [Nat.zero_add]; exact HCX.out _ _ _ HBA.out)
  have qb : Atv ⟨Sb, 0 + k % 23, none⟩ (.string Y) w7.drew := atv_of (Grew.refl _).drw (by rw [Nat.zero_add]; exact HCY.out _ _ _ HBB.out)
  refine wp_posts [some 23, some 24, some 25, some 26, some 27, some 28, some 29, some 30, some 31, some 32, some 33, some 34, some 35, some 36, some 37, some 38, some 5, some 6] [false, false, false, false, false, true, true, false, false, false, false, false, false, false, false, false, false, false, false, false, false, false, false, true, true, true, true, true, true, true, true, true, true, true, true, true, true, true, true, false, false, false, false, false, false, false, false, false, false, false, false, false, false, false, false, false, false, false, false, false, false, false, false, false, false, false, false, false, false, false, false, false, false, false, false, false, false, false, false, false, false, false, false, false, false, false, false, false, false, false, false, false, false, false, false, false, false, false, false, false, false, false, false, false, false] [fun v _ => v = .slice (some ⟨Sa, 0, none⟩) (22) (22), fun v _ => v = .int .u8 (((k : Nat) : Int)), fun v _ => v = .int .i64 (((k : Nat) : Int)), fun v _ => v = .slice (some ⟨Sa, 0, none⟩) (22) (22), fun v _ => v = .int .i64 (((22 : Nat) : Int)), fun v _ => v = .int .i64 (((k % 22 : Nat)) : Int), fun v _ => v = .pointer (some ⟨Sa, 0 + k % 22, none⟩), fun v _ => v = .string X, fun v _ => v = .slice (some ⟨Sb, 0, none⟩) (23) (23), fun v _ => v = .int .u8 (((k : Nat) : Int)), fun v _ => v = .int .i64 (((k : Nat) : Int)), fun v _ => v = .slice (some ⟨Sb, 0, none⟩) (23) (23), fun v _ => v = .int .i64 (((23 : Nat) : Int)), fun v _ => v = .int .i64 (((k % 23 : Nat)) : Int), fun v _ => v = .pointer (some ⟨Sb, 0 + k % 23, none⟩), fun v _ => v = .string Y, fun v _ => v = .string X, fun v _ => v = .string Y] (by kernel_rfl) (by kernel_rfl) rfl ?_ ⟨?_, ?_, ?_, ?_, ?_, ?_, ?_, ?_, ?_, ?_, ?_, ?_, ?_, ?_, ?_, ?_, ?_, ?_, trivial⟩ ?_
  · exact ⟨fun _ _ _ _ h => h, fun _ _ _ _ h => h, fun _ _ _ _ h => h, fun _ _ _ _ h => h, fun _ _ _ _ h => h, fun _ _ _ _ h => h, fun _ _ _ _ h => h, fun _ _ _ _ h => h, fun _ _ _ _ h => h, fun _ _ _ _ h => h, fun _ _ _ _ h => h, fun _ _ _ _ h => h, fun _ _ _ _ h => h, fun _ _ _ _ h => h, fun _ _ _ _ h => h, fun _ _ _ _ h => h, fun _ _ _ _ h => h, fun _ _ _ _ h => h, trivial⟩
  · intro u w hR hd; exact runs_mv (ev rfl) ⟨Grew.refl _, rfl⟩
  · intro u w hR hd; exact runs_mv (ev rfl) ⟨Grew.refl _, rfl⟩
  · intro u w hR hd; exact rn_cv_5_3 (ev (hd.1 rfl)) (by omega) ⟨Grew.refl _, rfl⟩
  · intro u w hR hd; exact runs_mv (ev rfl) ⟨Grew.refl _, rfl⟩
  · intro u w hR hd; exact rn_len_43 (ev (hd.1 rfl)) ⟨Grew.refl _, rfl⟩
  · intro u w hR hd; exact runs_rem (ev (hd.1 rfl)) (ev (hd.2.1 rfl)) (by omega) (by omega) ⟨Grew.refl _, rfl⟩
  · intro u w hR hd; exact rn_idx_43 (k % 22) (ev (hd.1 rfl)) (ev (hd.2.1 rfl)) (by omega) ⟨Grew.refl _, rfl⟩
  · intro u w hR hd; exact rn_ld_9 (ev (hd.1 rfl)) (qa.kept hR) ⟨Grew.refl _, rfl⟩
  · intro u w hR hd; exact runs_mv (ev rfl) ⟨Grew.refl _, rfl⟩
  · intro u w hR hd; exact runs_mv (ev rfl) ⟨Grew.refl _, rfl⟩
  · intro u w hR hd; exact rn_cv_5_3 (ev (hd.1 rfl)) (by omega) ⟨Grew.refl _, rfl⟩
  · intro u w hR hd; exact runs_mv (ev rfl) ⟨Grew.refl _, rfl⟩
  · intro u w hR hd; exact rn_len_43 (ev (hd.1 rfl)) ⟨Grew.refl _, rfl⟩
  · intro u w hR hd; exact runs_rem (ev (hd.1 rfl)) (ev (hd.2.1 rfl)) (by omega) (by omega) ⟨Grew.refl _, rfl⟩
  · intro u w hR hd; exact rn_idx_43 (k % 23) (ev (hd.1 rfl)) (ev (hd.2.1 rfl)) (by omega) ⟨Grew.refl _, rfl⟩
  · intro u w hR hd; exact rn_ld_9 (ev (hd.1 rfl)) (qb.kept hR) ⟨Grew.refl _, rfl⟩
  · intro u w hR hd; exact runs_mva (ev (hd.1 rfl)) ⟨Grew.refl _, rfl⟩
  · intro u w hR hd; exact runs_mva (ev (hd.1 rfl)) ⟨Grew.refl _, rfl⟩
  · intro u w8 hR h
    have e5 : u 5 = .string X := h 16 (by decide)
    have e6 : u 6 = .string Y := h 17 (by decide)
    have HBA := Lib.hid (HBA.out.grew ((Grew.refl _).drw.trans hR))
    have HBB := Lib.hid (HBB.out.grew ((Grew.refl _).drw.trans hR))
    have HG8 := Lib.hid (HG7.out.trans ((Grew.refl _).drw.trans hR))
    simp only [mixA, mixL, cond_true, cond_false, e5, e6]
    clear h hR qa qb e5 e6
    go_upto_region 8 with (first
      | (go_at_call 13; (with_reducible refine (HS1.out _ (HE.out.grew HG8.out)).mono ?_); rintro e w9 ⟨p9, c9, rfl, hr9, g9⟩; have HR9 := Lib.hid hr9; have HBA := Lib.hid (HBA.out.grew g9); have HBB := Lib.hid (HBB.out.grew g9); have HG9 := Lib.hid (HG8.out.trans g9); clear g9 hr9)
      | (go_at_call 13; (with_reducible refine (HS2.out _ (HE.out.grew HG9.out)).mono ?_); rintro e w10 ⟨p10, c10, rfl, hr10, g10⟩; have HR10 := Lib.hid hr10; have HR9 := Lib.hid (HR9.out.kept g10); have HBA := Lib.hid (HBA.out.grew g10); have HBB := Lib.hid (HBB.out.grew g10); have HG10 := Lib.hid (HG9.out.trans g10); clear g10 hr10))
    have HA0 : Hid (∃ vs : List Value, vs.length = 22 ∧ Blk Sa vs 63 w10.drew) := Lib.hid ⟨_, rfl, HBA.out.grew (Grew.refl _).drw⟩
    have HB0 : Hid (∃ vs : List Value, vs.length = 23 ∧ Blk Sb vs 64 w10.drew) := Lib.hid ⟨_, rfl, HBB.out.grew (Grew.refl _).drw⟩
    refine wp_postsR (Two2 Sa Sb) Two2.refl Two2.trans [some 43, some 44, some 45, some 46, some 47, some 48, some 49, some 50, some 51, some 52, some 53, some 54, some 55, none, some 56, none] [false, false, false, false, false, false, false, false, false, false, false, false, false, false, false, false, false, false, false, false, false, false, false, false, false, false, false, false, false, false, false, false, false, false, false, false, false, false, false, false, false, false, false, true, true, true, true, true, true, true, true, true, true, true, true, true, true, false, false, false, false, false, false, false, false, false, false, false, false, false, false, false, false, false, false, false, false, false, false, false, false, false, false, false, false, false, false, false, false, false, false, false, false, false, false, false, false, false, false, false, false, false, false, false, false] [fun v _ => v = .slice (some ⟨Sa, 0, none⟩) (22) (22), fun v _ => v = .int .u8 (((k : Nat) : Int)), fun v _ => v = .int .i64 (((k : Nat) : Int)), fun v _ => v = .slice (some ⟨Sa, 0, none⟩) (22) (22), fun v _ => v = .int .i64 (((22 : Nat) : Int)), fun v _ => v = .int .i64 (((k % 22 : Nat)) : Int), fun v _ => v = .slice (some ⟨Sb, 0, none⟩) (23) (23), fun v _ => v = .int .u8 (((k : Nat) : Int)), fun v _ => v = .int .i64 (((k : Nat) : Int)), fun v _ => v = .slice (some ⟨Sb, 0, none⟩) (23) (23), fun v _ => v = .int .i64 (((23 : Nat) : Int)), fun v _ => v = .int .i64 (((k % 23 : Nat)) : Int), fun v _ => v = .pointer (some ⟨Sa, 0 + k % 22, none⟩), fun v w => True, fun v _ => v = .pointer (some ⟨Sb, 0 + k % 23, none⟩), fun v w => True] (by kernel_rfl) (by kernel_rfl) rfl ?_ ⟨?_, ?_, ?_, ?_, ?_, ?_, ?_, ?_, ?_, ?_, ?_, ?_, ?_, ?_, ?_, ?_, trivial⟩ ?_
    · exact ⟨fun _ _ _ _ h => h, fun _ _ _ _ h => h, fun _ _ _ _ h => h, fun _ _ _ _ h => h, fun _ _ _ _ h => h, fun _ _ _ _ h => h, fun _ _ _ _ h => h, fun _ _ _ _ h => h, fun _ _ _ _ h => h, fun _ _ _ _ h => h, fun _ _ _ _ h => h, fun _ _ _ _ h => h, fun _ _ _ _ h => h, fun _ _ _ _ h => h, fun _ _ _ _ h => h, fun _ _ _ _ h => h, trivial⟩
    · intro u w hR hd; exact runs_mv (ev rfl) ⟨Two2.refl _, rfl⟩
    · intro u w hR hd; exact runs_mv (ev rfl) ⟨Two2.refl _, rfl⟩
    · intro u w hR hd; exact rn_cv_5_3 (ev (hd.1 rfl)) (by omega) ⟨Two2.refl _, rfl⟩
    · intro u w hR hd; exact runs_mv (ev rfl) ⟨Two2.refl _, rfl⟩
    · intro u w hR hd; exact rn_len_43 (ev (hd.1 rfl)) ⟨Two2.refl _, rfl⟩
    · intro u w hR hd; exact runs_rem (ev (hd.1 rfl)) (ev (hd.2.1 rfl)) (by omega) (by omega) ⟨Two2.refl _, rfl⟩
    · intro u w hR hd; exact runs_mv (ev rfl) ⟨Two2.refl _, rfl⟩
    · intro u w hR hd; exact runs_mv (ev rfl) ⟨Two2.refl _, rfl⟩
    · intro u w hR hd; exact rn_cv_5_3 (ev (hd.1 rfl)) (by omega) ⟨Two2.refl _, rfl⟩
    · intro u w hR hd; exact runs_mv (ev rfl) ⟨Two2.refl _, rfl⟩
    · intro u w hR hd; exact rn_len_43 (ev (hd.1 rfl)) ⟨Two2.refl _, rfl⟩
    · intro u w hR hd; exact runs_rem (ev (hd.1 rfl)) (ev (hd.2.1 rfl)) (by omega) (by omega) ⟨Two2.refl _, rfl⟩
    · intro u w hR hd; exact rn_idx_43 (k % 22) (ev (hd.1 rfl)) (ev (hd.2.1 rfl)) (by omega) ⟨Two2.refl _, rfl⟩
    · intro u w hR hd; exact (match hR.2.1 HA0.out with | ⟨vs, hv, hb⟩ => rn_st_9 (ev (hd.1 rfl)) rfl ((hb.cell (0 + k % 22)).trans (List.getElem?_eq_getElem (by omega))) (hb.free (0 + k % 22)) ⟨⟨(Chg.set _ _ _).mono (fun k hk => by exact .inl hk), fun _ => ⟨vs.set (0 + k % 22) (.string ⟨#[]⟩), by rw [List.length_set]; exact hv, hb.set (0 + k % 22) _⟩, fun ⟨us, hu, hd9⟩ => ⟨us, hu, hd9.other _ _ _ HNE.out.symm⟩⟩, trivial⟩)
    · intro u w hR hd; exact rn_idx_43 (k % 23) (ev (hd.1 rfl)) (ev (hd.2.1 rfl)) (by omega) ⟨Two2.refl _, rfl⟩
    · intro u w hR hd; exact (match hR.2.2 HB0.out with | ⟨vs, hv, hb⟩ => rn_st_9 (ev (hd.1 rfl)) rfl ((hb.cell (0 + k % 23)).trans (List.getElem?_eq_getElem (by omega))) (hb.free (0 + k % 23)) ⟨⟨(Chg.set _ _ _).mono (fun k hk => by exact .inr hk), fun ⟨us, hu, hd9⟩ => ⟨us, hu, hd9.other _ _ _ HNE.out⟩, fun _ => ⟨vs.set (0 + k % 23) (.string ⟨#[]⟩), by rw [List.length_set]; exact hv, hb.set (0 + k % 23) _⟩⟩, trivial⟩)
    · intro u w11 hR h
      have HR9 := Lib.hid (tok_apart (HR9.out.kept (Grew.refl _).drw) (HBA.out.grew (Grew.refl _).drw) (HBB.out.grew (Grew.refl _).drw) hR.1)
      have HR10 := Lib.hid (tok_apart (HR10.out.kept (Grew.refl _).drw) (HBA.out.grew (Grew.refl _).drw) (HBB.out.grew (Grew.refl _).drw) hR.1)
      have HG11 : Hid (Grew W w11) := Lib.hid (grew_lift (HG10.out.trans (Grew.refl _).drw) hR.1 (fun k hk => by
        rcases hk with rfl | rfl
        · exact HSA.out
        · exact HSB.out))
      clear h hR HA0 HB0 HBA HBB
      simp only [mixA, mixL, cond_true, cond_false]
      obtain ⟨b9, o9, rfl, hc9⟩ := HR9.out.rd.cells (by simp)
      obtain ⟨b10, o10, rfl, hc10⟩ := HR10.out.rd.cells (by simp)
      have a0 : w11.cell? ⟨b9, o9, none⟩ = some (.int .i64 3) := by simpa using hc9 0 _ rfl 0 _ rfl
      have a1 : w11.cell? ⟨b9, o9 + 1, none⟩ = some (.string X) := by simpa using hc9 0 _ rfl 1 _ rfl
      have d0 : w11.cell? ⟨b10, o10, none⟩ = some (.int .i64 4) := by simpa using hc10 0 _ rfl 0 _ rfl
      have d1 : w11.cell? ⟨b10, o10 + 1, none⟩ = some (.string Y) := by simpa using hc10 0 _ rfl 1 _ rfl
      clear hc9 hc10
      go_wp2_with (first
        | (go_at_call 21; (with_reducible refine (kwP_any _ (HE.out.grew HG11.out)).mono ?_); rintro e w12 ⟨Sc, rfl, hsc, hbc, g12⟩; have HBC := Lib.hid hbc; have HG12 := Lib.hid (HG11.out.trans g12); clear g12 hbc hsc)
        | (go_at_call 24; (with_reducible refine (rkw_any _).mono ?_); rintro e w13 ⟨p13, rfl, hr13, g13⟩; have HR13 := Lib.hid hr13; have HBC := Lib.hid (HBC.out.grew g13); have HG13 := Lib.hid (HG12.out.trans g13); clear g13 hr13)
        | (go_at_call 23; (with_reducible refine (samet_kw _ _ _ _ _ (kw_box HBC.out) HR13.out).mono ?_); rintro e w14 ⟨rfl, g14⟩; have HG14 := Lib.hid (HG13.out.trans g14); clear g14)
        | (go_at_call 22; (with_reducible refine (mkP_any _ (HE.out.grew HG14.out)).mono ?_); rintro e w15 ⟨Sd, rfl, hsd, hbd, g15⟩; have HBD := Lib.hid hbd; have HG15 := Lib.hid (HG14.out.trans g15); clear g15 hbd hsd)
        | (go_at_call 25; (with_reducible refine (rmk_any _).mono ?_); rintro e w16 ⟨p16, rfl, hr16, g16⟩; have HR16 := Lib.hid hr16; have HBD := Lib.hid (HBD.out.grew g16); have HG16 := Lib.hid (HG15.out.trans g16); clear g16 hr16)
        | (go_at_call 23; (with_reducible refine (samet_mk _ _ _ _ _ (mk_box HBD.out) HR16.out).mono ?_); rintro e w17 ⟨rfl, g17⟩; have HG17 := Lib.hid (HG16.out.trans g17); clear g17))
      go_ret
      exact ⟨rfl, HG17.out⟩
end Go.Proofs.YtcajamgajchheaaDoor
