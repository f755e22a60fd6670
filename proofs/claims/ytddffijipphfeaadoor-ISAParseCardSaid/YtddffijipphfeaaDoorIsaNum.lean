/-
  CONTRACTS OF LAYER 11's REFERENCE: Num.
-/
import Derived.Test.YtddffijipphfeaaDoorIsaRef2
import Derived.Test.YtddffijipphfeaaDoorStr
namespace Go.Proofs.YtddffijipphfeaaDoor
open Go Go.RowKit Go.IntWalk
open Go.Lib (itoa)
set_option linter.unusedSimpArgs false
set_option linter.unusedVariables false
set_option maxRecDepth 8000

theorem ret_str {a b : ByteArray} (h : a = b) : Ending.returned (.string a) = .returned (.string b) := by rw [h]
/-- A digit's byte. -/
abbrev dg (d : Nat) : UInt8 := UInt8.ofNat (48 + d)
theorem bs_dg (n : Nat) : (#[.int .u8 (48 + ((n : Nat) : Int) % 10)] : Array Value) = (bvs [dg (n % 10)]).toArray := by
  have h : ((UInt8.ofNat (48 + n % 10)).toNat : Int) = 48 + (n : Int) % 10 := by rw [digit_toNat (Nat.mod_lt _ (by omega))]; omega
  show (#[.int .u8 (48 + ((n : Nat) : Int) % 10)] : Array Value) = #[.int .u8 ((UInt8.ofNat (48 + n % 10)).toNat : Int)]
  rw [h]
theorem enters_num : Enters Tryd.prog 48 := fun args w => by go_simp
section
variable {dst : Option Tmp} {ty : TypeId} {pos : String} {after : Array Edge} {g : Option (Nat × Bool)} {a : Act} {w : World} {T : Value → World → Prop}
theorem rn_add_3 {o1 o2 : Operand} {b c : Int} (hx : a.eval o1 = .int .i64 b) (hy : a.eval o2 = .int .i64 c) (hb : -9223372036854775808 ≤ b + c ∧ b + c ≤ 9223372036854775807) (h : T (.int .i64 (b + c)) w) : Runs Tryd.prog ⟨dst, .binOp .add 3 o1 o2 3, ty, pos, after, g⟩ a w T := by
  refine Runs.value (v := .int .i64 (b + c)) (w' := w) ?_ h
  have hw : IntKind.i64.wrap (b + c) = b + c := IntWalk.i64_in _ hb
  simp only [execOp, hx, hy]
  go_simp
theorem rn_cv_3_5 {x : Operand} {z : Int} (hx : a.eval x = .int .i64 z) (hb : 0 ≤ z ∧ z ≤ 255) (h : T (.int .u8 z) w) : Runs Tryd.prog ⟨dst, .convert 3 5 x, ty, pos, after, g⟩ a w T := by
  refine Runs.value (v := .int .u8 z) (w' := w) ?_ h
  have hw : IntKind.u8.wrap z = z := IntWalk.u8_in _ hb
  simp only [execOp, hx]
  go_simp
theorem rn_cat_9 {o1 o2 : Operand} {b c : List UInt8} (hx : a.eval o1 = .string ⟨b.toArray⟩) (hy : a.eval o2 = .string ⟨c.toArray⟩) (hb : b.length + c.length ≤ 9223372036854775807) (h : T (.string ⟨(b ++ c).toArray⟩) w) : Runs Tryd.prog ⟨dst, .binOp .add 9 o1 o2 9, ty, pos, after, g⟩ a w T := by
  have hs : (⟨b.toArray⟩ : ByteArray) ++ ⟨c.toArray⟩ = ⟨(b ++ c).toArray⟩ := by apply ByteArray.ext; simp
  have hn : ¬ 9223372036854775807 < b.length + c.length := by omega
  refine Runs.value (v := .string ⟨(b ++ c).toArray⟩) (w' := w) ?_ h
  rw [← hs]
  simp only [execOp, hx, hy]
  go_simp
end

section
variable {dst : Option Tmp} {ty : TypeId} {pos : String} {after : Array Edge} {g : Option (Nat × Bool)} {a : Act} {w : World} {T : Value → World → Prop}
theorem rn_quo10 {o : Operand} {n : Nat} (hx : a.eval o = .int .i64 n) (hb : n ≤ 4611686018427387904) (h : T (.int .i64 ((n : Int) / 10)) w) : Runs Tryd.prog ⟨dst, .binOp .quo 3 o (.const (.int .i64 10)) 3, ty, pos, after, g⟩ a w T := by
  refine Runs.value (v := .int .i64 ((n : Int) / 10)) (w' := w) ?_ h
  have hw : IntKind.i64.wrap ((n : Int) / 10) = (n : Int) / 10 := by exact i64_in _ (by omega)
  simp only [execOp, hx]
  go_simp
theorem rn_rem10 {o : Operand} {n : Nat} (hx : a.eval o = .int .i64 n) (hb : n ≤ 4611686018427387904) (h : T (.int .i64 ((n : Int) % 10)) w) : Runs Tryd.prog ⟨dst, .binOp .rem 3 o (.const (.int .i64 10)) 3, ty, pos, after, g⟩ a w T := by
  refine Runs.value (v := .int .i64 ((n : Int) % 10)) (w' := w) ?_ h
  have hw : (n : Int).tmod 10 = (n : Int) % 10 := by exact Int.tmod_eq_emod_of_nonneg (by omega)
  simp only [execOp, hx]
  go_simp
theorem rn_bs8 {y : Nat} {z : Int} (hx : a.eval (.tmp y) = .int .u8 z) (h : T (.slice (some ⟨w.heap.size, 0, none⟩) 1 1) (w.alloc (.cells #[.int .u8 z] 5))) :
    Runs Tryd.prog ⟨dst, .buildSlice 73 1 #[(0, .tmp y)], ty, pos, after, g⟩ a w T := by
  rw [slot_eval, ← slot_get] at hx
  refine Runs.value (v := .slice (some ⟨w.heap.size, 0, none⟩) 1 1) (w' := w.alloc (.cells #[.int .u8 z] 5)) ?_ h
  simp only [execOp]
  go_simp
end
theorem convert_one (W : World) (c : UInt8) : (convert 73 9 (.slice (some ⟨W.heap.size, 0, none⟩) 1 1)).run Tryd.prog (W.alloc (.cells #[.int .u8 c.toNat] 5)) = .ok (.string ⟨#[c]⟩) (W.alloc (.cells #[.int .u8 c.toNat] 5)) :=
  run_convert_bytes_back (P := Tryd.prog) (W.alloc (.cells #[.int .u8 c.toNat] 5)) 73 9 5 ⟨W.heap.size, 0, none⟩ 1 [c] Tryd.underlying73 Tryd.underlying5 Tryd.underlying9 (fun j hj => by
    obtain rfl : j = 0 := by simp at hj; omega
    rw [Lib.add_plain, World.cell?_alloc_new]; rfl)
theorem rnum_one (n : Nat) (h : n < 10) (w : World) : Calls Tryd.prog 48 #[.int .i64 n] w fun e w' => e = .returned (.string ⟨(Lib.decDigits n).toArray⟩) ∧ Grew w w' := by
  obtain ⟨c, hcd⟩ : ∃ c, c = UInt8.ofNat (48 + n) := ⟨_, rfl⟩
  have hc := convert_one w c
  rw [show (c.toNat : Int) = 48 + (n : Int) by rw [hcd, digit_toNat h]; omega] at hc
  have HD := Lib.hid (show Lib.decDigits n = [c] by rw [hcd]; exact Lib.decDigits_one h)
  have h0 : ¬ (n : Int) < 0 := by omega
  have h1 : (n : Int) < 10 := by omega
  clear hcd
  go_enter Tryd.func48, Tryd.ntmps48
  go_wp2_with fail
  go_ret
  exact ⟨by rw [HD.out]; rfl, (Grew.refl _).alloc _⟩
theorem rnum_nat (k : Nat) : ∀ (n : Nat) (w : World), n ≤ k → n ≤ 4611686018427387904 → Calls Tryd.prog 48 #[.int .i64 n] w fun e w' => e = .returned (.string ⟨(Lib.decDigits n).toArray⟩) ∧ Grew w w' := by
  induction k with
  | zero => intro n w hk _; exact rnum_one n (by omega) w
  | succ k ih =>
    intro n w hk hb
    by_cases hn : n < 10
    · exact rnum_one n hn w
    · have HD := Lib.hid (show Lib.decDigits n = Lib.decDigits (n / 10) ++ [dg (n % 10)] by rw [Lib.decDigits, dif_neg hn])
      have C1 : Hid (∀ w, Calls Tryd.prog 48 #[.int .i64 ((n : Int) / 10)] w fun e w' => e = .returned (.string ⟨(Lib.decDigits (n / 10)).toArray⟩) ∧ Grew w w') := Lib.hid fun w => by
        rw [show ((n : Int) / 10) = ((n / 10 : Nat) : Int) by omega]; exact ih (n / 10) w (by omega) (by omega)
      have l1 := decDigits_pow (n / 10) 18 (by omega)
      have h0 : ¬ (n : Int) < 0 := by omega
      have h1 : ¬ (n : Int) < 10 := by omega
      go_enter Tryd.func48, Tryd.ntmps48
      go_wp2
      refine wp_posts [some 16, some 17, some 18, some 19, some 20, some 21, some 22, some 23, some 24, some 25, some 2] [false, false, true, false, false, false, false, false, false, false, false, false, false, false, false, false, true, true, true, true, true, true, true, true, true, true] [fun v _ => v = .int .i64 (((n : Nat) : Int)), fun v _ => v = .int .i64 (((n : Nat) : Int) / 10), fun v _ => v = .string ⟨(Lib.decDigits (n / 10)).toArray⟩, fun v _ => v = .int .i64 (((n : Nat) : Int)), fun v _ => v = .int .i64 (((n : Nat) : Int) % 10), fun v _ => v = .int .i64 ((48) + (((n : Nat) : Int) % 10)), fun v _ => v = .int .u8 ((48) + (((n : Nat) : Int) % 10)), fun v w => ∃ B, v = .slice (some ⟨B, 0, none⟩) 1 1 ∧ Bin w (some ⟨B, 0, none⟩) 1 [dg (n % 10)], fun v _ => v = .string ⟨([dg (n % 10)]).toArray⟩, fun v _ => v = .string ⟨((Lib.decDigits (n / 10)) ++ ([dg (n % 10)])).toArray⟩, fun v _ => v = .string ⟨((Lib.decDigits (n / 10)) ++ ([dg (n % 10)])).toArray⟩] (by kernel_rfl) (by kernel_rfl) rfl ?_ ⟨?_, ?_, ?_, ?_, ?_, ?_, ?_, ?_, ?_, ?_, ?_, trivial⟩ ?_
      · exact ⟨fun _ _ _ _ h => h, fun _ _ _ _ h => h, fun _ _ _ _ h => h, fun _ _ _ _ h => h, fun _ _ _ _ h => h, fun _ _ _ _ h => h, fun _ _ _ _ h => h, fun _ _ _ hg ⟨B, h1, h2⟩ => ⟨B, h1, h2.kept hg⟩, fun _ _ _ _ h => h, fun _ _ _ _ h => h, fun _ _ _ _ h => h, trivial⟩
      · intro u w hR hd; exact runs_mv (ev rfl) ⟨Grew.refl _, rfl⟩
      · intro u w hR hd; exact rn_quo10 (ev (hd.1 rfl)) hb ⟨Grew.refl _, rfl⟩
      · intro u w hR hd; exact runs_c1 enters_num (ev (hd.1 rfl)) (callp (fun _ e => e) (C1.out _))
      · intro u w hR hd; exact runs_mv (ev rfl) ⟨Grew.refl _, rfl⟩
      · intro u w hR hd; exact rn_rem10 (ev (hd.1 rfl)) hb ⟨Grew.refl _, rfl⟩
      · intro u w hR hd; exact rn_add_3 rfl (ev (hd.1 rfl)) (by omega) ⟨Grew.refl _, rfl⟩
      · intro u w hR hd; exact rn_cv_3_5 (ev (hd.1 rfl)) (by omega) ⟨Grew.refl _, rfl⟩
      · intro u w hR hd; exact rn_bs8 (ev (hd.1 rfl)) ⟨(Grew.refl _).alloc _, ⟨_, rfl, Bin.made _ _ _ _ _ _ (bs_dg n) rfl (by decide)⟩⟩
      · intro u w hR hd; exact (by obtain ⟨B, hv, hb⟩ := (hd.1 rfl); exact runs_cvs Tryd.underlying73 Tryd.underlying5 Tryd.underlying9 (ev hv) hb rfl ⟨Grew.refl _, rfl⟩)
      · intro u w hR hd; exact rn_cat_9 (ev (hd.1 rfl)) (ev (hd.2.1 rfl)) (by first | omega | (simp <;> omega)) ⟨Grew.refl _, rfl⟩
      · intro u w hR hd; exact runs_mva (ev (hd.1 rfl)) ⟨Grew.refl _, rfl⟩
      · intro u w4 hR h
        have he : u 2 = .string ⟨(Lib.decDigits (n / 10) ++ [dg (n % 10)]).toArray⟩ := h 10 (by decide)
        simp only [mixA, mixL, cond_true, cond_false]
        rw [he]
        clear h he
        go_wp2
        go_ret
        exact ⟨ret_str (by rw [HD.out]), (Grew.refl w).drw.trans hR⟩
/-- Num, at every number of up to 62 bits. -/
theorem rnum_any (z : Int) (w : World) (h : -4611686018427387904 ≤ z ∧ z ≤ 4611686018427387904) : Calls Tryd.prog 48 #[.int .i64 z] w fun e w' => e = .returned (.string ⟨(itoa z).toArray⟩) ∧ Grew w w' := by
  by_cases hz : z < 0
  · obtain ⟨u, rfl⟩ : ∃ u : Nat, z = -(u : Int) := ⟨z.natAbs, by omega⟩
    have HI := Lib.hid (Lib.itoa_neg u (by omega))
    have HN := Lib.hid (rnum_nat u u w (Nat.le_refl _) (by omega))
    have l1 := decDigits_pow u 18 (by omega)
    have hw : IntKind.i64.wrap (u : Int) = u := i64_in _ (by omega)
    go_enter Tryd.func48, Tryd.ntmps48
    go_wp2_with (go_at_call 48; (with_reducible refine (HN.out).mono ?_); rintro e w1 ⟨rfl, g1⟩; have HG := Lib.hid g1; clear g1)
    go_ret
    exact ⟨ret_str (by rw [HI.out]; exact str_append [45] _), HG.out⟩
  · obtain ⟨u, rfl⟩ : ∃ u : Nat, z = u := ⟨z.toNat, by omega⟩
    rw [Lib.itoa_nonneg]
    exact rnum_nat u u w (Nat.le_refl _) (by omega)
end Go.Proofs.YtddffijipphfeaaDoor
