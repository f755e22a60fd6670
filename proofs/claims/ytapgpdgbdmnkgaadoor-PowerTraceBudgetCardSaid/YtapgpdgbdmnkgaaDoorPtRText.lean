/-
  CONTRACTS OF LAYER 13 (powertrace): the reference's digits and Format.
-/
import Derived.Test.YtapgpdgbdmnkgaaDoorPtText
namespace Go.Proofs.YtapgpdgbdmnkgaaDoor
open Go Go.RowKit Go.IntWalk
open Go.Lib (itoa)
set_option linter.unusedSimpArgs false
set_option linter.unusedVariables false
set_option maxRecDepth 8000

section
variable {dst : Option Tmp} {ty : TypeId} {pos : String} {after : Array Edge} {g : Option (Nat × Bool)} {a : Act} {w : World} {T : Value → World → Prop}
theorem rn_fld_52_0 {x : Operand} {S o : Nat} (hx : a.eval x = .pointer (some ⟨S, o, none⟩)) (h : T (.pointer (some ⟨S, o, none⟩)) w) : Runs Tryd.prog ⟨dst, .fieldAddr 52 x 0, ty, pos, after, g⟩ a w T := by
  refine Runs.value (v := .pointer (some ⟨S, o, none⟩)) (w' := w) ?_ h
  simp only [execOp, hx]
  go_simp
theorem rn_ld_3 {x : Operand} {q : Addr} {v : Value} (hx : a.eval x = .pointer (some q)) (hc : w.cell? q = some v) (h : T v w) : Runs Tryd.prog ⟨dst, .load 3 x, ty, pos, after, g⟩ a w T := by
  refine Runs.value (v := v) (w' := w) ?_ h
  simp only [execOp, hx]
  go_simp
theorem rn_cat_9 {o1 o2 : Operand} {b c : List UInt8} (hx : a.eval o1 = .string ⟨b.toArray⟩) (hy : a.eval o2 = .string ⟨c.toArray⟩) (hb : b.length + c.length ≤ 9223372036854775807) (h : T (.string ⟨(b ++ c).toArray⟩) w) : Runs Tryd.prog ⟨dst, .binOp .add 9 o1 o2 9, ty, pos, after, g⟩ a w T := by
  have hs : (⟨b.toArray⟩ : ByteArray) ++ ⟨c.toArray⟩ = ⟨(b ++ c).toArray⟩ := by apply ByteArray.ext; simp
  have hn : ¬ 9223372036854775807 < b.length + c.length := by omega
  refine Runs.value (v := .string ⟨(b ++ c).toArray⟩) (w' := w) ?_ h
  rw [← hs]
  simp only [execOp, hx, hy]
  go_simp
theorem rn_fld_52_1 {x : Operand} {S o : Nat} (hx : a.eval x = .pointer (some ⟨S, o, none⟩)) (h : T (.pointer (some ⟨S, o + 1, none⟩)) w) : Runs Tryd.prog ⟨dst, .fieldAddr 52 x 1, ty, pos, after, g⟩ a w T := by
  refine Runs.value (v := .pointer (some ⟨S, o + 1, none⟩)) (w' := w) ?_ h
  simp only [execOp, hx]
  go_simp
theorem rn_ld_2 {x : Operand} {q : Addr} {v : Value} (hx : a.eval x = .pointer (some q)) (hc : w.cell? q = some v) (h : T v w) : Runs Tryd.prog ⟨dst, .load 2 x, ty, pos, after, g⟩ a w T := by
  refine Runs.value (v := v) (w' := w) ?_ h
  simp only [execOp, hx]
  go_simp
end
theorem str_one (n : Nat) (h : n < 10) : (48 + n) < 256 := by omega
theorem rdig_one (n : Nat) (h : n < 10) (w : World) : Calls Tryd.prog 36 #[.int .i64 n] w fun e w' => e = .returned (.string ⟨(Lib.decDigits n).toArray⟩) ∧ Grew w w' := by
  have HD := Lib.hid (Lib.decDigits_one h)
  have h1 : (n : Int) < 10 := by omega
  have hw : IntKind.u8.wrap (48 + (n : Int)) = 48 + n := u8_in _ (by omega)
  have hb := bv_ofNat (48 + n) (by omega)
  generalize UInt8.ofNat (48 + n) = u at HD hb
  rw [show ((48 + n : Nat) : Int) = 48 + (n : Int) by omega] at hb
  have hcv := (Bin.made w [u] 1 5 #[.int .u8 (48 + (n : Int))] (0, 0) (by simp only [bvs, List.map_cons, List.map_nil, hb]) rfl (by decide)).convert 1 rfl 61 9 5 Tryd.underlying61 Tryd.underlying5 Tryd.underlying9
  clear hb
  go_enter Tryd.func36, Tryd.ntmps36
  go_wp2
  go_ret
  exact ⟨ret_string (by rw [HD.out]), (Grew.refl w).alloc _⟩
set_option maxHeartbeats 1000000 in
theorem rdig_nat (k : Nat) : ∀ (n : Nat) (w : World), n ≤ k → n ≤ 4611686018427387904 → Calls Tryd.prog 36 #[.int .i64 n] w fun e w' => e = .returned (.string ⟨(Lib.decDigits n).toArray⟩) ∧ Grew w w' := by
  induction k with
  | zero => intro n w hk _; exact rdig_one n (by omega) w
  | succ k ih =>
    intro n w hk hb
    by_cases hn : n < 10
    · exact rdig_one n hn w
    · have HD := Lib.hid (show Lib.decDigits n = Lib.decDigits (n / 10) ++ Lib.decDigits (n % 10) by rw [Lib.decDigits, dif_neg hn, Lib.decDigits_one (Nat.mod_lt _ (by omega))])
      have C1 : Hid (∀ w (z : Int), z = ((n / 10 : Nat) : Int) → Calls Tryd.prog 36 #[.int .i64 z] w fun e w' => e = .returned (.string ⟨(Lib.decDigits (n / 10)).toArray⟩) ∧ Grew w w') := Lib.hid fun w z hz => by
        rw [hz]; exact ih (n / 10) w (by omega) (by omega)
      have C2 : Hid (∀ w (z : Int), z = ((n % 10 : Nat) : Int) → Calls Tryd.prog 36 #[.int .i64 z] w fun e w' => e = .returned (.string ⟨(Lib.decDigits (n % 10)).toArray⟩) ∧ Grew w w') := Lib.hid fun w z hz => by
        rw [hz]; exact ih (n % 10) w (by omega) (by omega)
      have l1 := decDigits_pow (n / 10) 18 (by omega)
      have l2 := decDigits_pow (n % 10) 18 (by omega)
      have h1 : ¬ (n : Int) < 10 := by omega
      have tk1 := Lib.hid trivial
      clear ih
      go_enter Tryd.func36, Tryd.ntmps36
      go_wp2_with (first
        | (go_at_call 36; clear tk1; (with_reducible refine (C1.out _ _ (by first | omega | (rw [Int.tdiv_eq_ediv_of_nonneg (by omega)]; omega))).mono ?_); rintro e w1 ⟨rfl, g1⟩; have HG1 := Lib.hid (g1); clear g1)
        | (go_at_call 36; (with_reducible refine (C2.out _ _ (by first | omega | (rw [Int.tmod_eq_emod_of_nonneg (by omega)]; omega))).mono ?_); rintro e w2 ⟨rfl, g2⟩; have HG2 := Lib.hid (HG1.out.trans g2); clear g2))
      go_ret
      exact ⟨ret_string (by rw [HD.out]; first | rfl | exact str_append _ _), HG2.out⟩
/-- digits, at every number of up to 62 bits that is not negative. -/
theorem rdigits_any (z : Int) (w : World) (h : 0 ≤ z ∧ z ≤ 4611686018427387904) : Calls Tryd.prog 36 #[.int .i64 z] w fun e w' => e = .returned (.string ⟨(itoa z).toArray⟩) ∧ Grew w w' := by
  obtain ⟨u, rfl⟩ : ∃ u : Nat, z = u := ⟨z.toNat, by omega⟩
  rw [Lib.itoa_nonneg]
  exact rdig_nat u u w (Nat.le_refl _) (by omega)
theorem enters_dig : Enters Tryd.prog 36 := fun args w => by go_simp
set_option maxHeartbeats 2000000 in
theorem rformat_ok (p : Option Addr) (n c : Nat) (xs : List It) (w : World) (h : Rw 2 itc w p c xs) (hn : xs.length = n) (hg : okL xs = true) (hl : xs.length ≤ 1000) :
    Calls Tryd.prog 16 #[.slice p n c] w fun e w' => e = .returned (.string ⟨(textT xs).toArray⟩) ∧ Grew w w' := by
  have HGD := Lib.hid hg
  have HV := Lib.hid (rvalid_any p n c xs w h hn)
  rw [hg] at HV
  clear hg
  subst hn
  have HX := Lib.hid h
  have hcap := h.cap
  have hmax := h.max
  clear h
  go_enter Tryd.func16, Tryd.ntmps16
  go_wp2_with (go_at_call 15; (with_reducible refine (HV.out).mono ?_); rintro e w1 ⟨rfl, g1⟩; have HG1 := Lib.hid g1; clear g1)
  go_loopg [3, 4] xs.length (fun gg sv iv wr => ∃ (k : Nat) (pre : List UInt8), sv = .string ⟨pre.toArray⟩ ∧ iv = .int .i64 (k : Int) ∧ k ≤ xs.length ∧ gg = xs.length - k ∧ pre.length ≤ 44 * k ∧ Hid (pre = textT (xs.take k)) ∧ Hid (Grew w wr))
  case atStart => exact ⟨0, [], rfl, rfl, Nat.zero_le _, rfl, Nat.le_refl _, Lib.hid rfl, HG1⟩
  case round =>
    obtain ⟨k, pre, rfl, rfl, hk, rfl, hpl, HP, HG⟩ := hrel
    by_cases hlt : k < xs.length
    · obtain ⟨b', o', rfl, hcc⟩ := (HX.out.kept HG.out).rd.cells (by omega)
      have hx : xs[k]? = some xs[k] := by simp [hlt]
      have hc1 := hcc k xs[k] hx
      have hlb : b' < wr.heap.size := World.block_lt_of_cell? _ _ (hc1 0 _ rfl)
      have HLT := Lib.hid (Nat.succ_le_of_lt hlt)
      have HTK := Lib.hid (List.take_succ_eq_append_getElem hlt)
      generalize xs[k] = x at hc1 hx HTK
      have d0 : wr.cell? ⟨b', o' + k * 2, none⟩ = some (.int .i64 x.1) := by simpa using hc1 0 _ rfl
      have d1 : wr.cell? ⟨b', o' + k * 2 + 1, none⟩ = some (.int .i64 x.2) := hc1 1 _ rfl
      have HXK := Lib.hid hx
      clear hcc hc1 hx
      have hok := okL_mem HGD.out x (List.mem_of_getElem? HXK.out)
      have hr := okP_bd hok
      have HLN := Lib.hid (textT_take HGD.out (k + 1))
      rw [HTK.out] at HLN
      have HKX := Lib.hid (show (xs.take k).length = k by simp; omega)
      have hl1 := itoa_len (v := x.1) (by omega) (by omega)
      have hl2 := itoa_len (v := x.2) (by omega) (by omega)
      clear hok
      by_cases hk0 : 0 < k
      · have hkI : 0 < (k : Int) := by omega
        have HZ : Hid (pre ++ [32] ++ wordT x = textT (xs.take (k + 1))) := Lib.hid (by
          rw [HTK.out, HP.out]
          rw [textT_snoc (by rw [HKX.out]; exact hk0)]; simp)
        have HPL : Hid ((textT (xs.take (k + 1))).length ≤ 44 * (k + 1)) := Lib.hid (by rw [HTK.out]; exact HLN.out)
        clear hk0
        go_wp2
        have hpl2 : (pre ++ [32]).length ≤ 44 * k + 1 := by simp; omega
        rw [show (⟨pre.toArray⟩ : ByteArray) ++ ⟨#[32]⟩ = ⟨(pre ++ [32]).toArray⟩ from str_append pre [32]]
        generalize pre ++ [32] = pre1 at HZ hpl2 ⊢
        clear hpl HP
        have c0 : Atv ⟨b', o' + k * 2, none⟩ (.int .i64 x.1) wr.drew := Grew.atv (Grew.refl _).drw d0
        have c1 : Atv ⟨b', o' + k * 2 + 1, none⟩ (.int .i64 x.2) wr.drew := Grew.atv (Grew.refl _).drw d1
        refine wp_grew_tail 16 [some 18, some 19, some 20, some 21, some 22, some 23, some 24, some 25, some 26, some 27, some 28, some 29, some 30, some 31, some 32, some 33] [false, false, false, false, false, false, false, false, false, false, false, false, false, false, false, false, false, false, true, true, true, true, true, true, true, true, true, true, true, true, true, true, true, true, false] [fun v _ => v = .string ⟨(pre1).toArray⟩, fun v _ => v = .slice (some ⟨b', o', none⟩) (xs.length) (c), fun v _ => v = .int .i64 (((k : Nat) : Int)), fun v _ => v = .pointer (some ⟨b', o' + k * 2, none⟩), fun v _ => v = .pointer (some ⟨b', o' + k * 2, none⟩), fun v _ => v = .int .i64 (x.1), fun v _ => v = .string ⟨(itoa (x.1)).toArray⟩, fun v _ => v = .string ⟨((pre1) ++ (itoa (x.1))).toArray⟩, fun v _ => v = .string ⟨(((pre1) ++ (itoa (x.1))) ++ ([64])).toArray⟩, fun v _ => v = .slice (some ⟨b', o', none⟩) (xs.length) (c), fun v _ => v = .int .i64 (((k : Nat) : Int)), fun v _ => v = .pointer (some ⟨b', o' + k * 2, none⟩), fun v _ => v = .pointer (some ⟨b', o' + k * 2 + 1, none⟩), fun v _ => v = .int .i64 (x.2), fun v _ => v = .string ⟨(itoa (x.2)).toArray⟩, fun v _ => v = .string ⟨((((pre1) ++ (itoa (x.1))) ++ ([64])) ++ (itoa (x.2))).toArray⟩] (by kernel_rfl) (by kernel_rfl) (by kernel_rfl) rfl ?_ ⟨?_, ?_, ?_, ?_, ?_, ?_, ?_, ?_, ?_, ?_, ?_, ?_, ?_, ?_, ?_, ?_, trivial⟩ ?_
        · exact ⟨fun _ _ _ _ h => h, fun _ _ _ _ h => h, fun _ _ _ _ h => h, fun _ _ _ _ h => h, fun _ _ _ _ h => h, fun _ _ _ _ h => h, fun _ _ _ _ h => h, fun _ _ _ _ h => h, fun _ _ _ _ h => h, fun _ _ _ _ h => h, fun _ _ _ _ h => h, fun _ _ _ _ h => h, fun _ _ _ _ h => h, fun _ _ _ _ h => h, fun _ _ _ _ h => h, fun _ _ _ _ h => h, trivial⟩
        · intro u w hR hd; exact runs_mv (ev rfl) ⟨Grew.refl _, rfl⟩
        · intro u w hR hd; exact runs_mv (ev rfl) ⟨Grew.refl _, rfl⟩
        · intro u w hR hd; exact runs_mv (ev rfl) ⟨Grew.refl _, rfl⟩
        · intro u w hR hd; exact rn_idx_22 (k) (ev (hd.1 rfl)) (ev (hd.2.1 rfl)) (by omega) ⟨Grew.refl _, rfl⟩
        · intro u w hR hd; exact rn_fld_52_0 (ev (hd.1 rfl)) ⟨Grew.refl _, rfl⟩
        · intro u w hR hd; exact rn_ld_3 (ev (hd.1 rfl)) (c0.kept hR) ⟨Grew.refl _, rfl⟩
        · intro u w hR hd; exact runs_c1 enters_dig (ev (hd.1 rfl)) (callp (fun _ e => e) (rdigits_any _ _ (by omega)))
        · intro u w hR hd; exact rn_cat_9 (ev (hd.1 rfl)) (ev (hd.2.1 rfl)) (by first | omega | (simp <;> omega)) ⟨Grew.refl _, rfl⟩
        · intro u w hR hd; exact rn_cat_9 (ev (hd.1 rfl)) rfl (by first | omega | (simp <;> omega)) ⟨Grew.refl _, rfl⟩
        · intro u w hR hd; exact runs_mv (ev rfl) ⟨Grew.refl _, rfl⟩
        · intro u w hR hd; exact runs_mv (ev rfl) ⟨Grew.refl _, rfl⟩
        · intro u w hR hd; exact rn_idx_22 (k) (ev (hd.1 rfl)) (ev (hd.2.1 rfl)) (by omega) ⟨Grew.refl _, rfl⟩
        · intro u w hR hd; exact rn_fld_52_1 (ev (hd.1 rfl)) ⟨Grew.refl _, rfl⟩
        · intro u w hR hd; exact rn_ld_2 (ev (hd.1 rfl)) (c1.kept hR) ⟨Grew.refl _, rfl⟩
        · intro u w hR hd; exact runs_c1 enters_dig (ev (hd.1 rfl)) (callp (fun _ e => e) (rdigits_any _ _ (by omega)))
        · intro u w hR hd; exact rn_cat_9 (ev (hd.1 rfl)) (ev (hd.2.1 rfl)) (by first | omega | (simp <;> omega)) ⟨Grew.refl _, rfl⟩
        · intro u w4 hR h
          have he : u 33 = .string ⟨(pre1 ++ wordT x).toArray⟩ := (h 15 (by decide)).trans (by unfold wordT; simp)
          refine wpAny_one (i := 16) (some 3) (by kernel_rfl) rfl rfl rfl (runs_mva (ev he) ?_)
          refine wpAny_done (by kernel_rfl) ?_ _
          simp only [Act.put, mixA, mixL, cond_true, cond_false, List.setIfInBounds_toArray, List.set_cons_succ, List.set_cons_zero]
          have HG4 := Lib.hid (HG.out.drw.trans hR)
          clear h he c0 c1 d0 d1 hR
          go_wp2
          go_roundg (xs.length - (k + 1))
          case measure => have := HLT.out; omega
          case rel => exact ⟨k + 1, pre1 ++ wordT x, rfl, by go_num, HLT.out, rfl, (by rw [HZ.out]; exact HPL.out), HZ.out, HG4⟩
      · have hkI : ¬ 0 < (k : Int) := by omega
        have HZ : Hid (pre ++ wordT x = textT (xs.take (k + 1))) := Lib.hid (by
          rw [HTK.out, HP.out]
          obtain rfl : k = 0 := by omega
          simp [textT_one, textT_nil])
        have HPL : Hid ((textT (xs.take (k + 1))).length ≤ 44 * (k + 1)) := Lib.hid (by rw [HTK.out]; exact HLN.out)
        clear hk0
        go_wp2
        have hpl2 : pre.length ≤ 44 * k + 1 := by omega
        clear hpl HP
        have c0 : Atv ⟨b', o' + k * 2, none⟩ (.int .i64 x.1) wr.drew := Grew.atv (Grew.refl _).drw d0
        have c1 : Atv ⟨b', o' + k * 2 + 1, none⟩ (.int .i64 x.2) wr.drew := Grew.atv (Grew.refl _).drw d1
        refine wp_grew_tail 16 [some 18, some 19, some 20, some 21, some 22, some 23, some 24, some 25, some 26, some 27, some 28, some 29, some 30, some 31, some 32, some 33] [false, false, false, false, false, false, false, false, false, false, false, false, false, false, false, false, false, false, true, true, true, true, true, true, true, true, true, true, true, true, true, true, true, true, false] [fun v _ => v = .string ⟨(pre).toArray⟩, fun v _ => v = .slice (some ⟨b', o', none⟩) (xs.length) (c), fun v _ => v = .int .i64 (((k : Nat) : Int)), fun v _ => v = .pointer (some ⟨b', o' + k * 2, none⟩), fun v _ => v = .pointer (some ⟨b', o' + k * 2, none⟩), fun v _ => v = .int .i64 (x.1), fun v _ => v = .string ⟨(itoa (x.1)).toArray⟩, fun v _ => v = .string ⟨((pre) ++ (itoa (x.1))).toArray⟩, fun v _ => v = .string ⟨(((pre) ++ (itoa (x.1))) ++ ([64])).toArray⟩, fun v _ => v = .slice (some ⟨b', o', none⟩) (xs.length) (c), fun v _ => v = .int .i64 (((k : Nat) : Int)), fun v _ => v = .pointer (some ⟨b', o' + k * 2, none⟩), fun v _ => v = .pointer (some ⟨b', o' + k * 2 + 1, none⟩), fun v _ => v = .int .i64 (x.2), fun v _ => v = .string ⟨(itoa (x.2)).toArray⟩, fun v _ => v = .string ⟨((((pre) ++ (itoa (x.1))) ++ ([64])) ++ (itoa (x.2))).toArray⟩] (by kernel_rfl) (by kernel_rfl) (by kernel_rfl) rfl ?_ ⟨?_, ?_, ?_, ?_, ?_, ?_, ?_, ?_, ?_, ?_, ?_, ?_, ?_, ?_, ?_, ?_, trivial⟩ ?_
        · exact ⟨fun _ _ _ _ h => h, fun _ _ _ _ h => h, fun _ _ _ _ h => h, fun _ _ _ _ h => h, fun _ _ _ _ h => h, fun _ _ _ _ h => h, fun _ _ _ _ h => h, fun _ _ _ _ h => h, fun _ _ _ _ h => h, fun _ _ _ _ h => h, fun _ _ _ _ h => h, fun _ _ _ _ h => h, fun _ _ _ _ h => h, fun _ _ _ _ h => h, fun _ _ _ _ h => h, fun _ _ _ _ h => h, trivial⟩
        · intro u w hR hd; exact runs_mv (ev rfl) ⟨Grew.refl _, rfl⟩
        · intro u w hR hd; exact runs_mv (ev rfl) ⟨Grew.refl _, rfl⟩
        · intro u w hR hd; exact runs_mv (ev rfl) ⟨Grew.refl _, rfl⟩
        · intro u w hR hd; exact rn_idx_22 (k) (ev (hd.1 rfl)) (ev (hd.2.1 rfl)) (by omega) ⟨Grew.refl _, rfl⟩
        · intro u w hR hd; exact rn_fld_52_0 (ev (hd.1 rfl)) ⟨Grew.refl _, rfl⟩
        · intro u w hR hd; exact rn_ld_3 (ev (hd.1 rfl)) (c0.kept hR) ⟨Grew.refl _, rfl⟩
        · intro u w hR hd; exact runs_c1 enters_dig (ev (hd.1 rfl)) (callp (fun _ e => e) (rdigits_any _ _ (by omega)))
        · intro u w hR hd; exact rn_cat_9 (ev (hd.1 rfl)) (ev (hd.2.1 rfl)) (by first | omega | (simp <;> omega)) ⟨Grew.refl _, rfl⟩
        · intro u w hR hd; exact rn_cat_9 (ev (hd.1 rfl)) rfl (by first | omega | (simp <;> omega)) ⟨Grew.refl _, rfl⟩
        · intro u w hR hd; exact runs_mv (ev rfl) ⟨Grew.refl _, rfl⟩
        · intro u w hR hd; exact runs_mv (ev rfl) ⟨Grew.refl _, rfl⟩
        · intro u w hR hd; exact rn_idx_22 (k) (ev (hd.1 rfl)) (ev (hd.2.1 rfl)) (by omega) ⟨Grew.refl _, rfl⟩
        · intro u w hR hd; exact rn_fld_52_1 (ev (hd.1 rfl)) ⟨Grew.refl _, rfl⟩
        · intro u w hR hd; exact rn_ld_2 (ev (hd.1 rfl)) (c1.kept hR) ⟨Grew.refl _, rfl⟩
        · intro u w hR hd; exact runs_c1 enters_dig (ev (hd.1 rfl)) (callp (fun _ e => e) (rdigits_any _ _ (by omega)))
        · intro u w hR hd; exact rn_cat_9 (ev (hd.1 rfl)) (ev (hd.2.1 rfl)) (by first | omega | (simp <;> omega)) ⟨Grew.refl _, rfl⟩
        · intro u w4 hR h
          have he : u 33 = .string ⟨(pre ++ wordT x).toArray⟩ := (h 15 (by decide)).trans (by unfold wordT; simp)
          refine wpAny_one (i := 16) (some 3) (by kernel_rfl) rfl rfl rfl (runs_mva (ev he) ?_)
          refine wpAny_done (by kernel_rfl) ?_ _
          simp only [Act.put, mixA, mixL, cond_true, cond_false, List.setIfInBounds_toArray, List.set_cons_succ, List.set_cons_zero]
          have HG4 := Lib.hid (HG.out.drw.trans hR)
          clear h he c0 c1 d0 d1 hR
          go_wp2
          go_roundg (xs.length - (k + 1))
          case measure => have := HLT.out; omega
          case rel => exact ⟨k + 1, pre ++ wordT x, rfl, by go_num, HLT.out, rfl, (by rw [HZ.out]; exact HPL.out), HZ.out, HG4⟩
    · obtain rfl : k = xs.length := by omega
      have HZ := Lib.hid (show pre = textT xs by rw [HP.out, List.take_length])
      go_wp2
      go_ret
      exact ⟨ret_string (by rw [HZ.out]), HG.out⟩
theorem rformat_no (p : Option Addr) (n c : Nat) (xs : List It) (w : World) (h : Rw 2 itc w p c xs) (hn : xs.length = n) (hg : okL xs = false) :
    Calls Tryd.prog 16 #[.slice p n c] w fun e w' => e = .returned (.string ⟨#[]⟩) ∧ Grew w w' := by
  have HV := Lib.hid (rvalid_any p n c xs w h hn)
  rw [hg] at HV
  clear h hn
  go_enter Tryd.func16, Tryd.ntmps16
  go_wp2_with (go_at_call 15; (with_reducible refine (HV.out).mono ?_); rintro e w1 ⟨rfl, g1⟩; have HG1 := Lib.hid g1; clear g1)
  go_ret
  exact ⟨rfl, HG1.out⟩
theorem rformat_any (p : Option Addr) (n c : Nat) (xs : List It) (w : World) (h : Rw 2 itc w p c xs) (hn : xs.length = n) (hl : xs.length ≤ 1000) :
    Calls Tryd.prog 16 #[.slice p n c] w fun e w' => e = .returned (.string ⟨(fmtL xs).toArray⟩) ∧ Grew w w' := by
  cases hg : okL xs with
  | true =>
    have := rformat_ok p n c xs w h hn hg hl
    rwa [show fmtL xs = textT xs from if_pos hg]
  | false =>
    have := rformat_no p n c xs w h hn hg
    rwa [show fmtL xs = [] from if_neg (by rw [hg]; decide)]
end Go.Proofs.YtapgpdgbdmnkgaaDoor
