/-
  LAYER 8 (capacitor): the statements' EnergyBalance.
-/
import Derived.Test.YtjepjcdobgdacaaCapLaw1
import Derived.Test.YtjepjcdobgdacaaCapSchedP
import Derived.Test.YtjepjcdobgdacaaCapApp
namespace Go.Proofs.Ytjepjcdobgdacaa
open Go Go.RowKit Go.IntWalk
set_option linter.unusedSimpArgs false
set_option maxRecDepth 8000

theorem hs_next {xs : List It} {k : Nat} (hk : k < xs.length) : hs (xs.take (k + 1)) = hs (xs.take k) + (xs[k]).1 * (xs[k]).2 := by
  rw [take_snoc hk, hs_append]
  simp [hs]
theorem hs_bound {l : List It} (h : okL l = true) : 0 ≤ hs l ∧ hs l ≤ 1048576 * tot l := by
  induction l with
  | nil => simp [hs, tot]
  | cons y l ih =>
    have h' := okL_iff.1 h
    obtain ⟨hp, ht⟩ := h' y (List.mem_cons_self ..)
    obtain ⟨p0, p1⟩ := okP_iff.1 hp
    obtain ⟨t0, t1⟩ := okT_iff.1 ht
    obtain ⟨i0, i1⟩ := ih (okL_iff.2 fun z hz => h' z (List.mem_cons_of_mem _ hz))
    have m0 := Int.mul_nonneg p0 t0
    have m1 : y.1 * y.2 ≤ 1048576 * y.2 := Int.mul_le_mul_of_nonneg_right p1 t0
    simp only [hs, tot, Int.mul_add]
    omega
theorem tot_take {l : List It} (h : okL l = true) (k : Nat) : tot (l.take k) ≤ tot l := by
  have := tot_append (l.take k) (l.drop k)
  rw [List.take_append_drop] at this
  have h2 : 0 ≤ tot (l.drop k) := tot_nonneg (okL_iff.2 fun y hy => okL_iff.1 h y (List.mem_of_mem_drop hy))
  omega
theorem sumE_next {xs : List It} {k : Nat} (hk : k < xs.length) : sumE (xs.take (k + 1)) = sumE (xs.take k) + (xs[k]).1 := by
  rw [take_snoc hk, sumE_append]
  simp [sumE]
theorem wp_at8 {P : Program} {c : Code} {Q : Exit → Act → World → Prop} {a : Act} {w : World} (F : World → Prop) (hF : F w) (h : ∀ W, F W → c.wp P Q a W) : c.wp P Q a w := h w hF
set_option maxHeartbeats 8000000 in
theorem balance_law (c o f ld : Int) (p : Option Addr) (n cap : Nat) (xs : List It) (w0 : World) (hl : xs.length = n) (hx : RdI w0 p cap xs) (hld : 0 ≤ ld ∧ ld ≤ 255) :
    Calls Try.prog 8 #[cfv c o f, .int .u8 ld, .slice p n cap] w0 fun e w' => e = .returned (.bool true) ∧ Grew w0 w' := by
  subst hl
  have HX := Lib.hid hx
  have hcap := hx.cap
  have hmax := hx.max
  obtain ⟨l0, l1⟩ := hld
  have HB := Lib.hid (Grew.refl w0)
  have HRT : Hid (∀ W : World, Grew w0 W → Calls Try.prog 21 #[cfv c o f, .int .i64 ld, .slice p xs.length cap] W fun e w' => e = .returned (.bool (okS c o f ld xs)) ∧ Grew W w') := Lib.hid fun W hg => right_any c o f ld p xs.length cap xs W rfl (hx.kept hg)
  have HF : Hid (∀ W : World, Calls Try.prog 11 #[cfv c o f] W fun e w' => e = .returned (cfv c o f) ∧ Grew W w') := Lib.hid fun W => config_any c o f W
  clear hx
  cases hk : okS c o f ld xs with
  | false =>
    rw [hk] at HRT
    clear hk
    go_enter Try.func8, Try.ntmps8
    go_wp2_with (first
      | (go_at_call 9; (with_reducible refine (awake_any _).mono ?_); rintro e w1 ⟨rfl, g0⟩; have HQ : Hid (CfB w0.heap.size c o f w1) := Lib.hid (CfB.grew (heap_alloc_new w0 _) g0); obtain ⟨q0, q1, q2, ql⟩ := HQ.out.cs; replace HB := Lib.hid ((HB.out.al _).trans g0); clear g0)
      | (go_at_call 21; (with_reducible refine (HRT.out _ HB.out).mono ?_); rintro e w2 ⟨rfl, g0⟩; replace HQ := Lib.hid (HQ.out.grew g0); clear q0 q1 q2 ql; obtain ⟨q0, q1, q2, ql⟩ := HQ.out.cs; replace HB := Lib.hid (HB.out.trans g0); clear g0))
    go_ret
    exact ⟨rfl, HB.out⟩
  | true =>
    rw [hk] at HRT
    have HSC : Hid (∀ (W : World) {p c' base : _}, OwI W base 53 (.slice p xs.length c') xs → Calls Try.prog 22 #[cfv c o f, .int .i64 ld, .slice p xs.length c'] W fun e w' => ∃ q d, e = .returned (.tuple #[.slice q (run ld xs (sm0 c o f)).L.length d, .int .i64 0]) ∧ RdI w' q d (run ld xs (sm0 c o f)).L ∧ Grew W w') := Lib.hid fun W p c' base hO => sched_ok c o f ld p xs.length c' xs W rfl hO.rd.2 hk
    have hk0 := hk
    rw [okS_eq] at hk
    simp only [Bool.and_eq_true, decide_eq_true_eq] at hk
    obtain ⟨⟨h1, h2, h3⟩, h4⟩ := hk
    simp only [okV, Bool.and_eq_true, decide_eq_true_eq] at h4
    obtain ⟨⟨h5, h6⟩, h7⟩ := h4
    have htn : tn xs ≤ 65536 := by have := tot_tn h6; omega
    have HGd : Hid (Gd (tn xs) ld (hs xs) (run ld xs (sm0 c o f)) ∧ tn xs ≤ 65536) := Lib.hid ⟨by
      have := Gd.run ⟨h2, h3⟩ xs (gd0 ld h1) h6
      rwa [Nat.zero_add, Int.zero_add] at this, htn⟩
    have HL := Lib.hid h6
    have H7 := Lib.hid h7
    clear hk0 h1 h3 h6 h7 htn
    generalize run ld xs (sm0 c o f) = s at HSC HGd
    have hLn : s.L.length ≤ 65536 := Nat.le_trans HGd.out.1.len HGd.out.2
    go_enter Try.func8, Try.ntmps8
    go_wp2_with (first
      | (go_at_call 9; (with_reducible refine (awake_any _).mono ?_); rintro e w1 ⟨rfl, g0⟩; have HQ : Hid (CfB w0.heap.size c o f w1) := Lib.hid (CfB.grew (heap_alloc_new w0 _) g0); obtain ⟨q0, q1, q2, ql⟩ := HQ.out.cs; replace HB := Lib.hid ((HB.out.al _).trans g0); clear g0)
      | (go_at_call 21; (with_reducible refine (HRT.out _ HB.out).mono ?_); rintro e w2 ⟨rfl, g0⟩; replace HQ := Lib.hid (HQ.out.grew g0); clear q0 q1 q2 ql; obtain ⟨q0, q1, q2, ql⟩ := HQ.out.cs; replace HB := Lib.hid (HB.out.trans g0); clear g0))
    clear HRT q0 q1 q2 ql
    go_loopg [7, 8, 9, 27] xs.length (fun gg sv hv tv iv wr => ∃ (k : Nat) (p1 : Option Addr) (c1 : Nat) (H Tt : Int), sv = .slice p1 k c1 ∧ hv = .int .i64 H ∧ tv = .int .i64 Tt ∧ iv = .int .i64 (k : Int) ∧ k ≤ xs.length ∧ gg = xs.length - k ∧ (0 ≤ H ∧ H ≤ 68719476736) ∧ (0 ≤ Tt ∧ Tt ≤ 65536) ∧ Hid (H = hs (xs.take k)) ∧ Hid (Tt = tot (xs.take k)) ∧ Hid (OwI wr w2.heap.size 53 (.slice p1 k c1) (xs.take k)) ∧ Hid (Grew w2 wr))
    case atStart => exact ⟨0, none, 0, 0, 0, rfl, rfl, rfl, rfl, Nat.zero_le _, rfl, by omega, by omega, Lib.hid rfl, Lib.hid rfl, Lib.hid (OwI.nil _ _ _), Lib.hid (Grew.refl _)⟩
    case round =>
      obtain ⟨k, p1, c1, H, Tt, rfl, rfl, rfl, rfl, hk, rfl, ⟨e0, e1⟩, ⟨e2, e3⟩, HH, HTt, HO, HW2⟩ := hrel
      by_cases hlt : k < xs.length
      · obtain ⟨b', o', rfl, hcc⟩ := (HX.out.kept (HB.out.trans HW2.out)).cells (by omega)
        obtain ⟨d0, d1⟩ := hcc k xs[k] (by simp [hlt])
        have hlb : b' < wr.heap.size := World.block_lt_of_cell? _ _ d0
        have HLT := Lib.hid (Nat.succ_le_of_lt hlt)
        have HKL : Hid ((xs.take k).length = k ∧ xs.length ≤ 64) := Lib.hid ⟨by simp; omega, h5⟩
        have HHN := Lib.hid (hs_next hlt)
        have HTN := Lib.hid (tot_next hlt)
        have HSN := Lib.hid (take_snoc hlt)
        have hbn := hs_bound (okL_take HL.out (k + 1))
        have htt := tot_take HL.out (k + 1)
        have htb := tot_nonneg (okL_take HL.out (k + 1))
        have HOK := Lib.hid (okL_iff.1 HL.out _ (List.getElem_mem hlt))
        have hmb := mul_bound HOK.out.1 HOK.out.2
        generalize xs[k] = y at d0 d1 HHN HTN HSN HOK hmb
        obtain ⟨y1, y2⟩ := y
        simp only at d0 d1 HHN HTN HSN HOK hmb
        have hH : H + y1 * y2 = hs (xs.take (k + 1)) := by rw [HHN.out, HH.out]
        have hT : Tt + y2 = tot (xs.take (k + 1)) := by rw [HTN.out, HTt.out]
        have b1 : 0 ≤ H + y1 * y2 ∧ H + y1 * y2 ≤ 68719476736 := by have := H7.out; omega
        have b2 : 0 ≤ Tt + y2 ∧ Tt + y2 ≤ 65536 := by have := H7.out; omega
        have hw1 : IntKind.i64.wrap (y1 * y2) = y1 * y2 := IntWalk.i64_in _ (by omega)
        have hw2 : IntKind.i64.wrap (H + y1 * y2) = H + y1 * y2 := IntWalk.i64_in _ (by omega)
        have hw3 : IntKind.i64.wrap (Tt + y2) = Tt + y2 := IntWalk.i64_in _ (by omega)
        have HHH := Lib.hid hH
        have HTT := Lib.hid hT
        have HB1 := Lib.hid b1
        have HB2 := Lib.hid b2
        clear hcc hH hT b1 b2 hbn htt htb hmb HHN HTN HH HTt
        have hbx : ∀ o2 : Obj, ((wr.alloc (.cells #[.int .i64 y1, .int .i64 y2] 50)).alloc o2).heap[wr.heap.size]? = some (Obj.cells #[.int .i64 y1, .int .i64 y2] 50) := fun o2 => ((Grew.refl _).al o2).heap (heap_alloc_new wr _)
        have HBX := Lib.hid hbx
        clear hbx
        go_wp2_with (at_builtin; refine wpList_appendSt rfl _ _ rfl w2.heap.size p1 k c1 (xs.take k) rfl (OwI.kept (OwI.kept HO.out ((Grew.refl _).al _)) ((Grew.refl _).al _)) _ _ _ [(y1, y2)] rfl rfl (made1 _ _ _ _ _ _ (by simp) rfl) (by have := HKL.out; simp; omega) (by have := HW2.out.size; simp; omega) ?_; intro p2 c2 zs2 w3 hz2 ho2 hb2 ht2; obtain ⟨u0, u1, ul⟩ := ht2.box2 (HBX.out _) (by decide); have HO2 := Lib.hid ho2; have HW3 := Lib.hid (Below.trans (((HW2.out.al _).al _)) hb2); clear ho2 hb2 ht2)
        have hl2 : zs2.length = k + 1 := by rw [hz2.out, List.length_append, HKL.out.1]; rfl
        have HO3 : Hid (OwI w3 w2.heap.size 53 (.slice p2 zs2.length c2) zs2) := HO2
        rw [hl2] at HO3 ⊢
        rw [hz2.out, ← HSN.out] at HO3
        have hcast : ((k + 1 : Nat) : Int) = (k : Int) + 1 := by omega
        clear hl2
        go_roundg (xs.length - (k + 1))
        case measure => have := HLT.out; omega
        case rel => exact ⟨k + 1, p2, c2, H + y1 * y2, Tt + y2, rfl, rfl, rfl, by go_num, HLT.out, rfl, HB1.out, HB2.out, HHH, HTT, HO3, HW3⟩
      · obtain rfl : k = xs.length := by omega
        rw [List.take_length] at HH HTt HO
        by_cases ht : 4000 < Tt
        · go_wp2
          go_ret
          exact ⟨rfl, HB.out.trans HW2.out⟩
        · have ht : Tt ≤ 4000 := by omega
          obtain ⟨q0, q1, q2, ql⟩ := (HQ.out.grew HW2.out).cs
          go_wp2_with (first
            | (go_at_call 11; (with_reducible refine (HF.out _).mono ?_); rintro e w4 ⟨rfl, g0⟩; replace HW2 := Lib.hid (HW2.out.trans g0); replace HO := Lib.hid (HO.out.kept g0); clear g0)
            | (go_at_call 22; (with_reducible refine (HSC.out _ HO.out).mono ?_); rintro e w5 ⟨q, d, rfl, r5, g0⟩; have HR5 := Lib.hid r5; replace HW2 := Lib.hid (HW2.out.trans g0); clear g0 r5))
          have hfin : sumE s.L ≤ H + (s.L.length : Int) * ld := by
            have h1 := HGd.out.1.eb
            have h2 := HGd.out.1.e0
            have h3 := HGd.out.1.inv.q0
            rw [HH.out, Int.mul_comm]
            omega
          have hml : 0 ≤ (s.L.length : Int) * ld ∧ (s.L.length : Int) * ld ≤ 16711680 := by
            refine ⟨Int.mul_nonneg (by omega) l0, ?_⟩
            have a1 : (s.L.length : Int) * ld ≤ 65536 * ld := Int.mul_le_mul_of_nonneg_right (by omega) l0
            omega
          have hwa : IntKind.i64.wrap ((s.L.length : Int) * ld) = (s.L.length : Int) * ld := IntWalk.i64_in _ (by omega)
          have hwb : IntKind.i64.wrap (H + (s.L.length : Int) * ld) = H + (s.L.length : Int) * ld := IntWalk.i64_in _ (by omega)
          have HFIN := Lib.hid hfin
          clear hfin hml HH HTt HO HF HL H7
          go_loopg [14, 66] s.L.length (fun gg dv iv wr => ∃ (k : Nat) (z : Int), dv = .int .i64 z ∧ iv = .int .i64 (k : Int) ∧ k ≤ s.L.length ∧ gg = s.L.length - k ∧ (0 ≤ z ∧ z ≤ k * 68719476736) ∧ Hid (z = sumE (s.L.take k)) ∧ Hid (Grew w5 wr))
          case atStart => exact ⟨0, 0, rfl, rfl, Nat.zero_le _, rfl, by omega, Lib.hid rfl, Lib.hid (Grew.refl _)⟩
          case round =>
            obtain ⟨k, z, rfl, rfl, hk, rfl, ⟨z0, z1⟩, HZ, HG⟩ := hrel
            by_cases hlt : k < s.L.length
            · obtain ⟨b', o', rfl, hcc⟩ := (HR5.out.kept HG.out).cells (by omega)
              obtain ⟨d0, d1⟩ := hcc k s.L[k] (by simp [hlt])
              have hlb : b' < wr.heap.size := World.block_lt_of_cell? _ _ d0
              have HLT := Lib.hid (Nat.succ_le_of_lt hlt)
              have HZN := Lib.hid (sumE_next hlt)
              have hmem := List.getElem_mem hlt
              have hof := (HGd.out.1.off _ hmem).1
              have htp := HGd.out.1.top _ hmem
              have hmm := HGd.out.1.ml _ hmem
              have hnn := HGd.out.2
              generalize s.L[k] = y at d0 d1 HZN hof htp hmm
              obtain ⟨y1, y2⟩ := y
              simp only at d0 d1 HZN hof htp hmm
              obtain ⟨d9, hd9⟩ := hmm
              have hy1 : ld ≤ y1 := by
                rw [hd9, Int.mul_add]
                have := Int.mul_nonneg l0 (show (0 : Int) ≤ (d9 : Int) by omega)
                omega
              have hy2 : y1 ≤ 68719476736 := by omega
              have hrem : y1 % ld = 0 := by rw [hd9]; exact Int.mul_emod_right _ _
              have hrm2 : y1.tmod ld = 0 := by rw [hd9]; exact Int.mul_tmod_right _ _
              have b1 : 0 ≤ z + y1 ∧ z + y1 ≤ ((k + 1 : Nat) : Int) * 68719476736 := by omega
              have hw : IntKind.i64.wrap (z + y1) = z + y1 := IntWalk.i64_in _ (by omega)
              have HB1 := Lib.hid b1
              have HZZ : Hid (z + y1 = sumE (s.L.take (k + 1))) := Lib.hid (by rw [HZN.out, HZ.out])
              clear hcc hmem htp hd9 b1 HZN HZ
              go_wp2
              go_roundg (s.L.length - (k + 1))
              case measure => have := HLT.out; omega
              case rel => exact ⟨k + 1, z + y1, rfl, by go_num, HLT.out, rfl, HB1.out, HZZ, Lib.hid (HG.out.al _)⟩
            · obtain rfl : k = s.L.length := by omega
              have hz : z = sumE s.L := by rw [HZ.out, List.take_length]
              have hfin : z ≤ H + (s.L.length : Int) * ld := by rw [hz]; exact HFIN.out
              clear hz
              go_wp2
              go_ret
              refine ⟨?_, (HB.out.trans HW2.out).trans HG.out⟩
              simp [hfin]
end Go.Proofs.Ytjepjcdobgdacaa
