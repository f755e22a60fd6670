/-
  LAYER 8 (capacitor): the reference's Same, the statements' Schedules.
-/
import Derived.Test.YtjepjcdobgdacaaCapSchedR
import Derived.BigQuiet
import Derived.Deep.QuietTactic
namespace Go.Proofs.Ytjepjcdobgdacaa
open Go Go.RowKit Go.IntWalk
set_option linter.unusedSimpArgs false
set_option maxRecDepth 8000

set_option maxHeartbeats 4000000 in
theorem same_any (p : Option Addr) (n c : Nat) (q : Option Addr) (d : Nat) (xs : List It) (w0 : World) (hl : xs.length = n) (hx : RdI w0 p c xs) (hy : RdI w0 q d xs) :
    Calls Try.prog 24 #[.slice p n c, .slice q n d] w0 fun e w' => e = .returned (.bool true) ∧ Grew w0 w' := by
  subst hl
  have HX := Lib.hid hx
  have HY := Lib.hid hy
  have hcap := hx.cap
  have hmax := hx.max
  clear hx hy
  go_enter Try.func24, Try.ntmps24
  go_wp2
  go_loopg [13] xs.length (fun gg iv wr => ∃ k : Nat, iv = .int .i64 (k : Int) ∧ k ≤ xs.length ∧ gg = xs.length - k ∧ Hid (Grew w0 wr))
  case atStart => exact ⟨0, rfl, Nat.zero_le _, rfl, Lib.hid (Grew.refl _)⟩
  case round =>
    obtain ⟨k, rfl, hk, rfl, HG⟩ := hrel
    by_cases hlt : k < xs.length
    · obtain ⟨b1, o1, rfl, hcc⟩ := (HX.out.kept (HG.out.drw)).cells (by omega)
      obtain ⟨b2, o2, rfl, hdd⟩ := (HY.out.kept (HG.out.drw)).cells (by omega)
      obtain ⟨d0, d1⟩ := hcc k xs[k] (by simp [hlt])
      obtain ⟨e0, e1⟩ := hdd k xs[k] (by simp [hlt])
      have HLT := Lib.hid (Nat.succ_le_of_lt hlt)
      generalize xs[k] = y at d0 d1 e0 e1
      obtain ⟨y1, y2⟩ := y
      simp only at d0 d1 e0 e1
      clear hcc hdd
      go_wp2
      go_region
      go_wp2
      go_roundg (xs.length - (k + 1))
      case measure => have := HLT.out; omega
      case rel => exact ⟨k + 1, by go_num, HLT.out, rfl, Lib.hid (HG.out.drw)⟩
    · obtain rfl : k = xs.length := by omega
      go_wp2
      go_ret
      exact ⟨rfl, HG.out⟩
theorem both_any (c o f ld : Int) (p : Option Addr) (n cap : Nat) (xs : List It) (w0 : World) (hl : xs.length = n) (hx : RdI w0 p cap xs) : ∃ (L : List It) (e0 : Int), 
    (∀ (W : World) {p' c' base : _}, OwI W base 53 (.slice p' xs.length c') xs → Calls Try.prog 22 #[cfv c o f, .int .i64 ld, .slice p' xs.length c'] W fun e w' => ∃ q d, e = .returned (.tuple #[.slice q L.length d, .int .i64 e0]) ∧ RdI w' q d L ∧ Grew W w') ∧
    (∀ (W : World), Grew w0 W → Calls Try.prog 23 #[cfv c o f, .int .i64 ld, .slice p n cap] W fun e w' => ∃ q d, e = .returned (.tuple #[.slice q L.length d, .int .i64 e0]) ∧ RdI w' q d L ∧ Grew W w') := by
  cases hk : okS c o f ld xs with
  | true => exact ⟨(run ld xs (sm0 c o f)).L, 0, fun W p' c' base hO => sched_ok c o f ld p' xs.length c' xs W rfl hO.rd.2 hk, fun W hg => rsched_ok c o f ld p n cap xs W hl (hx.kept hg) hk⟩
  | false => exact ⟨[], 1, fun W p' c' base hO => (sched_bad c o f ld p' xs.length c' xs W rfl hO.rd.2 hk).mono fun e w' h => ⟨none, 0, h.1, RdI.nil _, h.2⟩, fun W hg => (rsched_bad c o f ld p n cap xs W hl (hx.kept hg) hk).mono fun e w' h => ⟨none, 0, h.1, RdI.nil _, h.2⟩⟩
set_option maxHeartbeats 16000000 in
theorem schedules_law (c o f ld : Int) (p : Option Addr) (n cap : Nat) (xs : List It) (w0 : World) (hl : xs.length = n) (hx : RdI w0 p cap xs) :
    Calls Try.prog 4 #[cfv c o f, .int .i64 ld, .slice p n cap] w0 fun e w' => e = .returned (.bool true) ∧ Grew w0 w' := by
  subst hl
  have HX := Lib.hid hx
  have hcap := hx.cap
  have hmax := hx.max
  have HB := Lib.hid (Grew.refl w0)
  have HRT : Hid (∀ W : World, Grew w0 W → Calls Try.prog 21 #[cfv c o f, .int .i64 ld, .slice p xs.length cap] W fun e w' => e = .returned (.bool (okS c o f ld xs)) ∧ Grew W w') := Lib.hid fun W hg => right_any c o f ld p xs.length cap xs W rfl (hx.kept hg)
  have HF : Hid (∀ W : World, Calls Try.prog 11 #[cfv c o f] W fun e w' => e = .returned (cfv c o f) ∧ Grew W w') := Lib.hid fun W => config_any c o f W
  obtain ⟨L, e0, hsp, hsr⟩ := both_any c o f ld p xs.length cap xs w0 rfl hx
  have HSP := Lib.hid hsp
  have HSR := Lib.hid hsr
  clear hx hsp hsr
  go_enter Try.func4, Try.ntmps4
  go_wp2_with (first
    | (go_at_call 9; (with_reducible refine (awake_any _).mono ?_); rintro e w1 ⟨rfl, g0⟩; have HQ : Hid (CfB w0.heap.size c o f w1) := Lib.hid (CfB.grew (heap_alloc_new w0 _) g0); obtain ⟨q0, q1, q2, ql⟩ := HQ.out.cs; replace HB := Lib.hid ((HB.out.al _).trans g0); clear g0))
  clear q0 q1 q2 ql
  go_loopg [7, 21] xs.length (fun gg tv iv wr => ∃ (k : Nat) (z : Int), tv = .int .i64 z ∧ iv = .int .i64 (k : Int) ∧ k ≤ xs.length ∧ gg = xs.length - k ∧ Hid (Grew w1 wr))
  case atStart => exact ⟨0, 0, rfl, rfl, Nat.zero_le _, rfl, Lib.hid (Grew.refl _)⟩
  case round =>
    obtain ⟨k, z, rfl, rfl, hk, rfl, HG⟩ := hrel
    by_cases hlt : k < xs.length
    · obtain ⟨b', o', rfl, hcc⟩ := (HX.out.kept (HB.out.trans HG.out)).cells (by omega)
      obtain ⟨d0, d1⟩ := hcc k xs[k] (by simp [hlt])
      have hlb : b' < wr.heap.size := World.block_lt_of_cell? _ _ d0
      have HLT := Lib.hid (Nat.succ_le_of_lt hlt)
      generalize xs[k] = y at d0 d1
      obtain ⟨y1, y2⟩ := y
      simp only at d0 d1
      clear hcc
      rcases Int.lt_or_le 0 y2 with hy | hy
      · obtain ⟨q, hq⟩ : ∃ q, IntKind.i64.wrap (z + y2) = q := ⟨_, rfl⟩
        rcases Int.lt_or_le 2199023255552 q with hz | hz
        · go_wp2
          go_roundg (xs.length - (k + 1))
          case measure => have := HLT.out; omega
          case rel => exact ⟨k + 1, 2199023255552, rfl, by go_num, HLT.out, rfl, Lib.hid (HG.out.al _)⟩
        · go_wp2
          go_roundg (xs.length - (k + 1))
          case measure => have := HLT.out; omega
          case rel => exact ⟨k + 1, q, rfl, by go_num, HLT.out, rfl, Lib.hid (HG.out.al _)⟩
      · go_wp2
        go_roundg (xs.length - (k + 1))
        case measure => have := HLT.out; omega
        case rel => exact ⟨k + 1, z, rfl, by go_num, HLT.out, rfl, Lib.hid (HG.out.al _)⟩
    · obtain rfl : k = xs.length := by omega
      obtain ⟨q0, q1, q2, ql⟩ := (HQ.out.grew HG.out).cs
      rcases Nat.lt_or_ge 70 xs.length with h70 | h70
      · go_wp2
        go_ret
        exact ⟨rfl, HB.out.trans HG.out⟩
      · rcases Int.lt_or_le 4000 z with hz | hz
        · cases hV : okS c o f ld xs with
          | true =>
            rw [hV] at HRT
            clear hV
            go_wp2_with (first
              | (go_at_call 21; (with_reducible refine (HRT.out _ (HB.out.trans HG.out)).mono ?_); rintro e w2 ⟨rfl, g0⟩; replace HG := Lib.hid (HG.out.trans g0); clear g0))
            go_ret
            exact ⟨rfl, HB.out.trans HG.out⟩
          | false =>
            rw [hV] at HRT
            clear hV
            go_wp2_with (first
              | (go_at_call 21; (with_reducible refine (HRT.out _ (HB.out.trans HG.out)).mono ?_); rintro e w2 ⟨rfl, g0⟩; replace HG := Lib.hid (HG.out.trans g0); clear g0))
            go_wp2
            go_loopg [10, 49] xs.length (fun gg sv iv wr => ∃ (k : Nat) (p1 : Option Addr) (c1 : Nat), sv = .slice p1 k c1 ∧ iv = .int .i64 (k : Int) ∧ k ≤ xs.length ∧ gg = xs.length - k ∧ Hid (OwI wr w1.heap.size 53 (.slice p1 k c1) (xs.take k)) ∧ Hid (Grew w1 wr))
            case atStart => exact ⟨0, none, 0, rfl, rfl, Nat.zero_le _, rfl, Lib.hid (OwI.nil _ _ _), HG⟩
            clear q0 q1 q2 ql
            case round =>
              obtain ⟨k, p1, c1, rfl, rfl, hk, rfl, HO, HW2⟩ := hrel
              by_cases hlt : k < xs.length
              · obtain ⟨b', o', rfl, hcc⟩ := (HX.out.kept (HB.out.trans HW2.out)).cells (by omega)
                obtain ⟨d0, d1⟩ := hcc k xs[k] (by simp [hlt])
                have hlb : b' < wr.heap.size := World.block_lt_of_cell? _ _ d0
                have HLT := Lib.hid (Nat.succ_le_of_lt hlt)
                have HKL : Hid ((xs.take k).length = k ∧ xs.length ≤ 70) := Lib.hid ⟨by simp; omega, h70⟩
                have HSN := Lib.hid (take_snoc hlt)
                generalize xs[k] = y at d0 d1 HSN
                obtain ⟨y1, y2⟩ := y
                simp only at d0 d1 HSN
                clear hcc
                go_wp2_with (at_builtin; refine wpList_appendSt rfl _ _ rfl w1.heap.size p1 k c1 (xs.take k) rfl (OwI.kept (OwI.kept HO.out ((Grew.refl _).al _)) ((Grew.refl _).al _)) _ _ _ [(y1, y2)] rfl rfl (made1 _ _ _ _ _ _ (by simp) rfl) (by have := HKL.out; simp; omega) (by have := HW2.out.size; simp; omega) ?_; intro p2 c2 zs2 w3 hz2 ho2 hb2 ht2; have HO2 := Lib.hid ho2; have HW3 := Lib.hid (Below.trans (((HW2.out.al _).al _)) hb2); clear ho2 hb2 ht2)
                have hl2 : zs2.length = k + 1 := by rw [hz2.out, List.length_append, HKL.out.1]; rfl
                have HO3 : Hid (OwI w3 w1.heap.size 53 (.slice p2 zs2.length c2) zs2) := HO2
                rw [hl2] at HO3 ⊢
                rw [hz2.out, ← HSN.out] at HO3
                clear hl2
                go_roundg (xs.length - (k + 1))
                case measure => have := HLT.out; omega
                case rel => exact ⟨k + 1, p2, c2, rfl, by go_num, HLT.out, rfl, HO3, HW3⟩
              · obtain rfl : k = xs.length := by omega
                rw [List.take_length] at HO
                obtain ⟨q0, q1, q2, ql⟩ := (HQ.out.grew HW2.out).cs
                go_wp2_with (first
                  | (go_at_call 11; (with_reducible refine (HF.out _).mono ?_); rintro e w4 ⟨rfl, g0⟩; replace HW2 := Lib.hid (HW2.out.trans g0); replace HO := Lib.hid (HO.out.kept g0); clear g0; clear q0 q1 q2 ql; obtain ⟨q0, q1, q2, ql⟩ := (HQ.out.grew HW2.out).cs)
                  | (go_at_call 22; (with_reducible refine (HSP.out _ HO.out).mono ?_); rintro e w5 ⟨q, d, rfl, r5, g0⟩; have HR5 := Lib.hid r5; replace HW2 := Lib.hid (HW2.out.trans g0); clear g0 r5; clear q0 q1 q2 ql; obtain ⟨q0, q1, q2, ql⟩ := (HQ.out.grew HW2.out).cs)
                  | (go_at_call 23; (with_reducible refine (HSR.out _ (HB.out.trans HW2.out)).mono ?_); rintro e w6 ⟨q6, d6, rfl, r6, g0⟩; have HR6 := Lib.hid r6; replace HR5 := Lib.hid (HR5.out.kept g0); replace HW2 := Lib.hid (HW2.out.trans g0); clear g0 r6)
                  | (go_at_call 24; (with_reducible refine (same_any q L.length d q6 d6 L _ rfl HR5.out HR6.out).mono ?_); rintro e w7 ⟨rfl, g0⟩; replace HW2 := Lib.hid (HW2.out.trans g0); clear g0))
                go_ret
                exact ⟨rfl, HB.out.trans HW2.out⟩
        · have hz : z ≤ 4000 := hz
          go_wp2
          go_loopg [10, 49] xs.length (fun gg sv iv wr => ∃ (k : Nat) (p1 : Option Addr) (c1 : Nat), sv = .slice p1 k c1 ∧ iv = .int .i64 (k : Int) ∧ k ≤ xs.length ∧ gg = xs.length - k ∧ Hid (OwI wr w1.heap.size 53 (.slice p1 k c1) (xs.take k)) ∧ Hid (Grew w1 wr))
          case atStart => exact ⟨0, none, 0, rfl, rfl, Nat.zero_le _, rfl, Lib.hid (OwI.nil _ _ _), HG⟩
          clear q0 q1 q2 ql
          case round =>
            obtain ⟨k, p1, c1, rfl, rfl, hk, rfl, HO, HW2⟩ := hrel
            by_cases hlt : k < xs.length
            · obtain ⟨b', o', rfl, hcc⟩ := (HX.out.kept (HB.out.trans HW2.out)).cells (by omega)
              obtain ⟨d0, d1⟩ := hcc k xs[k] (by simp [hlt])
              have hlb : b' < wr.heap.size := World.block_lt_of_cell? _ _ d0
              have HLT := Lib.hid (Nat.succ_le_of_lt hlt)
              have HKL : Hid ((xs.take k).length = k ∧ xs.length ≤ 70) := Lib.hid ⟨by simp; omega, h70⟩
              have HSN := Lib.hid (take_snoc hlt)
              generalize xs[k] = y at d0 d1 HSN
              obtain ⟨y1, y2⟩ := y
              simp only at d0 d1 HSN
              clear hcc
              go_wp2_with (at_builtin; refine wpList_appendSt rfl _ _ rfl w1.heap.size p1 k c1 (xs.take k) rfl (OwI.kept (OwI.kept HO.out ((Grew.refl _).al _)) ((Grew.refl _).al _)) _ _ _ [(y1, y2)] rfl rfl (made1 _ _ _ _ _ _ (by simp) rfl) (by have := HKL.out; simp; omega) (by have := HW2.out.size; simp; omega) ?_; intro p2 c2 zs2 w3 hz2 ho2 hb2 ht2; have HO2 := Lib.hid ho2; have HW3 := Lib.hid (Below.trans (((HW2.out.al _).al _)) hb2); clear ho2 hb2 ht2)
              have hl2 : zs2.length = k + 1 := by rw [hz2.out, List.length_append, HKL.out.1]; rfl
              have HO3 : Hid (OwI w3 w1.heap.size 53 (.slice p2 zs2.length c2) zs2) := HO2
              rw [hl2] at HO3 ⊢
              rw [hz2.out, ← HSN.out] at HO3
              clear hl2
              go_roundg (xs.length - (k + 1))
              case measure => have := HLT.out; omega
              case rel => exact ⟨k + 1, p2, c2, rfl, by go_num, HLT.out, rfl, HO3, HW3⟩
            · obtain rfl : k = xs.length := by omega
              rw [List.take_length] at HO
              obtain ⟨q0, q1, q2, ql⟩ := (HQ.out.grew HW2.out).cs
              go_wp2_with (first
                | (go_at_call 11; (with_reducible refine (HF.out _).mono ?_); rintro e w4 ⟨rfl, g0⟩; replace HW2 := Lib.hid (HW2.out.trans g0); replace HO := Lib.hid (HO.out.kept g0); clear g0; clear q0 q1 q2 ql; obtain ⟨q0, q1, q2, ql⟩ := (HQ.out.grew HW2.out).cs)
                | (go_at_call 22; (with_reducible refine (HSP.out _ HO.out).mono ?_); rintro e w5 ⟨q, d, rfl, r5, g0⟩; have HR5 := Lib.hid r5; replace HW2 := Lib.hid (HW2.out.trans g0); clear g0 r5; clear q0 q1 q2 ql; obtain ⟨q0, q1, q2, ql⟩ := (HQ.out.grew HW2.out).cs)
                | (go_at_call 23; (with_reducible refine (HSR.out _ (HB.out.trans HW2.out)).mono ?_); rintro e w6 ⟨q6, d6, rfl, r6, g0⟩; have HR6 := Lib.hid r6; replace HR5 := Lib.hid (HR5.out.kept g0); replace HW2 := Lib.hid (HW2.out.trans g0); clear g0 r6)
                | (go_at_call 24; (with_reducible refine (same_any q L.length d q6 d6 L _ rfl HR5.out HR6.out).mono ?_); rintro e w7 ⟨rfl, g0⟩; replace HW2 := Lib.hid (HW2.out.trans g0); clear g0))
              go_ret
              exact ⟨rfl, HB.out.trans HW2.out⟩
end Go.Proofs.Ytjepjcdobgdacaa
