/-
  LAYER 8 (capacitor): the reference's Schedule.
-/
import Derived.Test.YtjepjcdobgdacaaCapLaw2
import Derived.Test.YtjepjcdobgdacaaCapSchedP
import Derived.Test.YtjepjcdobgdacaaCapApp
namespace Go.Proofs.Ytjepjcdobgdacaa
open Go Go.RowKit Go.IntWalk
set_option linter.unusedSimpArgs false
set_option maxRecDepth 8000

/-- What a tick of the reference keeps: the capacitor's box X, the slice of the periods, the step's box T. -/
structure Rr (w0 : World) (X T : Nat) (y1 y2 : Int) (x : Cp) (L : List It) (n : Nat) (p : Option Addr) (c : Nat) (w : World) : Prop where
  box : CapB X x [] 34 w
  own : OwI w w0.heap.size 67 (.slice p n c) L
  stp : w.heap[T]? = some (Obj.cells #[.int .i64 y1, .int .i64 y2] 50)
  grew : Grew w0 w
  farX : w0.heap.size ≤ X
section
variable {w0 w w' w'' : World} {X T : Nat} {y1 y2 : Int} {x : Cp} {L : List It} {n c : Nat} {p : Option Addr}
theorem Rr.on (h : Rr w0 X T y1 y2 x L n p c w) (hg : Grew w w') : Rr w0 X T y1 y2 x L n p c w' := ⟨h.box.grew hg, OwI.kept h.own hg, hg.heap h.stp, h.grew.trans hg, h.farX⟩
theorem Rr.apart (h : Rr w0 X T y1 y2 x L n p c w) : ∀ a, p = some a → a.block ≠ X := h.own.apart h.box (by decide)
theorem Rr.neT (h : Rr w0 X T y1 y2 x L n p c w) : T ≠ X := fun e => by
  have h1 : w.heap[X]? = _ := h.box
  have h2 := h.stp
  rw [e, h1] at h2
  simp at h2
theorem Rr.put (h : Rr w0 X T y1 y2 x L n p c w) (z : Cp) : Rr w0 X T y1 y2 z L n p c (set5 w X z) :=
  ⟨h.box.set5 z, h.own.chg (set5_chg w X z) h.apart, ((set5_chg w X z).block T (lt_of_heap h.stp) h.neT).trans h.stp, grew_lift h.grew (set5_chg w X z) (newb _ _ h.farX), h.farX⟩
theorem Rr.st (h : Rr w0 X T y1 y2 x L n p c w) : w.cell? ⟨T, 0, none⟩ = some (.int .i64 y1) ∧ w.cell? ⟨T, 1, none⟩ = some (.int .i64 y2) ∧ T < w.heap.size ∧ T ≠ X := by
  refine ⟨?_, ?_, lt_of_heap h.stp, h.neT⟩ <;> rw [cells_of_heap h.stp] <;> rfl
theorem Rr.row {g m : Nat} (h : Rr w0 X T y1 y2 x L n (some ⟨g, 0, none⟩) c w) (hm : n = m + 1) : w.cell? ⟨g, m * 2 + 1, none⟩ = some (.int .i64 (L.getD m (0, 0)).2) ∧ w.frozen? ⟨g, m * 2 + 1, none⟩ = false ∧ g ≠ X ∧ g < w.heap.size := by
  have hn := h.own.rd.1
  have hx : L[m]? = some (L.getD m (0, 0)) := by simp [List.getD, show m < L.length by omega]
  have := (h.own.rd.2.cell hx).2
  rw [Nat.zero_add] at this
  exact ⟨this, (h.own.free _).2, h.apart _ rfl, World.block_lt_of_cell? _ _ this⟩
theorem Rr.last {g m : Nat} (h : Rr w0 X T y1 y2 x L n (some ⟨g, 0, none⟩) c w) (hm : n = m + 1) (v : Int) (hv : v = (L.getD m (0, 0)).2 + 1) : Rr w0 X T y1 y2 x (bump L) n (some ⟨g, 0, none⟩) c (w.setCell ⟨g, m * 2 + 1, none⟩ (.int .i64 v)) := by
  have hn := h.own.rd.1
  have hO := OwI.set2 h.own m v (by omega)
  have hg := Chg.set w ⟨g, m * 2 + 1, none⟩ (.int .i64 v)
  have hb : bump L = L.set m ((L.getD m (0, 0)).1, v) := by unfold bump; rw [show L.length - 1 = m by omega, hv]
  obtain ⟨hN, cs, hcs⟩ := h.own.typed _ rfl
  refine ⟨h.box.chg hg (fun e => h.apart _ rfl e.symm), by rw [hb]; exact hO, (hg.block T (lt_of_heap h.stp) (fun e => ?_)).trans h.stp, grew_lift h.grew hg (newb _ _ hN), h.farX⟩
  have h2 := h.stp
  rw [show T = g from e, hcs] at h2
  simp at h2
theorem Rr.added {w1 : World} {zs : List It} {y : It} {p' : Option Addr} {c' : Nat} (h : Rr w0 X T y1 y2 x L n p c w1) (hz : zs = L ++ [y]) (hg : Grew w1 w) (hO : OwI w' w0.heap.size 67 (.slice p' zs.length c') zs) (hb : Below w0.heap.size w w') (ht : Oth 67 w w') : Rr w0 X T y1 y2 x (L ++ [y]) zs.length p' c' w' := by
  have h2 := h.on hg
  refine ⟨ht X _ _ h2.box (by decide), hz ▸ hO, ht T _ _ h2.stp (by decide), ?_, h.farX⟩
  exact Below.trans (show Below w0.heap.size w0 w from h2.grew) hb
end
/-- What the outer loop keeps. -/
structure Ro (w0 : World) (X : Nat) (ld : Int) (s : Sm) (d : Int) (n : Nat) (p : Option Addr) (c : Nat) (w : World) : Prop where
  box : CapB X s.x [] 34 w
  own : OwI w w0.heap.size 67 (.slice p n c) s.L
  grew : Grew w0 w
  farX : w0.heap.size ≤ X
  en : s.en = ld * d
theorem Rr.out {w0 w : World} {X T : Nat} {y1 y2 ld d : Int} {s : Sm} {n c : Nat} {p : Option Addr} (h : Rr w0 X T y1 y2 s.x s.L n p c w) (he : s.en = ld * d) : Ro w0 X ld s d n p c w := ⟨h.box, h.own, h.grew, h.farX, he⟩
theorem Ro.inn {w0 w : World} {X : Nat} {ld d y1 y2 : Int} {s : Sm} {n c : Nat} {p : Option Addr} (h : Ro w0 X ld s d n p c w) : Rr w0 X w.heap.size y1 y2 s.x s.L n p c (w.alloc (.cells #[.int .i64 y1, .int .i64 y2] 50)) :=
  ⟨h.box.grew ((Grew.refl w).al _), OwI.kept h.own ((Grew.refl w).al _), heap_alloc_new w _, h.grew.al _, h.farX⟩
theorem d_bound {ld d en : Int} (hl : 1 ≤ ld) (he : en = ld * d) (h0 : 0 ≤ en) (h1 : en ≤ 68719476736) : 0 ≤ d ∧ d ≤ 68719476736 := by
  rcases Int.lt_or_le d 0 with hd | hd
  · have : ld * d ≤ ld * (-1) := Int.mul_le_mul_of_nonneg_left (by omega) (by omega)
    omega
  · refine ⟨hd, ?_⟩
    have : 1 * d ≤ ld * d := Int.mul_le_mul_of_nonneg_right hl hd
    omega
set_option maxHeartbeats 8000000 in
theorem rsched_bad (c o f ld : Int) (p : Option Addr) (n cap : Nat) (xs : List It) (w0 : World) (hl : xs.length = n) (hx : RdI w0 p cap xs) (hS : okS c o f ld xs = false) :
    Calls Try.prog 23 #[cfv c o f, .int .i64 ld, .slice p n cap] w0 fun e w' => e = .returned (.tuple #[.slice none 0 0, .int .i64 1]) ∧ Grew w0 w' := by
  have HRT : Hid (∀ W : World, Grew w0 W → Calls Try.prog 21 #[cfv c o f, .int .i64 ld, .slice p n cap] W fun e w' => e = .returned (.bool false) ∧ Grew W w') := Lib.hid fun W hg => hS ▸ right_any c o f ld p n cap xs W hl (hx.kept hg)
  have hcap := hl ▸ hx.cap
  clear hx hl hS
  go_enter Try.func23, Try.ntmps23
  go_wp2_with (first
    | (go_at_call 21; (with_reducible refine (HRT.out _ ((Grew.refl _).al _)).mono ?_); rintro e w2 ⟨rfl, g0⟩; have HQ := Lib.hid (show CfB w0.heap.size c o f w2 from g0.heap (heap_alloc_new w0 _)); obtain ⟨q0, q1, q2, ql⟩ := HQ.out.cs; have HG := Lib.hid (((Grew.refl w0).al _).trans g0); clear g0))
  go_ret2
  exact ⟨rfl, HG.out⟩
set_option maxHeartbeats 16000000 in
theorem rsched_ok (c o f ld : Int) (p : Option Addr) (n cap : Nat) (xs : List It) (w0 : World) (hl : xs.length = n) (hx : RdI w0 p cap xs) (hS : okS c o f ld xs = true) :
    Calls Try.prog 23 #[cfv c o f, .int .i64 ld, .slice p n cap] w0 fun e w' => ∃ q d, e = .returned (.tuple #[.slice q (run ld xs (sm0 c o f)).L.length d, .int .i64 0]) ∧ RdI w' q d (run ld xs (sm0 c o f)).L ∧ Grew w0 w' := by
  subst hl
  have HRT : Hid (∀ W : World, Grew w0 W → Calls Try.prog 21 #[cfv c o f, .int .i64 ld, .slice p xs.length cap] W fun e w' => e = .returned (.bool true) ∧ Grew W w') := Lib.hid fun W hg => hS ▸ right_any c o f ld p xs.length cap xs W rfl (hx.kept hg)
  rw [okS_eq] at hS
  simp only [Bool.and_eq_true, decide_eq_true_eq] at hS
  obtain ⟨⟨h1, h2, h3⟩, h4⟩ := hS
  simp only [okV, Bool.and_eq_true, decide_eq_true_eq] at h4
  obtain ⟨⟨h5, h6⟩, h7⟩ := h4
  have HL := Lib.hid h6
  have htn : tn xs ≤ 65536 := by have := tot_tn h6; omega
  have HTN := Lib.hid htn
  have HX := Lib.hid hx
  have hG0 := gd0 ld h1
  have hcap := hx.cap
  have hmax := hx.max
  have HGd : Hid (∀ k j : Nat, ∀ hk : k < xs.length, j ≤ (xs[k]).2.toNat → Gd (tn (xs.take k) + j) ld (0 + hs (xs.take k) + (xs[k]).1 * j) (tkN ld (xs[k]).1 j (run ld (xs.take k) (sm0 c o f)))) := Lib.hid fun k j hk hj => by
    have g1 := Gd.run ⟨h2, h3⟩ (xs.take k) hG0 (okL_take HL.out k)
    rw [Nat.zero_add] at g1
    exact g1.tkN (okL_iff.1 HL.out _ (List.getElem_mem hk)).1 ⟨h2, h3⟩ j
  have HTk : Hid (∀ k j : Nat, ∀ hk : k < xs.length, j ≤ (xs[k]).2.toNat → tn (xs.take k) + j ≤ 65536) := Lib.hid fun k j hk hj => by
    have h1 := tn_next hk
    have h2 := tn_take xs (k + 1)
    have h3 := HTN.out
    omega
  clear hx h1 h6 h7 htn hG0
  go_enter Try.func23, Try.ntmps23
  go_wp2_with (first
    | (go_at_call 21; (with_reducible refine (HRT.out _ ((Grew.refl _).al _)).mono ?_); rintro e w2 ⟨rfl, g0⟩; have HQ := Lib.hid (show CfB w0.heap.size c o f w2 from g0.heap (heap_alloc_new w0 _)); obtain ⟨q0, q1, q2, ql⟩ := HQ.out.cs; have HG := Lib.hid (((Grew.refl w0).al _).trans g0); clear g0))
  obtain ⟨X, hX⟩ : ∃ X, X = w2.heap.size := ⟨_, rfl⟩
  rw [← hX]
  refine wp_at6 (fun W => Ro w0 X ld (sm0 c o f) 0 0 none 0 W) ⟨by rw [hX]; exact heap_alloc_new w2 _, OwI.nil _ _ _, HG.out.al _, by rw [hX]; exact HG.out.size, by simp [sm0]⟩ ?_
  intro W hW
  have HW := Lib.hid hW
  clear hX hW HG HQ HRT q0 q1 q2 ql
  go_loopg [9, 10, 22] xs.length (fun gg sv dv iv wr => ∃ (k : Nat) (d : Int) (p1 : Option Addr) (n1 c1 : Nat), sv = .slice p1 n1 c1 ∧ dv = .int .i64 d ∧ iv = .int .i64 (k : Int) ∧ k ≤ xs.length ∧ gg = xs.length - k ∧ Hid (Ro w0 X ld (run ld (xs.take k) (sm0 c o f)) d n1 p1 c1 wr))
  case atStart => exact ⟨0, 0, none, 0, 0, rfl, rfl, rfl, Nat.zero_le _, rfl, HW⟩
  clear HW
  case round =>
    obtain ⟨k, d, p1, n1, c1, rfl, rfl, rfl, hk, rfl, HW⟩ := hrel
    by_cases hlt : k < xs.length
    · obtain ⟨b', o', rfl, hcc⟩ := (HX.out.kept HW.out.grew).cells (by omega)
      obtain ⟨d0, d1⟩ := hcc k xs[k] (by simp [hlt])
      have hlb : b' < wr.heap.size := World.block_lt_of_cell? _ _ d0
      have HLT := Lib.hid (Nat.succ_le_of_lt hlt)
      have HGk := Lib.hid fun j hj => HGd.out k j hlt hj
      have HTj := Lib.hid fun j hj => HTk.out k j hlt hj
      have HRN := Lib.hid (run_next hlt (ld := ld) (sm0 c o f))
      have HOK := Lib.hid (okL_iff.1 HL.out _ (List.getElem_mem hlt))
      have y20 := (okT_iff.1 HOK.out.2).1
      have y21 := (okT_iff.1 HOK.out.2).2
      generalize xs[k] = y at d0 d1 HGk HTj HRN HOK y20 y21
      obtain ⟨y1, y2⟩ := y
      simp only at d0 d1 HGk HTj HRN HOK y20 y21
      obtain ⟨m, rfl⟩ : ∃ m : Nat, y2 = (m : Int) := ⟨y2.toNat, by omega⟩
      simp only [Int.toNat_natCast] at HGk HTj HRN
      clear hcc
      generalize run ld (xs.take k) (sm0 c o f) = sk at HW HGk HRN
      obtain ⟨T, hT⟩ : ∃ T, T = wr.heap.size := ⟨_, rfl⟩
      have HWA : Hid (Rr w0 X T y1 (m : Int) sk.x sk.L n1 p1 c1 (wr.alloc (.cells #[.int .i64 y1, .int .i64 (m : Int)] 50)) ∧ sk.en = ld * d) := Lib.hid ⟨by rw [hT]; exact HW.out.inn, HW.out.en⟩
      have HK0 := Lib.hid hT
      clear hT
      go_wp2
      rw [← HK0.out]
      refine wp_at6 (fun W => Rr w0 X T y1 (m : Int) sk.x sk.L n1 p1 c1 W ∧ sk.en = ld * d) HWA.out ?_
      intro W2 hW2
      have HW2 := Lib.hid hW2
      clear hW2 HWA HW HK0 hlb d0 d1
      go_loopg [9, 10, 28] m (fun gg sv dv jv wr => ∃ (j : Nat) (d : Int) (p1 : Option Addr) (n1 c1 : Nat), sv = .slice p1 n1 c1 ∧ dv = .int .i64 d ∧ jv = .int .i64 (j : Int) ∧ j ≤ m ∧ gg = m - j ∧ Hid (Rr w0 X T y1 (m : Int) (tkN ld y1 j sk).x (tkN ld y1 j sk).L n1 p1 c1 wr ∧ (tkN ld y1 j sk).en = ld * d))
      case atStart => exact ⟨0, d, p1, n1, c1, rfl, rfl, rfl, Nat.zero_le _, rfl, HW2⟩
      clear HW2
      case round =>
        obtain ⟨j, d, p1, n1, c1, rfl, rfl, rfl, hj, rfl, HW⟩ := hrel
        by_cases hjl : j < m
        · have HJL := Lib.hid (Nat.succ_le_of_lt hjl)
          have hG := HGk.out j hj
          have hTj := HTj.out j hj
          have HTK : Hid (tkN ld y1 (j + 1) sk = tk ld y1 (tkN ld y1 j sk)) := Lib.hid rfl
          generalize tkN ld y1 j sk = s at HW hG HTK
          obtain ⟨x, en, L⟩ := s
          have HR : Hid (Rr w0 X T y1 (m : Int) x L n1 p1 c1 wr) := Lib.hid HW.out.1
          have hen : en = ld * d := HW.out.2
          have e0 : 0 ≤ en := hG.e0
          have e1 : en ≤ 68719476736 := by have : en ≤ ((tn (xs.take k) + j : Nat) : Int) * 1048576 := hG.e1; omega
          obtain ⟨dd0, dd1⟩ := d_bound h2 hen e0 e1
          have hLn : L.length ≤ 65536 := Nat.le_trans hG.len hTj
          have HLn := Lib.hid hLn
          have HOf : Hid (∀ y ∈ L, 0 ≤ y.2 ∧ y.2 ≤ 65536) := Lib.hid fun y hy => by have := hG.off y hy; omega
          have hI : Inv x := hG.inv
          obtain ⟨s0, s1, s2, s3, s4, sf⟩ := HR.out.box.cs
          have sl := HR.out.box.lt
          obtain ⟨b0, b1, bl, bne⟩ := HR.out.st
          have HHV : Hid (∀ W, Calls Try.prog 16 #[cpv x, .int .i64 y1, .int .i64 1] W fun e w' => e = .returned (.tuple #[cpv (hv x y1 1), .int .i64 0]) ∧ Grew W w') := Lib.hid fun W => by
            have := rharvest_any x y1 1 W hI
            rwa [he_ok HOK.out.1 rfl] at this
          have hI1 := hI.hv y1 1
          have htk : tk ld y1 ⟨x, en, L⟩ = if (hv x y1 1).r then (if (dw (hv x y1 1) ld).r then ⟨dw (hv x y1 1) ld, en + ld, L⟩ else ⟨dw (hv x y1 1) ld, 0, L ++ [(en + ld, 0)]⟩) else ⟨hv x y1 1, en, bump L⟩ := rfl
          rw [htk] at HTK
          generalize hv x y1 1 = x1 at HHV hI1 HTK
          have HEN := Lib.hid hen
          have hw1 : IntKind.i64.wrap (d + 1) = d + 1 := IntWalk.i64_in _ (by omega)
          have hw2 : IntKind.i64.wrap (ld * (d + 1)) = ld * (d + 1) := IntWalk.i64_in _ (by rw [Int.mul_add, Int.mul_one, ← hen]; omega)
          have HN1 := Lib.hid HR.out.own.rd.1
          clear htk hG hI hen HW hTj
          obtain ⟨ac, ao, af, aq, ar⟩ := x1
          cases ar with
          | false =>
            replace HTK : Hid (tkN ld y1 (j + 1) sk = ⟨⟨ac, ao, af, aq, false⟩, en, bump L⟩) := HTK
            rcases Nat.eq_zero_or_pos n1 with h0 | hpos
            · subst h0
              have hL0 : bump L = L := by
                obtain rfl : L = [] := List.eq_nil_of_length_eq_zero HN1.out.symm
                rfl
              rw [hL0] at HTK
              clear hL0
              go_wp2_with (first
                | (go_at_call 16; (with_reducible refine (HHV.out _).mono ?_); rintro e w3 ⟨rfl, g0⟩; have HR3 := Lib.hid (HR.out.on g0); clear g0 HHV; clear s0 s1 s2 s3 s4 sf; obtain ⟨s0, s1, s2, s3, s4, sf⟩ := HR3.out.box.cs; have sl := HR3.out.box.lt; clear b0 b1; obtain ⟨b0, b1, bl, bne⟩ := HR3.out.st))
              go_roundg (m - (j + 1))
              case measure => have := HJL.out; omega
              case rel => exact ⟨j + 1, d, p1, 0, c1, rfl, rfl, by go_num, HJL.out, rfl, Lib.hid (by rw [HTK.out]; exact ⟨HR3.out.put ⟨ac, ao, af, aq, false⟩, HEN.out⟩)⟩
            · obtain ⟨mm, hm⟩ : ∃ mm, n1 = mm + 1 := ⟨n1 - 1, by omega⟩
              subst hm

              obtain ⟨g, hg⟩ : ∃ g, p1 = some ⟨g, 0, none⟩ := by
                obtain ⟨g, hg, _⟩ := HR.out.own.at hpos
                exact ⟨g, hg⟩
              subst hg
              have hml : mm < 65536 := by have := HN1.out; omega
              have hmem : L.getD mm (0, 0) ∈ L := by
                have hlt : mm < L.length := by have := HN1.out; omega
                rw [List.getD_eq_getElem?_getD, List.getElem?_eq_getElem hlt]
                exact List.getElem_mem hlt
              obtain ⟨v0, v1⟩ := HOf.out _ hmem
              obtain ⟨v, hv⟩ : ∃ v, v = (L.getD mm (0, 0)).2 := ⟨_, rfl⟩
              rw [← hv] at v0 v1
              have HVE := Lib.hid hv
              have hw : IntKind.i64.wrap (v + 1) = v + 1 := IntWalk.i64_in _ (by omega)
              clear hmem hv hpos
              go_wp2_with (first
                | (go_at_call 16; (with_reducible refine (HHV.out _).mono ?_); rintro e w3 ⟨rfl, g0⟩; have HR3 := Lib.hid (HR.out.on g0); clear g0 HHV; clear s0 s1 s2 s3 s4 sf; obtain ⟨s0, s1, s2, s3, s4, sf⟩ := HR3.out.box.cs; have sl := HR3.out.box.lt; clear b0 b1; obtain ⟨b0, b1, bl, bne⟩ := HR3.out.st; obtain ⟨u1, uf, une, ugl⟩ := HR3.out.row rfl; rw [← HVE.out] at u1))
              go_roundg (m - (j + 1))
              case measure => have := HJL.out; omega
              case rel => exact ⟨j + 1, d, _, mm + 1, c1, rfl, rfl, by go_num, HJL.out, rfl, Lib.hid (by rw [HTK.out]; exact ⟨(HR3.out.put ⟨ac, ao, af, aq, false⟩).last rfl (v + 1) (by rw [HVE.out]), HEN.out⟩)⟩
          | true =>
            replace HTK : Hid (tkN ld y1 (j + 1) sk = if (dw ⟨ac, ao, af, aq, true⟩ ld).r then ⟨dw ⟨ac, ao, af, aq, true⟩ ld, en + ld, L⟩ else ⟨dw ⟨ac, ao, af, aq, true⟩ ld, 0, L ++ [(en + ld, 0)]⟩) := HTK
            have HDR : Hid (∀ W, Calls Try.prog 14 #[cpv ⟨ac, ao, af, aq, true⟩, .int .i64 ld] W fun e w' => e = .returned (.tuple #[cpv (dw ⟨ac, ao, af, aq, true⟩ ld), .bool (dw ⟨ac, ao, af, aq, true⟩ ld).r]) ∧ Grew W w') := Lib.hid fun W => by
              have := rdraw_any ⟨ac, ao, af, aq, true⟩ ld W hI1 (by omega)
              rwa [db_r (show 0 ≤ ld by omega)] at this
            generalize dw ⟨ac, ao, af, aq, true⟩ ld = x2 at HDR HTK
            obtain ⟨bc, bo, bf, bq, br⟩ := x2
            have hsum : ld * (d + 1) = en + ld := by rw [HEN.out, Int.mul_add, Int.mul_one]
            have HSUM := Lib.hid hsum
            clear hsum
            cases br with
            | true =>
              replace HTK : Hid (tkN ld y1 (j + 1) sk = ⟨⟨bc, bo, bf, bq, true⟩, en + ld, L⟩) := HTK
              go_wp2_with (first
                | (go_at_call 16; (with_reducible refine (HHV.out _).mono ?_); rintro e w3 ⟨rfl, g0⟩; have HR3 := Lib.hid (HR.out.on g0); clear g0 HHV; clear s0 s1 s2 s3 s4 sf; obtain ⟨s0, s1, s2, s3, s4, sf⟩ := HR3.out.box.cs; have sl := HR3.out.box.lt; clear b0 b1; obtain ⟨b0, b1, bl, bne⟩ := HR3.out.st)
                | (go_at_call 14; (with_reducible refine (HDR.out _).mono ?_); rintro e w4 ⟨rfl, g0⟩; have HR4 := Lib.hid ((HR3.out.put ⟨ac, ao, af, aq, true⟩).on g0); clear g0 HDR; clear s0 s1 s2 s3 s4 sf b0 b1; obtain ⟨s0, s1, s2, s3, s4, sf⟩ := HR4.out.box.cs; have sl4 := HR4.out.box.lt; obtain ⟨b0, b1, bl4, bne4⟩ := HR4.out.st))
              go_roundg (m - (j + 1))
              case measure => have := HJL.out; omega
              case rel => exact ⟨j + 1, d + 1, p1, n1, c1, rfl, rfl, by go_num, HJL.out, rfl, Lib.hid (by rw [HTK.out]; exact ⟨HR4.out.put ⟨bc, bo, bf, bq, true⟩, HSUM.out.symm⟩)⟩
            | false =>
              replace HTK : Hid (tkN ld y1 (j + 1) sk = ⟨⟨bc, bo, bf, bq, false⟩, 0, L ++ [(en + ld, 0)]⟩) := HTK
              go_wp2_with (first
                | (go_at_call 16; (with_reducible refine (HHV.out _).mono ?_); rintro e w3 ⟨rfl, g0⟩; have HR3 := Lib.hid (HR.out.on g0); clear g0 HHV; clear s0 s1 s2 s3 s4 sf; obtain ⟨s0, s1, s2, s3, s4, sf⟩ := HR3.out.box.cs; have sl := HR3.out.box.lt; clear b0 b1; obtain ⟨b0, b1, bl, bne⟩ := HR3.out.st)
                | (go_at_call 14; (with_reducible refine (HDR.out _).mono ?_); rintro e w4 ⟨rfl, g0⟩; have HR4 := Lib.hid ((HR3.out.put ⟨ac, ao, af, aq, true⟩).on g0); clear g0 HDR; clear s0 s1 s2 s3 s4 sf b0 b1; obtain ⟨s0, s1, s2, s3, s4, sf⟩ := HR4.out.box.cs; have sl4 := HR4.out.box.lt; obtain ⟨b0, b1, bl4, bne4⟩ := HR4.out.st)
                | (at_builtin; refine wpList_appendPe rfl _ _ rfl w0.heap.size p1 n1 c1 L rfl ((HR4.out.put ⟨bc, bo, bf, bq, false⟩).on ((Grew.refl _).al _)).own _ _ _ [(ld * (d + 1), 0)] rfl rfl (made1 _ _ _ _ _ _ (by simp) rfl) (by have := HLn.out; simp; omega) (by have := HR4.out.grew.size; simp; omega) ?_; intro p2 c2 zs2 w5 hz2 ho2 hb2 ht2; have HR5 := Lib.hid ((HR4.out.put ⟨bc, bo, bf, bq, false⟩).added hz2.out ((Grew.refl _).al _) ho2 hb2 ht2); clear ho2 hb2 ht2))
              go_roundg (m - (j + 1))
              case measure => have := HJL.out; omega
              case rel => exact ⟨j + 1, 0, p2, zs2.length, c2, rfl, rfl, by go_num, HJL.out, rfl, Lib.hid (by rw [HTK.out, ← HSUM.out]; exact ⟨HR5.out, by simp⟩)⟩
        · obtain rfl : j = m := by omega
          have HWE : Hid (Ro w0 X ld (run ld (xs.take (k + 1)) (sm0 c o f)) d n1 p1 c1 wr) := Lib.hid (by rw [HRN.out]; exact HW.out.1.out HW.out.2)
          go_wp2
          go_roundg (xs.length - (k + 1))
          case measure => have := HLT.out; omega
          case rel => exact ⟨k + 1, d, p1, n1, c1, rfl, rfl, by go_num, HLT.out, rfl, HWE⟩
    · obtain rfl : k = xs.length := by omega
      rw [List.take_length] at HW
      have HN1 := Lib.hid HW.out.own.rd
      have HGE := Lib.hid HW.out.grew
      go_wp2
      go_ret2
      refine ⟨p1, c1, ?_, HN1.out.2, HGE.out⟩
      rw [← HN1.out.1]
      rfl
end Go.Proofs.Ytjepjcdobgdacaa
