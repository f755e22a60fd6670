/-
  LAYER 8 (capacitor): a tick of the simulation.
-/
import Derived.Test.YtjepjcdobgdacaaCapSim
import Derived.BigRegion
import Derived.Deep.RegionWith
namespace Go.Proofs.Ytjepjcdobgdacaa
open Go Go.RowKit Go.IntWalk
set_option linter.unusedSimpArgs false
set_option maxRecDepth 8000

/-- The simulation on its way through a tick that began in w0. -/
structure Ts (N S : Nat) (ld : Int) (x : Cp) (en : Int) (L : List It) (p : Option Addr) (c : Nat) (w0 w : World) : Prop where
  cap : CapB S x [.int .i64 ld, .int .i64 en, .slice p L.length c] 75 w
  own : OwI w N 67 (.slice p L.length c) L
  kt : Kt 75 67 N w0 w
  low : N ≤ w0.heap.size
  far : N ≤ S
section
variable {N S : Nat} {ld : Int} {x : Cp} {en : Int} {L : List It} {p : Option Addr} {c : Nat} {w0 w w' : World}
theorem Ts.cs (h : Ts N S ld x en L p c w0 w) : w.cell? ⟨S, 0, none⟩ = some (.int .i64 x.c) ∧ w.cell? ⟨S, 1, none⟩ = some (.int .i64 x.o) ∧ w.cell? ⟨S, 2, none⟩ = some (.int .i64 x.f) ∧ w.cell? ⟨S, 3, none⟩ = some (.int .i64 x.q) ∧ w.cell? ⟨S, 4, none⟩ = some (.bool x.r) ∧
    w.cell? ⟨S, 5, none⟩ = some (.int .i64 ld) ∧ w.cell? ⟨S, 6, none⟩ = some (.int .i64 en) ∧ w.cell? ⟨S, 7, none⟩ = some (.slice p L.length c) ∧ ∀ i, w.frozen? ⟨S, i, none⟩ = false := by
  obtain ⟨h0, h1, h2, h3, h4, hf⟩ := h.cap.cs
  exact ⟨h0, h1, h2, h3, h4, h.cap.rest 0, h.cap.rest 1, h.cap.rest 2, hf⟩
theorem Ts.size (h : Ts N S ld x en L p c w0 w) : N ≤ w.heap.size := Nat.le_trans h.low h.kt.size
theorem Ts.apart (h : Ts N S ld x en L p c w0 w) : ∀ a, p = some a → a.block ≠ S := h.own.apart h.cap (by decide)
theorem Ts.chg {y : Cp} (h : Ts N S ld x en L p c w0 w) (hc : CapB S y [.int .i64 ld, .int .i64 en, .slice p L.length c] 75 w') (hg : Chg w w' (fun k => k = S)) : Ts N S ld y en L p c w0 w' :=
  ⟨hc, h.own.chg hg h.apart, h.kt.trans (Kt.of_chg hg h.size fun k hk => ⟨hk ▸ h.far, fun cs e he => by
    subst hk
    have h1 : w.heap[k]? = _ := h.cap
    rw [h1] at he
    simp only [Option.some.injEq, Obj.cells.injEq] at he
    exact .inl he.2.1.symm⟩), h.low, h.far⟩
theorem Ts.grew (h : Ts N S ld x en L p c w0 w) (hg : Grew w w') : Ts N S ld x en L p c w0 w' := ⟨h.cap.grew hg, OwI.kept h.own hg, h.kt.trans (Kt.of_grew hg h.size), h.low, h.far⟩
theorem Ts.energy (h : Ts N S ld x en L p c w0 w) (z : Int) : Ts N S ld x z L p c w0 (w.setCell ⟨S, 6, none⟩ (.int .i64 z)) := by
  have hc := h.cap.st5 1 (.int .i64 z)
  have hg := Chg.set w ⟨S, 6, none⟩ (.int .i64 z)
  exact ⟨hc, h.own.chg hg h.apart, h.kt.trans (Kt.of_chg hg h.size fun k hk => ⟨by rw [show k = S from hk]; exact h.far, fun cs e he => by
    obtain rfl : k = S := hk
    have h1 : w.heap[k]? = _ := h.cap
    rw [h1] at he
    simp only [Option.some.injEq, Obj.cells.injEq] at he
    exact .inl he.2.1.symm⟩), h.low, h.far⟩
/-- The last period's second number is stored. -/
theorem Ts.last {g m : Nat} (h : Ts N S ld x en L (some ⟨g, 0, none⟩) c w0 w) (hm : L.length = m + 1) (v : Int) (hv : v = (L.getD m (0, 0)).2 + 1) : Ts N S ld x en (bump L) (some ⟨g, 0, none⟩) c w0 (w.setCell ⟨g, m * 2 + 1, none⟩ (.int .i64 v)) := by
  have hO := OwI.set2 h.own m v (by omega)
  have hg := Chg.set w ⟨g, m * 2 + 1, none⟩ (.int .i64 v)
  have hb : bump L = L.set m ((L.getD m (0, 0)).1, v) := by unfold bump; rw [show L.length - 1 = m by omega, hv]
  have hne : S ≠ g := fun e => h.apart _ rfl e.symm
  obtain ⟨hN, cs, hcs⟩ := h.own.typed _ rfl
  refine ⟨?_, ?_, h.kt.trans (Kt.of_chg hg h.size fun k hk => ⟨by rw [show k = g from hk]; exact hN, fun cs' e he => ?_⟩), h.low, h.far⟩
  · rw [bump_len]
    exact (hg.block S (lt_of_heap h.cap) hne).trans h.cap
  · rw [bump_len, hb]
    exact hO
  · obtain rfl : k = g := hk
    rw [hcs] at he
    simp only [Option.some.injEq, Obj.cells.injEq] at he
    exact .inr he.2.1.symm
theorem Ts.row {g m : Nat} (h : Ts N S ld x en L (some ⟨g, 0, none⟩) c w0 w) (hm : L.length = m + 1) : w.cell? ⟨g, m * 2 + 1, none⟩ = some (.int .i64 (L.getD m (0, 0)).2) ∧ w.frozen? ⟨g, m * 2 + 1, none⟩ = false := by
  have hx : L[m]? = some (L.getD m (0, 0)) := by simp [List.getD, show m < L.length by omega]
  have := (h.own.rd.2.cell hx).2
  rw [Nat.zero_add] at this
  exact ⟨this, (h.own.free _).2⟩
theorem Ts.sim (h : Ts N S ld x en L p c w0 w) : SimS N S ld ⟨x, en, L⟩ w := ⟨⟨p, c, h.cap, h.own⟩, h.far⟩
/-- A period is appended. -/
theorem Ts.added {p' : Option Addr} {c' : Nat} {w2 w3 : World} {y : It} (h : Ts N S ld x en L p c w0 w2) (hO : OwI w3 N 67 (.slice p' (L.length + 1) c') (L ++ [y])) (hg : w2.grownBy w3 (Value.ownBlock (.slice p L.length c))) :
    Ts N S ld x en (L ++ [y]) p' c' w0 (w3.setCell ⟨S, 7, none⟩ (.slice p' (L.length + 1) c')) := by
  rw [ownBlock_slice2] at hg
  have hc3 := Chg.of_grown hg
  have hS : CapB S x [.int .i64 ld, .int .i64 en, .slice p L.length c] 75 w3 := h.cap.chg hc3 fun e => by
    cases p with
    | none => cases e
    | some a => exact h.apart a rfl (Option.some.inj e)
  have hc := hS.st5 2 (.slice p' (L.length + 1) c')
  have hg4 := Chg.set w3 ⟨S, 7, none⟩ (.slice p' (L.length + 1) c')
  have hap : ∀ a, p' = some a → a.block ≠ S := hO.apart hS (by decide)
  have hk3 : Kt 75 67 N w0 w3 := h.kt.trans (Kt.of_chg hc3 h.size fun k hk => by
    cases p with
    | none => cases hk
    | some a =>
      obtain rfl : a.block = k := Option.some.inj hk
      obtain ⟨hN, cs, hcs⟩ := h.own.typed a rfl
      refine ⟨hN, fun cs' e he => ?_⟩
      rw [hcs] at he
      simp only [Option.some.injEq, Obj.cells.injEq] at he
      exact .inr he.2.1.symm)
  refine ⟨?_, ?_, hk3.trans (Kt.of_chg hg4 (Nat.le_trans h.low hk3.size) fun k hk => ⟨by rw [show k = S from hk]; exact h.far, fun cs e he => ?_⟩), h.low, h.far⟩
  · rw [List.length_append]
    exact hc
  · rw [List.length_append]
    exact hO.chg hg4 hap
  · obtain rfl : k = S := hk
    have h1 : w3.heap[k]? = _ := hS
    rw [h1] at he
    simp only [Option.some.injEq, Obj.cells.injEq] at he
    exact .inl he.2.1.symm
end
theorem enters_draw : Enters Try.prog 13 := fun args w => by go_simp
set_option maxHeartbeats 4000000 in
theorem tick_any (N S : Nat) (ld H pw : Int) (n : Nat) (s : Sm) (w : World) (h : SimS N S ld s w) (hG : Gd n ld H s) (hn : n ≤ 65536) (hp : okP pw = true) (hl : 1 ≤ ld ∧ ld ≤ 1048576) (hN : N ≤ w.heap.size) :
    Calls Try.prog 31 #[.pointer (some ⟨S, 0, none⟩), .int .i64 pw] w fun e w' => e = .returned (.tuple #[]) ∧ SimS N S ld (tk ld pw s) w' ∧ Kt 75 67 N w w' := by
  obtain ⟨x, en, L⟩ := s
  obtain ⟨⟨p, c, hC, hO⟩, hf⟩ := h
  have HT0 : Hid (Ts N S ld x en L p c w w) := Lib.hid ⟨hC, hO, Kt.refl _ _ _ _, hN, hf⟩
  have hI : Inv x := hG.inv
  have e0 : 0 ≤ en := hG.e0
  have e1 : en ≤ n * 1048576 := hG.e1
  have hLn : L.length ≤ n := hG.len
  have HOf : Hid (∀ y ∈ L, 0 ≤ y.2 ∧ y.2 ≤ n) := Lib.hid hG.off
  have HH := Lib.hid (harvest_any S x _ _ pw 1 w hC hI)
  rw [he_ok hp rfl] at HH
  have HI := Lib.hid (hI.hv pw 1)
  have htk : tk ld pw ⟨x, en, L⟩ = if (hv x pw 1).r then (if (dw (hv x pw 1) ld).r then ⟨dw (hv x pw 1) ld, en + ld, L⟩ else ⟨dw (hv x pw 1) ld, 0, L ++ [(en + ld, 0)]⟩) else ⟨hv x pw 1, en, bump L⟩ := rfl
  rw [htk]
  clear hC hO hG hI htk hp
  generalize hv x pw 1 = x1 at HH HI ⊢
  cases hr : x1.r with
  | false =>
    rw [if_neg (by simp)]
    have HRU : Hid (∀ (W : World) {e}, CapB S x1 [.int .i64 ld, .int .i64 en, .slice p L.length c] e W → Calls Try.prog 20 #[.pointer (some ⟨S, 0, none⟩)] W fun e w' => e = .returned (.bool false) ∧ W = w') := Lib.hid fun W e hb => hr ▸ running_any S x1 _ e W hb
    rcases Nat.eq_zero_or_pos L.length with h0 | hpos
    · obtain rfl : L = [] := List.eq_nil_of_length_eq_zero h0
      clear h0 hr
      go_enter Try.func31, Try.ntmps31
      go_wp2_with (first
        | (go_at_call 15; (with_reducible refine (HH.out).mono ?_); rintro e w1 ⟨rfl, h1, c1⟩; have HT := Lib.hid (HT0.out.chg h1 c1); clear h1 c1; obtain ⟨t0, t1, t2, t3, t4, t5, t6, t7, tf⟩ := HT.out.cs)
        | (go_at_call 20; (with_reducible refine (HRU.out _ HT.out.cap).mono ?_); rintro e _ ⟨rfl, rfl⟩))
      refine bodyPost_ret (results_none rfl _ _ _) rfl ?_
      exact ⟨rfl, HT.out.sim, HT.out.kt⟩
    · obtain ⟨m, hm⟩ : ∃ m, L.length = m + 1 := ⟨L.length - 1, by omega⟩
      have hml : m < 65536 := by omega
      have hsl : ∃ g, p = some ⟨g, 0, none⟩ := by
        obtain ⟨g, hg, _⟩ := HT0.out.own.at hpos
        exact ⟨g, hg⟩
      obtain ⟨g, rfl⟩ := hsl
      have HM := Lib.hid hm
      have hmem : L.getD m (0, 0) ∈ L := by
        have hlt : m < L.length := by omega
        rw [List.getD_eq_getElem?_getD, List.getElem?_eq_getElem hlt]
        exact List.getElem_mem hlt
      obtain ⟨v0, v1⟩ := HOf.out _ hmem
      have HV := Lib.hid (rfl : (L.getD m (0, 0)).2 = (L.getD m (0, 0)).2)
      obtain ⟨v, hv⟩ : ∃ v, v = (L.getD m (0, 0)).2 := ⟨_, rfl⟩
      rw [← hv] at v0 v1
      have HVE := Lib.hid hv
      have hw : IntKind.i64.wrap (v + 1) = v + 1 := IntWalk.i64_in _ (by omega)
      clear hr hm hpos hmem hv HV
      go_enter Try.func31, Try.ntmps31
      go_wp2_with (first
        | (go_at_call 15; (with_reducible refine (HH.out).mono ?_); rintro e w1 ⟨rfl, h1, c1⟩; have HT := Lib.hid (HT0.out.chg h1 c1); clear h1 c1; obtain ⟨t0, t1, t2, t3, t4, t5, t6, t7, tf⟩ := HT.out.cs; rw [HM.out] at t7; obtain ⟨u1, uf⟩ := HT.out.row HM.out; rw [← HVE.out] at u1)
        | (go_at_call 20; (with_reducible refine (HRU.out _ HT.out.cap).mono ?_); rintro e _ ⟨rfl, rfl⟩))
      refine bodyPost_ret (results_none rfl _ _ _) rfl ?_
      have HT9 := HT.out.last HM.out (v + 1) (by rw [HVE.out])
      exact ⟨rfl, HT9.sim, HT9.kt⟩
  | true =>
    rw [if_pos rfl]
    have HRU : Hid (∀ (W : World) {e}, CapB S x1 [.int .i64 ld, .int .i64 en, .slice p L.length c] e W → Calls Try.prog 20 #[.pointer (some ⟨S, 0, none⟩)] W fun e w' => e = .returned (.bool true) ∧ W = w') := Lib.hid fun W e hb => hr ▸ running_any S x1 _ e W hb
    have hw : IntKind.i64.wrap (en + ld) = en + ld := IntWalk.i64_in _ (by omega)
    have HDR : Hid (∀ (W : World) {rest e}, CapB S x1 rest e W → Calls Try.prog 13 #[.pointer (some ⟨S, 0, none⟩), .int .i64 ld] W fun e' w' => e' = .returned (.bool (dw x1 ld).r) ∧ CapB S (dw x1 ld) rest e w' ∧ Chg W w' (fun k => k = S)) := Lib.hid fun W rest e hb => by
      have := draw_any S x1 rest e ld W hb HI.out (by omega)
      rwa [db_r (show 0 ≤ ld by omega)] at this
    clear hr
    generalize dw x1 ld = x2 at HDR ⊢
    cases hr2 : x2.r with
    | true =>
      rw [if_pos rfl]
      rw [hr2] at HDR
      clear hr2
      go_enter Try.func31, Try.ntmps31
      go_wp2_with (first
        | (go_at_call 15; (with_reducible refine (HH.out).mono ?_); rintro e w1 ⟨rfl, h1, c1⟩; have HT := Lib.hid (HT0.out.chg h1 c1); clear h1 c1; obtain ⟨t0, t1, t2, t3, t4, t5, t6, t7, tf⟩ := HT.out.cs)
        | (go_at_call 20; (with_reducible refine (HRU.out _ HT.out.cap).mono ?_); rintro e _ ⟨rfl, rfl⟩))
      go_region
      have HT5 : Hid (Ts N S ld x1 (en + ld) L p c w ((w1.setCell ⟨S, 6, none⟩ (.int .i64 (en + ld))).drew)) := Lib.hid ((HT.out.energy _).grew (Grew.drw (Grew.refl _)))
      generalize World.drew _ = W1 at HT5 ⊢
      clear HT t0 t1 t2 t3 t4 t5 t6 t7 tf
      have HT6 := Lib.hid (HT5.out.grew (Grew.drw (Grew.refl W1)))
      obtain ⟨t0, t1, t2, t3, t4, t5, t6, t7, tf⟩ := HT6.out.cs
      go_wp2_with fail
      have hT0 : Atv ⟨S, 5, none⟩ (.int .i64 ld) W1.drew := t5
      refine wp_still_tail 7 [some 45, some 46, some 47, some 48, some 49, some 50, some 51] [false, false, false, false, false, false, false, false, false, false, false, false, false, false, false, false, false, false, false, false, false, false, false, false, false, false, false, false, false, false, false, false, false, false, false, false, false, false, false, false, false, false, false, false, false, true, true, true, true, true, true, true, false, false, false, false, false, false, false, false, false, false, false, false, false, false, false, false, false, false, false] [fun v _ => v = .pointer (some ⟨S, 0, none⟩), fun v _ => v = .pointer (some ⟨S, 0, none⟩), fun v _ => v = .pointer (some ⟨S, 0, none⟩), fun v _ => v = .pointer (some ⟨S, 0, none⟩), fun v _ => v = .pointer (some ⟨S, 0, none⟩), fun v _ => v = .pointer (some ⟨S, 5, none⟩), fun v _ => v = .int .i64 (ld)] (by kernel_rfl) (by kernel_rfl) (by kernel_rfl) rfl ⟨?_, ?_, ?_, ?_, ?_, ?_, ?_, trivial⟩ ?_
      · intro u w hR hd; exact runs_mv (ev rfl) ⟨rfl, rfl⟩
      · intro u w hR hd; exact runs_nil (ev (hd.1 rfl)) ⟨rfl, rfl⟩
      · intro u w hR hd; exact runs_fldSim0 (ev (hd.1 rfl)) ⟨rfl, rfl⟩
      · intro u w hR hd; exact runs_mv (ev rfl) ⟨rfl, rfl⟩
      · intro u w hR hd; exact runs_nil (ev (hd.1 rfl)) ⟨rfl, rfl⟩
      · intro u w hR hd; exact runs_fldSim1 (ev (hd.1 rfl)) ⟨rfl, rfl⟩
      · intro u w hR hd; exact runs_ld3 (ev (hd.1 rfl)) (hT0.kept hR) ⟨rfl, rfl⟩
      intro uu h
      refine wpAny_one (i := 7) (some 52) (by kernel_rfl) rfl rfl rfl (runs_c2 enters_draw (ev (h 2 (by decide))) (ev (h 6 (by decide))) ((HDR.out _ HT6.out.cap).mono ?_))
      rintro e w2 ⟨rfl, h2, c2⟩
      refine ⟨_, rfl, ?_⟩
      have HT7 := Lib.hid (HT6.out.chg h2 c2)
      clear h2 c2
      refine wpAny_one (i := 8) (some 53) (by kernel_rfl) rfl rfl rfl (runs_nt (ev rfl) ?_)
      refine wpAny_done (by kernel_rfl) ?_ _
      simp only [Act.put, mixA, mixL, cond_true, cond_false, List.setIfInBounds_toArray, List.set_cons_succ, List.set_cons_zero]
      go_wp2_with fail
      go_end0
      exact ⟨rfl, HT7.out.sim, HT7.out.kt⟩
    | false =>
      rw [if_neg (by simp)]
      rw [hr2] at HDR
      clear hr2
      go_enter Try.func31, Try.ntmps31
      go_wp2_with (first
        | (go_at_call 15; (with_reducible refine (HH.out).mono ?_); rintro e w1 ⟨rfl, h1, c1⟩; have HT := Lib.hid (HT0.out.chg h1 c1); clear h1 c1; obtain ⟨t0, t1, t2, t3, t4, t5, t6, t7, tf⟩ := HT.out.cs)
        | (go_at_call 20; (with_reducible refine (HRU.out _ HT.out.cap).mono ?_); rintro e _ ⟨rfl, rfl⟩))
      go_region
      have HT5 : Hid (Ts N S ld x1 (en + ld) L p c w ((w1.setCell ⟨S, 6, none⟩ (.int .i64 (en + ld))).drew)) := Lib.hid ((HT.out.energy _).grew (Grew.drw (Grew.refl _)))
      generalize World.drew _ = W1 at HT5 ⊢
      clear HT t0 t1 t2 t3 t4 t5 t6 t7 tf
      have HT6 := Lib.hid (HT5.out.grew (Grew.drw (Grew.refl W1)))
      obtain ⟨t0, t1, t2, t3, t4, t5, t6, t7, tf⟩ := HT6.out.cs
      go_wp2_with fail
      have hT0 : Atv ⟨S, 5, none⟩ (.int .i64 ld) W1.drew := t5
      refine wp_still_tail 7 [some 45, some 46, some 47, some 48, some 49, some 50, some 51] [false, false, false, false, false, false, false, false, false, false, false, false, false, false, false, false, false, false, false, false, false, false, false, false, false, false, false, false, false, false, false, false, false, false, false, false, false, false, false, false, false, false, false, false, false, true, true, true, true, true, true, true, false, false, false, false, false, false, false, false, false, false, false, false, false, false, false, false, false, false, false] [fun v _ => v = .pointer (some ⟨S, 0, none⟩), fun v _ => v = .pointer (some ⟨S, 0, none⟩), fun v _ => v = .pointer (some ⟨S, 0, none⟩), fun v _ => v = .pointer (some ⟨S, 0, none⟩), fun v _ => v = .pointer (some ⟨S, 0, none⟩), fun v _ => v = .pointer (some ⟨S, 5, none⟩), fun v _ => v = .int .i64 (ld)] (by kernel_rfl) (by kernel_rfl) (by kernel_rfl) rfl ⟨?_, ?_, ?_, ?_, ?_, ?_, ?_, trivial⟩ ?_
      · intro u w hR hd; exact runs_mv (ev rfl) ⟨rfl, rfl⟩
      · intro u w hR hd; exact runs_nil (ev (hd.1 rfl)) ⟨rfl, rfl⟩
      · intro u w hR hd; exact runs_fldSim0 (ev (hd.1 rfl)) ⟨rfl, rfl⟩
      · intro u w hR hd; exact runs_mv (ev rfl) ⟨rfl, rfl⟩
      · intro u w hR hd; exact runs_nil (ev (hd.1 rfl)) ⟨rfl, rfl⟩
      · intro u w hR hd; exact runs_fldSim1 (ev (hd.1 rfl)) ⟨rfl, rfl⟩
      · intro u w hR hd; exact runs_ld3 (ev (hd.1 rfl)) (hT0.kept hR) ⟨rfl, rfl⟩
      intro uu h
      refine wpAny_one (i := 7) (some 52) (by kernel_rfl) rfl rfl rfl (runs_c2 enters_draw (ev (h 2 (by decide))) (ev (h 6 (by decide))) ((HDR.out _ HT6.out.cap).mono ?_))
      rintro e w2 ⟨rfl, h2, c2⟩
      refine ⟨_, rfl, ?_⟩
      have HT7 := Lib.hid (HT6.out.chg h2 c2)
      clear h2 c2
      refine wpAny_one (i := 8) (some 53) (by kernel_rfl) rfl rfl rfl (runs_nt (ev rfl) ?_)
      refine wpAny_done (by kernel_rfl) ?_ _
      simp only [Act.put, mixA, mixL, cond_true, cond_false, List.setIfInBounds_toArray, List.set_cons_succ, List.set_cons_zero]
      go_wp2_with fail
      have HT8 := Lib.hid (HT7.out.grew (Grew.drw (Grew.refl w2)))
      have hS7 : Atv ⟨S, 7, none⟩ (.slice p L.length c) w2.drew := HT8.out.cs.2.2.2.2.2.2.2.1
      have hS6 : Atv ⟨S, 6, none⟩ (.int .i64 (en + ld)) w2.drew := HT8.out.cs.2.2.2.2.2.2.1
      have hN2 : N ≤ w2.drew.heap.size := HT8.out.size
      refine wp_grew_free 0 0 54 (.pointer (some ⟨S, 0, none⟩)) 11 [some 54, some 55, some 56, some 57, some 58, some 59, some 60, some 61, some 62, some 63, some 64] [false, false, false, false, false, false, false, false, false, false, false, false, false, false, false, false, false, false, false, false, false, false, false, false, false, false, false, false, false, false, false, false, false, false, false, false, false, false, false, false, false, false, false, false, false, false, false, false, false, false, false, false, false, false, true, true, true, true, true, true, true, true, true, true, true, false, false, false, false, false, false] [fun v _ => v = .pointer (some ⟨S, 0, none⟩), fun v _ => v = .pointer (some ⟨S, 0, none⟩), fun v _ => v = .pointer (some ⟨S, 0, none⟩), fun v _ => v = .pointer (some ⟨S, 7, none⟩), fun v _ => v = .slice p L.length c, fun v _ => v = .pointer (some ⟨S, 0, none⟩), fun v _ => v = .pointer (some ⟨S, 0, none⟩), fun v _ => v = .pointer (some ⟨S, 6, none⟩), fun v _ => v = .int .i64 (en + ld), fun v _ => v = itv (en + ld, 0), fun v w => One (en + ld, 0) N v w] (by kernel_rfl) (by kernel_rfl) (by kernel_rfl) rfl (by kernel_rfl) (by kernel_rfl) (by kernel_rfl) (by kernel_rfl) (by decide) rfl (fun _ _ _ h => h) ?_ rfl ⟨?_, ?_, ?_, ?_, ?_, ?_, ?_, ?_, ?_, ?_, ?_, trivial⟩ ?_
      · exact ⟨fun _ _ _ _ h => h, fun _ _ _ _ h => h, fun _ _ _ _ h => h, fun _ _ _ _ h => h, fun _ _ _ _ h => h, fun _ _ _ _ h => h, fun _ _ _ _ h => h, fun _ _ _ _ h => h, fun _ _ _ _ h => h, fun _ _ _ _ h => h, fun v w w1 hg h => h.grew hg, trivial⟩
      · intro u w hR hd; exact runs_mv (ev rfl) ⟨Grew.refl _, rfl⟩
      · intro u w hR hd; exact runs_mv (ev rfl) ⟨Grew.refl _, rfl⟩
      · intro u w hR hd; exact runs_nil (ev (hd.1 rfl)) ⟨Grew.refl _, rfl⟩
      · intro u w hR hd; exact runs_fldSim3 (ev (hd.1 rfl)) ⟨Grew.refl _, rfl⟩
      · intro u w hR hd; exact runs_ld54 (ev (hd.1 rfl)) (hS7.kept hR) ⟨Grew.refl _, rfl⟩
      · intro u w hR hd; exact runs_mv (ev rfl) ⟨Grew.refl _, rfl⟩
      · intro u w hR hd; exact runs_nil (ev (hd.1 rfl)) ⟨Grew.refl _, rfl⟩
      · intro u w hR hd; exact runs_fldSim2 (ev (hd.1 rfl)) ⟨Grew.refl _, rfl⟩
      · intro u w hR hd; exact runs_ld3 (ev (hd.1 rfl)) (hS6.kept hR) ⟨Grew.refl _, rfl⟩
      · intro u w hR hd; exact runs_bld67 (ev (hd.1 rfl)) ⟨Grew.refl _, rfl⟩
      · intro u w hR hd; exact runs_bsP (ev (hd.1 rfl)) ⟨(Grew.refl _).alloc _, One.made (en + ld, 0) _ (Nat.le_trans hN2 hR.size) _⟩
      intro uu2 w3 hR3 h
      obtain ⟨B, hv, hB3, hone⟩ := h 10 (by decide)
      have HT9 := Lib.hid (HT8.out.grew hR3)
      refine wpAny_one (i := 11) (some 65) (by kernel_rfl) rfl rfl rfl (runs_appendP (ev (h 4 (by decide))) (ev hv) HT9.out.own hone (by simp) (by simp; omega) HT9.out.size fun p' c' w4 O4 G4 _ => ?_)
      refine wpAny_one (i := 12) (some 66) (by kernel_rfl) rfl rfl rfl (runs_nil (ev (h 0 (by decide))) ?_)
      refine wpAny_one (i := 13) (some 67) (by kernel_rfl) rfl rfl rfl (runs_fldSim3 (ev rfl) ?_)
      have HS4 : CapB S x2 [.int .i64 ld, .int .i64 (en + ld), .slice p L.length c] 75 w4 := HT9.out.cap.chg (Chg.of_grown G4) fun e => by
        rw [ownBlock_slice2] at e
        cases p with
        | none => cases e
        | some a => exact HT9.out.apart a rfl (Option.some.inj e)
      refine wpAny_one (i := 14) none (by kernel_rfl) rfl rfl rfl (runs_stoP (ev rfl) (ev rfl) (HS4.rest 2) (HS4.cs.2.2.2.2.2 7) ?_)
      refine wpAny_done (by kernel_rfl) ?_ _
      have HTA := Lib.hid (HT9.out.added O4 G4)
      generalize World.setCell _ _ _ = w5 at HTA ⊢
      clear O4 G4 HS4 hone hv hS7 hS6 h hR3
      have HTB := Lib.hid (HTA.out.energy 0)
      have t6 := HTA.out.cs.2.2.2.2.2.2.1
      have tf := HTA.out.cs.2.2.2.2.2.2.2.2 6
      simp only [Act.put, mixA, mixL, cond_true, cond_false, List.setIfInBounds_toArray, List.set_cons_succ, List.set_cons_zero]
      go_wp2_with fail
      go_end0
      exact ⟨rfl, HTB.out.sim, HTB.out.kt⟩
end Go.Proofs.Ytjepjcdobgdacaa
