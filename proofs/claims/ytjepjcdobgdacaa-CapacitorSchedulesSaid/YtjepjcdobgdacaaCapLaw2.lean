/-
  LAYER 8 (capacitor): the statements' MatchesModel.
-/
import Derived.Test.YtjepjcdobgdacaaCapLaw1
namespace Go.Proofs.Ytjepjcdobgdacaa
open Go Go.RowKit Go.IntWalk
set_option linter.unusedSimpArgs false
set_option maxRecDepth 8000

/-- y stored into block S. -/
abbrev set5 (w : World) (S : Nat) (y : Cp) : World := ((((w.setCell ⟨S, 0, none⟩ (.int .i64 y.c)).setCell ⟨S, 1, none⟩ (.int .i64 y.o)).setCell ⟨S, 2, none⟩ (.int .i64 y.f)).setCell ⟨S, 3, none⟩ (.int .i64 y.q)).setCell ⟨S, 4, none⟩ (.bool y.r)
theorem set5_chg (w : World) (S : Nat) (y : Cp) : Chg w (set5 w S y) (fun k => k = S) :=
  (((((Chg.refl w (fun k => k = S)).then_set ⟨S, 0, none⟩ _ rfl).then_set ⟨S, 1, none⟩ _ rfl).then_set ⟨S, 2, none⟩ _ rfl).then_set ⟨S, 3, none⟩ _ rfl).then_set ⟨S, 4, none⟩ _ rfl
theorem CapB.set5 {S : Nat} {x : Cp} {e : TypeId} {w : World} (h : CapB S x [] e w) (y : Cp) : CapB S y [] e (set5 w S y) := by
  have h0 := heap_setCell_same h 0 (.int .i64 y.c)
  have h1 := heap_setCell_same h0 1 (.int .i64 y.o)
  have h2 := heap_setCell_same h1 2 (.int .i64 y.f)
  have h3 := heap_setCell_same h2 3 (.int .i64 y.q)
  have h4 := heap_setCell_same h3 4 (.bool y.r)
  simpa [CapB] using h4
/-- What a round keeps: the capacitor x at b, the model y in the box S. -/
structure Rm (w0 : World) (b S : Nat) (x y : Cp) (w : World) : Prop where
  cap : CapB b x [] 70 w
  box : CapB S y [] 34 w
  inv : Inv x
  grew : Grew w0 w
  far : w0.heap.size ≤ b
  farS : w0.heap.size ≤ S
theorem Rm.ne {w0 w : World} {b S : Nat} {x y : Cp} (h : Rm w0 b S x y w) : S ≠ b := fun e => by
  have h1 : w.heap[b]? = _ := h.cap
  have h2 : w.heap[S]? = _ := h.box
  rw [e, h1] at h2
  simp at h2
theorem Rm.on {w0 w w' : World} {b S : Nat} {x y : Cp} (h : Rm w0 b S x y w) (hg : Grew w w') : Rm w0 b S x y w' := ⟨h.cap.grew hg, h.box.grew hg, h.inv, h.grew.trans hg, h.far, h.farS⟩
theorem Rm.to {w0 w w' : World} {b S : Nat} {x y z : Cp} (h : Rm w0 b S x y w) (hc : CapB b z [] 70 w') (hg : Chg w w' (fun k => k = b)) (hi : Inv z) : Rm w0 b S z y w' :=
  ⟨hc, h.box.chg hg h.ne, hi, grew_lift h.grew hg (newb _ _ h.far), h.far, h.farS⟩
theorem Rm.draw {w0 w w' : World} {b S : Nat} {x y : Cp} {n : Int} (h : Rm w0 b S x y w) (hc : CapB b (dw x n) [] 70 w') (hg : Chg w w' (fun k => k = b)) : Rm w0 b S (dw x n) y w' := h.to hc hg (h.inv.dw n)
theorem Rm.harvest {w0 w w' : World} {b S : Nat} {x y : Cp} {p t : Int} (h : Rm w0 b S x y w) (hc : CapB b (hv x p t) [] 70 w') (hg : Chg w w' (fun k => k = b)) : Rm w0 b S (hv x p t) y w' := h.to hc hg (h.inv.hv p t)
theorem Rm.put {w0 w : World} {b S : Nat} {x y : Cp} (h : Rm w0 b S x y w) (z : Cp) : Rm w0 b S x z (set5 w S z) :=
  ⟨h.cap.chg (set5_chg w S z) (fun e => h.ne e.symm), h.box.set5 z, h.inv, grew_lift h.grew (set5_chg w S z) (newb _ _ h.farS), h.far, h.farS⟩
/-- A box of an act stays. -/
theorem Rm.aside {w0 w w' : World} {b S : Nat} {x y : Cp} (h : Rm w0 b S x y w) {k : Nat} {cs : Array Value} (hk : w.heap[k]? = some (.cells cs 36)) (hg : Chg w w' (fun k => k = b)) : w'.heap[k]? = some (.cells cs 36) :=
  (hg.block k (lt_of_heap hk) (fun e => by
    subst e
    have h1 : w.heap[k]? = _ := h.cap
    rw [h1] at hk
    simp at hk)).trans hk
theorem bneI (a : Int) : (a != a) = false := by simp
theorem bneB (a : Bool) : (a != a) = false := by cases a <;> rfl
theorem wp_at2 {P : Program} {c : Code} {Q : Exit → Act → World → Prop} {a : Act} {w : World} (F : World → Prop) (hF : F w) (h : ∀ W, F W → c.wp P Q a W) : c.wp P Q a w := h w hF
set_option maxHeartbeats 8000000 in
theorem matches_law (c o f : Int) (p : Option Addr) (n cap : Nat) (xs : List Ac) (pw : Int) (w0 : World) (hl : xs.length = n) (hx : RdA w0 p cap xs) (hok : acOk xs) (hpw : -9223372036854775808 ≤ pw ∧ pw ≤ 9223372036854775807) :
    Calls Try.prog 3 #[cfv c o f, .slice p n cap, .int .i64 pw] w0 fun e w' => e = .returned (.bool true) ∧ Grew w0 w' := by
  subst hl
  have HX := Lib.hid hx
  have HO := Lib.hid hok
  have HPW := Lib.hid hpw
  have hcap := hx.cap
  have hmax := hx.max
  clear hx hok hpw
  have HB := Lib.hid (Grew.refl w0)
  have HV : Hid (∀ W : World, Calls Try.prog 12 #[cfv c o f] W fun e w' => e = .returned (.bool (okC c o f)) ∧ Grew W w') := Lib.hid fun W => rvalid_any c o f W
  have HF : Hid (∀ W : World, Calls Try.prog 11 #[cfv c o f] W fun e w' => e = .returned (cfv c o f) ∧ Grew W w') := Lib.hid fun W => config_any c o f W
  cases hk : okC c o f with
  | false =>
    rw [hk] at HV
    have HNB : Hid (∀ W : World, Calls Try.prog 10 #[cfv c o f] W fun e w' => e = .returned (.tuple #[.pointer none, .int .i64 1]) ∧ Grew W w') := Lib.hid fun W => new_bad c o f W hk
    clear hk
    go_enter Try.func3, Try.ntmps3
    go_wp2_with (first
      | (go_at_call 9; (with_reducible refine (awake_any _).mono ?_); rintro e w1 ⟨rfl, g0⟩; have HQ : Hid (CfB w0.heap.size c o f w1) := Lib.hid (CfB.grew (heap_alloc_new w0 _) g0); obtain ⟨q0, q1, q2, ql⟩ := HQ.out.cs; replace HB := Lib.hid ((HB.out.al _).trans g0); clear g0)
      | (go_at_call 11; (with_reducible refine (HF.out _).mono ?_); rintro e w2 ⟨rfl, g0⟩; replace HQ := Lib.hid (HQ.out.grew g0); clear q0 q1 q2 ql; obtain ⟨q0, q1, q2, ql⟩ := HQ.out.cs; replace HB := Lib.hid (HB.out.trans g0); clear g0)
      | (go_at_call 10; (with_reducible refine (HNB.out _).mono ?_); rintro e w3 ⟨rfl, g0⟩; replace HQ := Lib.hid (HQ.out.grew g0); clear q0 q1 q2 ql; obtain ⟨q0, q1, q2, ql⟩ := HQ.out.cs; replace HB := Lib.hid (HB.out.trans g0); clear g0)
      | (go_at_call 12; (with_reducible refine (HV.out _).mono ?_); rintro e w4 ⟨rfl, g0⟩; replace HQ := Lib.hid (HQ.out.grew g0); clear q0 q1 q2 ql; obtain ⟨q0, q1, q2, ql⟩ := HQ.out.cs; replace HB := Lib.hid (HB.out.trans g0); clear g0))
    all_goals go_ret
    all_goals exact ⟨rfl, HB.out⟩
  | true =>
    rw [hk] at HV
    have HN : Hid (∀ W : World, Calls Try.prog 10 #[cfv c o f] W fun e w' => ∃ b, e = .returned (.tuple #[.pointer (some ⟨b, 0, none⟩), .int .i64 0]) ∧ CapB b (cp0 c o f) [] 70 w' ∧ Grew W w' ∧ W.heap.size ≤ b) := Lib.hid fun W => new_ok c o f W hk
    have HI := Lib.hid (inv0 hk)
    clear hk
    go_enter Try.func3, Try.ntmps3
    go_wp2_with (first
      | (go_at_call 9; (with_reducible refine (awake_any _).mono ?_); rintro e w1 ⟨rfl, g0⟩; have HQ : Hid (CfB w0.heap.size c o f w1) := Lib.hid (CfB.grew (heap_alloc_new w0 _) g0); obtain ⟨q0, q1, q2, ql⟩ := HQ.out.cs; replace HB := Lib.hid ((HB.out.al _).trans g0); clear g0)
      | (go_at_call 11; (with_reducible refine (HF.out _).mono ?_); rintro e w2 ⟨rfl, g0⟩; replace HQ := Lib.hid (HQ.out.grew g0); clear q0 q1 q2 ql; obtain ⟨q0, q1, q2, ql⟩ := HQ.out.cs; replace HB := Lib.hid (HB.out.trans g0); clear g0)
      | (go_at_call 10; (with_reducible refine (HN.out _).mono ?_); rintro e w3 ⟨b, rfl, h1, g0, hb⟩; have HR : Hid (Rs w0 b w0.heap.size c o f (cp0 c o f) w3) := Lib.hid (Rs.made h1 HI.out HB.out HQ.out g0 hb); replace HQ := Lib.hid (HQ.out.grew g0); replace HB := Lib.hid (HB.out.trans g0); clear q0 q1 q2 ql; obtain ⟨q0, q1, q2, ql⟩ := HQ.out.cs; clear g0 h1 hb)
      | (go_at_call 12; (with_reducible refine (HV.out _).mono ?_); rintro e w4 ⟨rfl, g0⟩; replace HR := Lib.hid (HR.out.on g0); replace HQ := Lib.hid HR.out.box; clear q0 q1 q2 ql; obtain ⟨q0, q1, q2, ql⟩ := HQ.out.cs; clear g0))
    · go_ret
      exact ⟨rfl, HB.out⟩
    have HI0 := HI
    obtain ⟨S7, hS7⟩ : ∃ S7, S7 = w4.heap.size := ⟨_, rfl⟩
    rw [← hS7]
    refine wp_at2 (fun W => Rm w0 b S7 (cp0 c o f) (cp0 c o f) W) ⟨HR.out.cap.grew ((Grew.refl w4).al _), by rw [hS7]; exact heap_alloc_new w4 _, HI.out, HR.out.grew.al _, HR.out.far, by rw [hS7]; exact HR.out.grew.size⟩ ?_
    intro W hW
    have HM0 := Lib.hid hW
    clear hS7 hW HV HF HN HI HI0 HQ HB HR q0 q1 q2 ql
    go_loopg [52] xs.length (fun gg iv wr => ∃ (k : Nat) (x : Cp), iv = .int .i64 (k : Int) ∧ k ≤ xs.length ∧ gg = xs.length - k ∧ Hid (Rm w0 b S7 x x wr))
    case atStart => exact ⟨0, cp0 c o f, rfl, Nat.zero_le _, rfl, HM0⟩
    clear HM0
    case round =>
      obtain ⟨k, x, rfl, hk, rfl, HR⟩ := hrel
      have HI := Lib.hid HR.out.inv
      by_cases hlt : k < xs.length
      · obtain ⟨b', o', rfl, hcc⟩ := (HX.out.kept HR.out.grew).cells (by omega)
        obtain ⟨d0, d1, d2⟩ := hcc k xs[k] (by simp [hlt])
        have hlb : b' < wr.heap.size := World.block_lt_of_cell? _ _ d0
        have HLT := Lib.hid (Nat.succ_le_of_lt hlt)
        have HM := Lib.hid (HO.out xs[k] (List.getElem_mem hlt)).1
        generalize xs[k] = e at d0 d1 d2 HM
        obtain ⟨d, m, t⟩ := e
        simp only at d0 d1 d2 HM
        have HMA : Hid (∀ ob, Rm w0 b S7 x x (wr.alloc ob)) := Lib.hid fun ob => HR.out.on ((Grew.refl wr).al ob)
        obtain ⟨s0, s1, s2, s3, s4, sf⟩ := HR.out.box.cs
        clear hcc
        cases d with
        | true =>
          go_wp2_with (first
            | (go_at_call 13; (with_reducible refine (draw_any b x [] _ m _ (HMA.out _).cap HI.out HM.out).mono ?_); rintro e w5 ⟨rfl, h5, c5⟩; have HM5 := Lib.hid ((HMA.out _).draw h5 c5); have ho5 := (HMA.out _).aside (heap_alloc_new wr _) c5; obtain ⟨a0, a1, a2⟩ := box3 ho5; have al := lt_of_heap ho5; clear h5 c5 HMA; clear s0 s1 s2 s3 s4 sf; obtain ⟨s0, s1, s2, s3, s4, sf⟩ := HM5.out.box.cs; have sl := HM5.out.box.lt)
            | (go_at_call 14; (with_reducible refine (rdraw_any x m _ HI.out HM.out).mono ?_); rintro e w6 ⟨rfl, g0⟩; replace HM5 := Lib.hid (HM5.out.on g0); clear g0 ho5 a0 a1 a2 al; clear s0 s1 s2 s3 s4 sf; obtain ⟨s0, s1, s2, s3, s4, sf⟩ := HM5.out.box.cs; have sl := HM5.out.box.lt; have HI7 := Lib.hid HM5.out.inv; have HM7 : Hid (∀ ob, Rm w0 b S7 (dw x m) (dw x m) ((set5 w6 S7 (dw x m)).alloc ob)) := Lib.hid fun ob => (HM5.out.put _).on ((Grew.refl _).al ob); clear HM5)
            | (go_at_call 17; (with_reducible refine (wait_any b (dw x m) [] _ pw _ (HM7.out _).cap HI7.out HPW.out).mono ?_); rintro e w7 ⟨rfl, g0⟩; have HM8 := Lib.hid ((HM7.out _).on g0); clear g0 HM7; obtain ⟨s0, s1, s2, s3, s4, sf⟩ := HM8.out.box.cs; have sl := HM8.out.box.lt)
            | (go_at_call 18; (with_reducible refine (rwait_any (dw x m) pw _ HI7.out HPW.out).mono ?_); rintro e w8 ⟨rfl, g0⟩; replace HM8 := Lib.hid (HM8.out.on g0); clear g0; clear s0 s1 s2 s3 s4 sf; obtain ⟨s0, s1, s2, s3, s4, sf⟩ := HM8.out.box.cs; have sl := HM8.out.box.lt))
          obtain ⟨s0, s1, s2, s3, s4, sf⟩ := (HM8.out.on (Grew.drw (Grew.refl w8))).box.cs
          have hS3 : Atv ⟨S7, 3, none⟩ (.int .i64 (dw x m).q) w8.drew := s3
          have hS4 : Atv ⟨S7, 4, none⟩ (.bool (dw x m).r) w8.drew := s4
          have HC := (HM8.out.on (Grew.drw (Grew.refl w8))).cap
          clear s0 s1 s2 s3 s4 sf HI7
          generalize dw x m = y at *
          refine wp_still [some 104, some 105, some 106, some 107, some 108, some 109, some 110, some 111, some 112, some 113, some 114, some 115, some 116, some 117, some 118, some 119, some 120, some 121, some 122, some 123, some 124, some 125] [false, false, false, false, false, false, false, false, false, false, false, false, false, false, false, false, false, false, false, false, false, false, false, false, false, false, false, false, false, false, false, false, false, false, false, false, false, false, false, false, false, false, false, false, false, false, false, false, false, false, false, false, false, false, false, false, false, false, false, false, false, false, false, false, false, false, false, false, false, false, false, false, false, false, false, false, false, false, false, false, false, false, false, false, false, false, false, false, false, false, false, false, false, false, false, false, false, false, false, false, false, false, false, false, true, true, true, true, true, true, true, true, true, true, true, true, true, true, true, true, true, true, true, true, true, true, false] [fun v _ => v = .pointer (some ⟨b, 0, none⟩), fun v _ => v = .int .i64 (y.q), fun v _ => v = .pointer (some ⟨S7, 3, none⟩), fun v _ => v = .int .i64 (y.q), fun v _ => v = .bool (false), fun v _ => v = .bool (false), fun v _ => v = .pointer (some ⟨b, 0, none⟩), fun v _ => v = .bool (y.r), fun v _ => v = .pointer (some ⟨S7, 4, none⟩), fun v _ => v = .bool (y.r), fun v _ => v = .bool (false), fun v _ => v = .bool (false), fun v _ => v = .bool (false), fun v _ => v = .int .i64 (wt y pw), fun v _ => v = .int .i64 (wt y pw), fun v _ => v = .bool (false), fun v _ => v = .bool (false), fun v _ => v = .bool (false), fun v _ => v = .bool (wb y pw), fun v _ => v = .bool (wb y pw), fun v _ => v = .bool (false), fun v _ => v = .bool (false)] (by kernel_rfl) (by kernel_rfl) rfl ⟨?_, ?_, ?_, ?_, ?_, ?_, ?_, ?_, ?_, ?_, ?_, ?_, ?_, ?_, ?_, ?_, ?_, ?_, ?_, ?_, ?_, ?_, trivial⟩ ?_
          · intro u w hR hd; exact runs_mv (ev rfl) ⟨rfl, rfl⟩
          · intro u w hR hd; exact runs_c1 enters_charge (ev (hd.1 rfl)) (callp (fun _ e => e) (charge_st b y [] _ _ (HC.at hR)))
          · intro u w hR hd; exact runs_fld34_1 (ev rfl) ⟨rfl, rfl⟩
          · intro u w hR hd; exact runs_ld3 (ev (hd.1 rfl)) (hS3.kept hR) ⟨rfl, rfl⟩
          · intro u w hR hd; exact runs_neq3 (ev (hd.1 rfl)) (ev (hd.2.1 rfl)) ⟨rfl, (congrArg Value.bool (bneI _))⟩
          · intro u w hR hd; exact runs_mv (ev (hd.1 rfl)) ⟨rfl, rfl⟩
          · intro u w hR hd; exact ⟨fun _ => runs_mv (ev rfl) ⟨rfl, rfl⟩, fun hn => absurd (hd.1 rfl) hn⟩
          · intro u w hR hd; exact ⟨fun _ => runs_c1 enters_running (ev (hd.1 rfl)) (callp (fun _ e => e) (running_st b y [] _ _ (HC.at hR))), fun hn => absurd (hd.2.1 rfl) hn⟩
          · intro u w hR hd; exact ⟨fun _ => runs_fld34_2 (ev rfl) ⟨rfl, rfl⟩, fun hn => absurd (hd.1 rfl) hn⟩
          · intro u w hR hd; exact ⟨fun _ => runs_ld4 (ev (hd.1 rfl)) (hS4.kept hR) ⟨rfl, rfl⟩, fun hn => absurd (hd.2.1 rfl) hn⟩
          · intro u w hR hd; exact ⟨fun _ => runs_neq4 (ev (hd.1 rfl)) (ev (hd.2.1 rfl)) ⟨rfl, (congrArg Value.bool (bneB _))⟩, fun hn => absurd (hd.2.2.1 rfl) hn⟩
          · intro u w hR hd; exact runs_or2 (ev (hd.1 rfl)) (fun hb => ev ((hd.2.1 rfl))) ⟨rfl, rfl⟩
          · intro u w hR hd; exact runs_mv (ev (hd.1 rfl)) ⟨rfl, rfl⟩
          · intro u w hR hd; exact ⟨fun _ => runs_mv (ev rfl) ⟨rfl, rfl⟩, fun hn => absurd (hd.1 rfl) hn⟩
          · intro u w hR hd; exact ⟨fun _ => runs_mv (ev rfl) ⟨rfl, rfl⟩, fun hn => absurd (hd.1 rfl) hn⟩
          · intro u w hR hd; exact ⟨fun _ => runs_neq2 (ev (hd.1 rfl)) (ev (hd.2.1 rfl)) ⟨rfl, (congrArg Value.bool (bneI _))⟩, fun hn => absurd (hd.2.2.1 rfl) hn⟩
          · intro u w hR hd; exact runs_or2 (ev (hd.1 rfl)) (fun hb => ev ((hd.2.1 rfl))) ⟨rfl, rfl⟩
          · intro u w hR hd; exact runs_mv (ev (hd.1 rfl)) ⟨rfl, rfl⟩
          · intro u w hR hd; exact ⟨fun _ => runs_mv (ev rfl) ⟨rfl, rfl⟩, fun hn => absurd (hd.1 rfl) hn⟩
          · intro u w hR hd; exact ⟨fun _ => runs_mv (ev rfl) ⟨rfl, rfl⟩, fun hn => absurd (hd.1 rfl) hn⟩
          · intro u w hR hd; exact ⟨fun _ => runs_neq4 (ev (hd.1 rfl)) (ev (hd.2.1 rfl)) ⟨rfl, (congrArg Value.bool (bneB _))⟩, fun hn => absurd (hd.2.2.1 rfl) hn⟩
          · intro u w hR hd; exact runs_or2 (ev (hd.1 rfl)) (fun hb => ev ((hd.2.1 rfl))) ⟨rfl, rfl⟩
          intro u hp
          have hf := hp 21 (by decide)
          simp only [mixA, mixL, cond_true, cond_false]
          have hf2 : u 125 = .bool false := hf
          rw [hf2]
          clear hp hf hf2 hS3 hS4 HC
          go_wp2
          go_roundg (xs.length - (k + 1))
          case measure => have := HLT.out; omega
          case rel => exact ⟨k + 1, y, by go_num, HLT.out, rfl, Lib.hid (HM8.out.on (Grew.drw (Grew.refl w8)))⟩
        | false =>
          go_wp2_with (first
            | (go_at_call 15; (with_reducible refine (harvest_any b x [] _ m t _ (HMA.out _).cap HI.out).mono ?_); rintro e w5 ⟨rfl, h5, c5⟩; have HM5 := Lib.hid ((HMA.out _).harvest h5 c5); have ho5 := (HMA.out _).aside (heap_alloc_new wr _) c5; obtain ⟨a0, a1, a2⟩ := box3 ho5; have al := lt_of_heap ho5; clear h5 c5 HMA; clear s0 s1 s2 s3 s4 sf; obtain ⟨s0, s1, s2, s3, s4, sf⟩ := HM5.out.box.cs; have sl := HM5.out.box.lt)
            | (go_at_call 16; (with_reducible refine (rharvest_any x m t _ HI.out).mono ?_); rintro e w6 ⟨rfl, g0⟩; replace HM5 := Lib.hid (HM5.out.on g0); clear g0 ho5 a0 a1 a2 al; clear s0 s1 s2 s3 s4 sf; obtain ⟨s0, s1, s2, s3, s4, sf⟩ := HM5.out.box.cs; have sl := HM5.out.box.lt; have HI7 := Lib.hid HM5.out.inv; have HM7 : Hid (∀ ob, Rm w0 b S7 (hv x m t) (hv x m t) ((set5 w6 S7 (hv x m t)).alloc ob)) := Lib.hid fun ob => (HM5.out.put _).on ((Grew.refl _).al ob); clear HM5)
            | (go_at_call 17; (with_reducible refine (wait_any b (hv x m t) [] _ pw _ (HM7.out _).cap HI7.out HPW.out).mono ?_); rintro e w7 ⟨rfl, g0⟩; have HM8 := Lib.hid ((HM7.out _).on g0); clear g0 HM7; obtain ⟨s0, s1, s2, s3, s4, sf⟩ := HM8.out.box.cs; have sl := HM8.out.box.lt)
            | (go_at_call 18; (with_reducible refine (rwait_any (hv x m t) pw _ HI7.out HPW.out).mono ?_); rintro e w8 ⟨rfl, g0⟩; replace HM8 := Lib.hid (HM8.out.on g0); clear g0; clear s0 s1 s2 s3 s4 sf; obtain ⟨s0, s1, s2, s3, s4, sf⟩ := HM8.out.box.cs; have sl := HM8.out.box.lt))
          obtain ⟨s0, s1, s2, s3, s4, sf⟩ := (HM8.out.on (Grew.drw (Grew.refl w8))).box.cs
          have hS3 : Atv ⟨S7, 3, none⟩ (.int .i64 (hv x m t).q) w8.drew := s3
          have hS4 : Atv ⟨S7, 4, none⟩ (.bool (hv x m t).r) w8.drew := s4
          have HC := (HM8.out.on (Grew.drw (Grew.refl w8))).cap
          clear s0 s1 s2 s3 s4 sf HI7
          generalize hv x m t = y at *
          refine wp_still [some 104, some 105, some 106, some 107, some 108, some 109, some 110, some 111, some 112, some 113, some 114, some 115, some 116, some 117, some 118, some 119, some 120, some 121, some 122, some 123, some 124, some 125] [false, false, false, false, false, false, false, false, false, false, false, false, false, false, false, false, false, false, false, false, false, false, false, false, false, false, false, false, false, false, false, false, false, false, false, false, false, false, false, false, false, false, false, false, false, false, false, false, false, false, false, false, false, false, false, false, false, false, false, false, false, false, false, false, false, false, false, false, false, false, false, false, false, false, false, false, false, false, false, false, false, false, false, false, false, false, false, false, false, false, false, false, false, false, false, false, false, false, false, false, false, false, false, false, true, true, true, true, true, true, true, true, true, true, true, true, true, true, true, true, true, true, true, true, true, true, false] [fun v _ => v = .pointer (some ⟨b, 0, none⟩), fun v _ => v = .int .i64 (y.q), fun v _ => v = .pointer (some ⟨S7, 3, none⟩), fun v _ => v = .int .i64 (y.q), fun v _ => v = .bool (false), fun v _ => v = .bool (false), fun v _ => v = .pointer (some ⟨b, 0, none⟩), fun v _ => v = .bool (y.r), fun v _ => v = .pointer (some ⟨S7, 4, none⟩), fun v _ => v = .bool (y.r), fun v _ => v = .bool (false), fun v _ => v = .bool (false), fun v _ => v = .bool (false), fun v _ => v = .int .i64 (wt y pw), fun v _ => v = .int .i64 (wt y pw), fun v _ => v = .bool (false), fun v _ => v = .bool (false), fun v _ => v = .bool (false), fun v _ => v = .bool (wb y pw), fun v _ => v = .bool (wb y pw), fun v _ => v = .bool (false), fun v _ => v = .bool (false)] (by kernel_rfl) (by kernel_rfl) rfl ⟨?_, ?_, ?_, ?_, ?_, ?_, ?_, ?_, ?_, ?_, ?_, ?_, ?_, ?_, ?_, ?_, ?_, ?_, ?_, ?_, ?_, ?_, trivial⟩ ?_
          · intro u w hR hd; exact runs_mv (ev rfl) ⟨rfl, rfl⟩
          · intro u w hR hd; exact runs_c1 enters_charge (ev (hd.1 rfl)) (callp (fun _ e => e) (charge_st b y [] _ _ (HC.at hR)))
          · intro u w hR hd; exact runs_fld34_1 (ev rfl) ⟨rfl, rfl⟩
          · intro u w hR hd; exact runs_ld3 (ev (hd.1 rfl)) (hS3.kept hR) ⟨rfl, rfl⟩
          · intro u w hR hd; exact runs_neq3 (ev (hd.1 rfl)) (ev (hd.2.1 rfl)) ⟨rfl, (congrArg Value.bool (bneI _))⟩
          · intro u w hR hd; exact runs_mv (ev (hd.1 rfl)) ⟨rfl, rfl⟩
          · intro u w hR hd; exact ⟨fun _ => runs_mv (ev rfl) ⟨rfl, rfl⟩, fun hn => absurd (hd.1 rfl) hn⟩
          · intro u w hR hd; exact ⟨fun _ => runs_c1 enters_running (ev (hd.1 rfl)) (callp (fun _ e => e) (running_st b y [] _ _ (HC.at hR))), fun hn => absurd (hd.2.1 rfl) hn⟩
          · intro u w hR hd; exact ⟨fun _ => runs_fld34_2 (ev rfl) ⟨rfl, rfl⟩, fun hn => absurd (hd.1 rfl) hn⟩
          · intro u w hR hd; exact ⟨fun _ => runs_ld4 (ev (hd.1 rfl)) (hS4.kept hR) ⟨rfl, rfl⟩, fun hn => absurd (hd.2.1 rfl) hn⟩
          · intro u w hR hd; exact ⟨fun _ => runs_neq4 (ev (hd.1 rfl)) (ev (hd.2.1 rfl)) ⟨rfl, (congrArg Value.bool (bneB _))⟩, fun hn => absurd (hd.2.2.1 rfl) hn⟩
          · intro u w hR hd; exact runs_or2 (ev (hd.1 rfl)) (fun hb => ev ((hd.2.1 rfl))) ⟨rfl, rfl⟩
          · intro u w hR hd; exact runs_mv (ev (hd.1 rfl)) ⟨rfl, rfl⟩
          · intro u w hR hd; exact ⟨fun _ => runs_mv (ev rfl) ⟨rfl, rfl⟩, fun hn => absurd (hd.1 rfl) hn⟩
          · intro u w hR hd; exact ⟨fun _ => runs_mv (ev rfl) ⟨rfl, rfl⟩, fun hn => absurd (hd.1 rfl) hn⟩
          · intro u w hR hd; exact ⟨fun _ => runs_neq2 (ev (hd.1 rfl)) (ev (hd.2.1 rfl)) ⟨rfl, (congrArg Value.bool (bneI _))⟩, fun hn => absurd (hd.2.2.1 rfl) hn⟩
          · intro u w hR hd; exact runs_or2 (ev (hd.1 rfl)) (fun hb => ev ((hd.2.1 rfl))) ⟨rfl, rfl⟩
          · intro u w hR hd; exact runs_mv (ev (hd.1 rfl)) ⟨rfl, rfl⟩
          · intro u w hR hd; exact ⟨fun _ => runs_mv (ev rfl) ⟨rfl, rfl⟩, fun hn => absurd (hd.1 rfl) hn⟩
          · intro u w hR hd; exact ⟨fun _ => runs_mv (ev rfl) ⟨rfl, rfl⟩, fun hn => absurd (hd.1 rfl) hn⟩
          · intro u w hR hd; exact ⟨fun _ => runs_neq4 (ev (hd.1 rfl)) (ev (hd.2.1 rfl)) ⟨rfl, (congrArg Value.bool (bneB _))⟩, fun hn => absurd (hd.2.2.1 rfl) hn⟩
          · intro u w hR hd; exact runs_or2 (ev (hd.1 rfl)) (fun hb => ev ((hd.2.1 rfl))) ⟨rfl, rfl⟩
          intro u hp
          have hf := hp 21 (by decide)
          simp only [mixA, mixL, cond_true, cond_false]
          have hf2 : u 125 = .bool false := hf
          rw [hf2]
          clear hp hf hf2 hS3 hS4 HC
          go_wp2
          go_roundg (xs.length - (k + 1))
          case measure => have := HLT.out; omega
          case rel => exact ⟨k + 1, y, by go_num, HLT.out, rfl, Lib.hid (HM8.out.on (Grew.drw (Grew.refl w8)))⟩
      · obtain rfl : k = xs.length := by omega
        go_wp2
        go_ret
        exact ⟨rfl, HR.out.grew⟩
end Go.Proofs.Ytjepjcdobgdacaa
