/-
  LAYER 8 (capacitor): what the walks of the laws keep, and the statements' Bounds.
-/
import Derived.Test.YtjepjcdobgdacaaCapOps
namespace Go.Proofs.Ytjepjcdobgdacaa
open Go Go.RowKit Go.IntWalk
set_option linter.unusedSimpArgs false
set_option maxRecDepth 8000

/-- An act: whether it draws, how much, how long. -/
abbrev Ac := Bool × Int × Int
abbrev acv (x : Ac) : Value := .agg #[.bool x.1, .int .i64 x.2.1, .int .i64 x.2.2]
/-- The slice value of the address p and the capacity c holds the acts xs. -/
structure RdA (w : World) (p : Option Addr) (c : Nat) (xs : List Ac) : Prop where
  cap : xs.length ≤ c
  max : c ≤ 9223372036854775807
  cells : 0 < xs.length → ∃ b o, p = some ⟨b, o, none⟩ ∧ ∀ i x, xs[i]? = some x → w.cell? ⟨b, o + i * 3, none⟩ = some (.bool x.1) ∧ w.cell? ⟨b, o + i * 3 + 1, none⟩ = some (.int .i64 x.2.1) ∧ w.cell? ⟨b, o + i * 3 + 2, none⟩ = some (.int .i64 x.2.2)
def acOk (xs : List Ac) : Prop := ∀ x ∈ xs, (-9223372036854775808 ≤ x.2.1 ∧ x.2.1 ≤ 9223372036854775807) ∧ (-9223372036854775808 ≤ x.2.2 ∧ x.2.2 ≤ 9223372036854775807)
theorem RdA.kept {w w' : World} {p : Option Addr} {c : Nat} {xs : List Ac} (h : RdA w p c xs) (hb : Grew w w') : RdA w' p c xs :=
  ⟨h.cap, h.max, fun hn => by
    obtain ⟨b, o, rfl, hc⟩ := h.cells hn
    refine ⟨b, o, rfl, fun i x hx => ?_⟩
    obtain ⟨h1, h2, h3⟩ := hc i x hx
    exact ⟨(Below.cell hb (p := ⟨b, _, none⟩) (World.block_lt_of_cell? _ _ h1)).trans h1, (Below.cell hb (p := ⟨b, _, none⟩) (World.block_lt_of_cell? _ _ h2)).trans h2, (Below.cell hb (p := ⟨b, _, none⟩) (World.block_lt_of_cell? _ _ h3)).trans h3⟩⟩
/-- Block S is the box of a law's configuration. -/
def CfB (S : Nat) (c o f : Int) (w : World) : Prop := w.heap[S]? = some (.cells #[.int .i64 c, .int .i64 o, .int .i64 f] 23)
theorem CfB.grew {S : Nat} {c o f : Int} {w w' : World} (h : CfB S c o f w) (hg : Grew w w') : CfB S c o f w' := hg.heap h
theorem CfB.cs {S : Nat} {c o f : Int} {w : World} (h : CfB S c o f w) : w.cell? ⟨S, 0, none⟩ = some (.int .i64 c) ∧ w.cell? ⟨S, 1, none⟩ = some (.int .i64 o) ∧ w.cell? ⟨S, 2, none⟩ = some (.int .i64 f) ∧ S < w.heap.size := by
  refine ⟨?_, ?_, ?_, lt_of_heap h⟩ <;> rw [cells_of_heap h] <;> rfl
/-- What a walk keeps: the capacitor at b, the configuration's box at S. -/
structure Rs (w0 : World) (b S : Nat) (c o f : Int) (x : Cp) (w : World) : Prop where
  cap : CapB b x [] 70 w
  inv : Inv x
  grew : Grew w0 w
  far : w0.heap.size ≤ b
  box : CfB S c o f w
  cfg : x.c = c ∧ x.o = o ∧ x.f = f
theorem Rs.ne {w0 w : World} {b S : Nat} {c o f : Int} {x : Cp} (h : Rs w0 b S c o f x w) : S ≠ b := fun e => by
  have h1 : w.heap[b]? = _ := h.cap
  have h2 : w.heap[S]? = _ := h.box
  rw [e, h1] at h2
  simp at h2
theorem Rs.made {w0 w w' : World} {b S : Nat} {c o f : Int} (h1 : CapB b (cp0 c o f) [] 70 w') (hi : Inv (cp0 c o f)) (hg : Grew w0 w) (hq : CfB S c o f w) (g0 : Grew w w') (hb : w.heap.size ≤ b) : Rs w0 b S c o f (cp0 c o f) w' :=
  ⟨h1, hi, hg.trans g0, Nat.le_trans hg.size hb, hq.grew g0, rfl, rfl, rfl⟩
theorem Rs.on {w0 w w' : World} {b S : Nat} {c o f : Int} {x : Cp} (h : Rs w0 b S c o f x w) (hg : Grew w w') : Rs w0 b S c o f x w' := ⟨h.cap.grew hg, h.inv, h.grew.trans hg, h.far, h.box.grew hg, h.cfg⟩
theorem Rs.to {w0 w w' : World} {b S : Nat} {c o f : Int} {x y : Cp} (h : Rs w0 b S c o f x w) (hc : CapB b y [] 70 w') (hg : Chg w w' (fun k => k = b)) (hi : Inv y) (hy : y.c = x.c ∧ y.o = x.o ∧ y.f = x.f) : Rs w0 b S c o f y w' :=
  ⟨hc, hi, grew_lift h.grew hg (newb _ _ h.far), h.far, (hg.block S (lt_of_heap h.box) h.ne).trans h.box, hy.1.trans h.cfg.1, hy.2.1.trans h.cfg.2.1, hy.2.2.trans h.cfg.2.2⟩
theorem Rs.draw {w0 w w' : World} {b S : Nat} {c o f : Int} {x : Cp} {n : Int} (h : Rs w0 b S c o f x w) (hc : CapB b (dw x n) [] 70 w') (hg : Chg w w' (fun k => k = b)) : Rs w0 b S c o f (dw x n) w' := h.to hc hg (h.inv.dw n) (dw_c x n)
theorem Rs.harvest {w0 w w' : World} {b S : Nat} {c o f : Int} {x : Cp} {p t : Int} (h : Rs w0 b S c o f x w) (hc : CapB b (hv x p t) [] 70 w') (hg : Chg w w' (fun k => k = b)) : Rs w0 b S c o f (hv x p t) w' := h.to hc hg (h.inv.hv p t) (hv_c x p t)
/-- Another box aside of it, behind a draw or a harvest. -/
theorem Rs.aside {w0 w w' : World} {b S : Nat} {c o f : Int} {x : Cp} (h : Rs w0 b S c o f x w) {k : Nat} {ob : Obj} (hk : w.heap[k]? = some ob) (hkb : ∀ cs : Array Value, ob ≠ .cells cs 70) (hg : Chg w w' (fun k => k = b)) : w'.heap[k]? = some ob :=
  (hg.block k (lt_of_heap hk) (fun e => by
    subst e
    have h1 : w.heap[k]? = _ := h.cap
    rw [h1] at hk
    exact hkb _ (Option.some.inj hk).symm)).trans hk
theorem dw_le {x : Cp} (h : Inv x) (n : Int) : (dw x n).q ≤ x.q := by
  cases hd : dok x n with
  | false => rw [(dw_no hd).2]; exact Int.le_refl _
  | true =>
    rw [(dw_yes hd).2]
    simp only [dok, Bool.and_eq_true, decide_eq_true_eq] at hd
    show dq x n ≤ x.q
    have := h.q0
    unfold dq; omega
theorem hv_ge {x : Cp} (h : Inv x) (p t : Int) : x.q ≤ (hv x p t).q := by
  cases hd : okP p && okT t with
  | false => rw [(hv_no hd).2]; exact Int.le_refl _
  | true =>
    rw [(hv_yes hd).2]
    obtain ⟨m0, _⟩ := mul_bound (Bool.and_eq_true_iff.1 hd).1 (Bool.and_eq_true_iff.1 hd).2
    show x.q ≤ hq x p t
    have := h.qc
    unfold hq; omega
theorem box3 {w : World} {S : Nat} {u v z : Value} {e : TypeId} (h : w.heap[S]? = some (.cells #[u, v, z] e)) : w.cell? ⟨S, 0, none⟩ = some u ∧ w.cell? ⟨S, 1, none⟩ = some v ∧ w.cell? ⟨S, 2, none⟩ = some z := by
  refine ⟨?_, ?_, ?_⟩ <;> rw [cells_of_heap h] <;> rfl
set_option maxHeartbeats 4000000 in
theorem bounds_law (c o f : Int) (p : Option Addr) (n cap : Nat) (xs : List Ac) (w0 : World) (hl : xs.length = n) (hx : RdA w0 p cap xs) (hok : acOk xs) :
    Calls Try.prog 7 #[cfv c o f, .slice p n cap] w0 fun e w' => e = .returned (.bool true) ∧ Grew w0 w' := by
  subst hl
  have HX := Lib.hid hx
  have HO := Lib.hid hok
  have hcap := hx.cap
  have hmax := hx.max
  clear hx hok
  have HB := Lib.hid (Grew.refl w0)
  have HV : Hid (∀ W : World, Calls Try.prog 12 #[cfv c o f] W fun e w' => e = .returned (.bool (okC c o f)) ∧ Grew W w') := Lib.hid fun W => rvalid_any c o f W
  have HF : Hid (∀ W : World, Calls Try.prog 11 #[cfv c o f] W fun e w' => e = .returned (cfv c o f) ∧ Grew W w') := Lib.hid fun W => config_any c o f W
  cases hk : okC c o f with
  | false =>
    rw [hk] at HV
    clear hk
    go_enter Try.func7, Try.ntmps7
    go_wp2_with (first
      | (go_at_call 9; (with_reducible refine (awake_any _).mono ?_); rintro e w1 ⟨rfl, g0⟩; have HQ : Hid (CfB w0.heap.size c o f w1) := Lib.hid (CfB.grew (heap_alloc_new w0 _) g0); obtain ⟨q0, q1, q2, ql⟩ := HQ.out.cs; replace HB := Lib.hid ((HB.out.al _).trans g0); clear g0)
      | (go_at_call 12; (with_reducible refine (HV.out _).mono ?_); rintro e w2 ⟨rfl, g0⟩; replace HQ := Lib.hid (HQ.out.grew g0); clear q0 q1 q2 ql; obtain ⟨q0, q1, q2, ql⟩ := HQ.out.cs; replace HB := Lib.hid (HB.out.trans g0); clear g0))
    go_ret
    exact ⟨rfl, HB.out⟩
  | true =>
    rw [hk] at HV
    have HN : Hid (∀ W : World, Calls Try.prog 10 #[cfv c o f] W fun e w' => ∃ b, e = .returned (.tuple #[.pointer (some ⟨b, 0, none⟩), .int .i64 0]) ∧ CapB b (cp0 c o f) [] 70 w' ∧ Grew W w' ∧ W.heap.size ≤ b) := Lib.hid fun W => new_ok c o f W hk
    have HI := Lib.hid (inv0 hk)
    clear hk
    go_enter Try.func7, Try.ntmps7
    go_wp2_with (first
      | (go_at_call 9; (with_reducible refine (awake_any _).mono ?_); rintro e w1 ⟨rfl, g0⟩; have HQ : Hid (CfB w0.heap.size c o f w1) := Lib.hid (CfB.grew (heap_alloc_new w0 _) g0); obtain ⟨q0, q1, q2, ql⟩ := HQ.out.cs; replace HB := Lib.hid ((HB.out.al _).trans g0); clear g0)
      | (go_at_call 12; (with_reducible refine (HV.out _).mono ?_); rintro e w2 ⟨rfl, g0⟩; replace HQ := Lib.hid (HQ.out.grew g0); clear q0 q1 q2 ql; obtain ⟨q0, q1, q2, ql⟩ := HQ.out.cs; replace HB := Lib.hid (HB.out.trans g0); clear g0)
      | (go_at_call 11; (with_reducible refine (HF.out _).mono ?_); rintro e w3 ⟨rfl, g0⟩; replace HQ := Lib.hid (HQ.out.grew g0); clear q0 q1 q2 ql; obtain ⟨q0, q1, q2, ql⟩ := HQ.out.cs; replace HB := Lib.hid (HB.out.trans g0); clear g0)
      | (go_at_call 10; (with_reducible refine (HN.out _).mono ?_); rintro e w4 ⟨b, rfl, h1, g0, hb⟩; have HR : Hid (Rs w0 b w0.heap.size c o f (cp0 c o f) w4) := Lib.hid (Rs.made h1 HI.out HB.out HQ.out g0 hb); replace HQ := Lib.hid (HQ.out.grew g0); replace HB := Lib.hid (HB.out.trans g0); clear q0 q1 q2 ql; obtain ⟨q0, q1, q2, ql⟩ := HQ.out.cs; clear g0 h1 hb))
    · go_ret
      exact ⟨rfl, HB.out⟩
    clear HV HF HN HI HQ HB q0 q1 q2
    go_loopg [30] xs.length (fun gg iv wr => ∃ (k : Nat) (x : Cp), iv = .int .i64 (k : Int) ∧ k ≤ xs.length ∧ gg = xs.length - k ∧ Hid (Rs w0 b w0.heap.size c o f x wr))
    case atStart => exact ⟨0, cp0 c o f, rfl, Nat.zero_le _, rfl, HR⟩
    clear HR
    case round =>
      obtain ⟨k, x, rfl, hk, rfl, HR⟩ := hrel
      have HI := Lib.hid HR.out.inv
      by_cases hlt : k < xs.length
      · obtain ⟨b', o', rfl, hcc⟩ := (HX.out.kept HR.out.grew).cells (by omega)
        obtain ⟨d0, d1, d2⟩ := hcc k xs[k] (by simp [hlt])
        have hlb : b' < wr.heap.size := World.block_lt_of_cell? _ _ d0
        have HLT := Lib.hid (Nat.succ_le_of_lt hlt)
        have HM := Lib.hid (HO.out xs[k] (List.getElem_mem hlt)).1
        generalize xs[k] = e at d0 d1 d2 HM
        obtain ⟨d, m, t⟩ := e
        simp only at d0 d1 d2 HM
        have HRA : Hid (∀ ob, Rs w0 b w0.heap.size c o f x (wr.alloc ob)) := Lib.hid fun ob => HR.out.on ((Grew.refl wr).al ob)
        clear hcc
        have hle := dw_le HI.out m
        have hge := hv_ge HI.out m t
        cases d with
        | true =>
          go_wp2_with (first
            | (go_at_call 13; (with_reducible refine (draw_any b x [] _ m _ (HRA.out _).cap HI.out HM.out).mono ?_); rintro e w5 ⟨rfl, h5, c5⟩; have HR5 := Lib.hid ((HRA.out _).draw h5 c5); clear h5 c5 HRA)
            | (go_at_call 19; (with_reducible refine (charge_any b x [] _ _ (HRA.out _).cap).mono ?_); rintro e _ ⟨rfl, rfl⟩)
            | (go_at_call 19; (with_reducible refine (charge_any b _ [] _ _ HR5.out.cap).mono ?_); rintro e _ ⟨rfl, rfl⟩))
          obtain ⟨q0, q1, q2, ql⟩ := (HR5.out.on (Grew.drw (Grew.refl w5))).box.cs
          have hC0 : Atv ⟨w0.heap.size, 0, none⟩ (.int .i64 c) w5.drew := q0
          have hC2 : Atv ⟨w0.heap.size, 2, none⟩ (.int .i64 f) w5.drew := q2
          have HC := (HR5.out.on (Grew.drw (Grew.refl w5))).cap
          have hy0 := HR5.out.inv.q0
          have hy1 := HR5.out.inv.qc
          have hyc := HR5.out.cfg.1
          have hyf := HR5.out.cfg.2.2
          have hon := HR5.out.inv.on
          clear q0 q1 q2 ql hle hge
          generalize dw x m = y at *
          refine wp_still [some 59, some 60, some 61, some 62, some 63, some 64, some 65, some 66, some 67, some 68, some 69, some 70, some 71, some 72, some 73, some 74, some 75, some 76, some 77, some 78, some 79] [false, false, false, false, false, false, false, false, false, false, false, false, false, false, false, false, false, false, false, false, false, false, false, false, false, false, false, false, false, false, false, false, false, false, false, false, false, false, false, false, false, false, false, false, false, false, false, false, false, false, false, false, false, false, false, false, false, false, false, true, true, true, true, true, true, true, true, true, true, true, true, true, true, true, true, true, true, true, true, true, false] [fun v _ => v = .pointer (some ⟨b, 0, none⟩), fun v _ => v = .int .i64 (y.q), fun v _ => v = .bool (false), fun v _ => v = .bool (false), fun v _ => v = .pointer (some ⟨b, 0, none⟩), fun v _ => v = .int .i64 (y.q), fun v _ => v = .pointer (some ⟨w0.heap.size, 0, none⟩), fun v _ => v = .int .i64 (c), fun v _ => v = .bool (false), fun v _ => v = .bool (false), fun v _ => v = .bool (false), fun v _ => v = .pointer (some ⟨b, 0, none⟩), fun v _ => v = .bool (y.r), fun v _ => v = .bool (y.r), fun v _ => (y.r) = true → v = .pointer (some ⟨b, 0, none⟩), fun v _ => (y.r) = true → v = .int .i64 (y.q), fun v _ => (y.r) = true → v = .pointer (some ⟨w0.heap.size, 2, none⟩), fun v _ => (y.r) = true → v = .int .i64 (f), fun v _ => (y.r) = true → v = .bool (false), fun v _ => v = .bool (false), fun v _ => v = .bool (false)] (by kernel_rfl) (by kernel_rfl) rfl ⟨?_, ?_, ?_, ?_, ?_, ?_, ?_, ?_, ?_, ?_, ?_, ?_, ?_, ?_, ?_, ?_, ?_, ?_, ?_, ?_, ?_, trivial⟩ ?_
          · intro u w hR hd; exact runs_mv (ev rfl) ⟨rfl, rfl⟩
          · intro u w hR hd; exact runs_c1 enters_charge (ev (hd.1 rfl)) (callp (fun _ e => e) (charge_st b y [] _ _ (HC.at hR)))
          · intro u w hR hd; exact runs_lss3 (ev (hd.1 rfl)) rfl ⟨rfl, (congrArg Value.bool (decide_eq_false (by omega)))⟩
          · intro u w hR hd; exact runs_mv (ev (hd.1 rfl)) ⟨rfl, rfl⟩
          · intro u w hR hd; exact ⟨fun _ => runs_mv (ev rfl) ⟨rfl, rfl⟩, fun hn => absurd (hd.1 rfl) hn⟩
          · intro u w hR hd; exact ⟨fun _ => runs_c1 enters_charge (ev (hd.1 rfl)) (callp (fun _ e => e) (charge_st b y [] _ _ (HC.at hR))), fun hn => absurd (hd.2.1 rfl) hn⟩
          · intro u w hR hd; exact ⟨fun _ => runs_fld23_0 (ev rfl) ⟨rfl, rfl⟩, fun hn => absurd (hd.1 rfl) hn⟩
          · intro u w hR hd; exact ⟨fun _ => runs_ld3 (ev (hd.1 rfl)) (hC0.kept hR) ⟨rfl, rfl⟩, fun hn => absurd (hd.2.1 rfl) hn⟩
          · intro u w hR hd; exact ⟨fun _ => runs_gtr3 (ev (hd.1 rfl)) (ev (hd.2.1 rfl)) ⟨rfl, (congrArg Value.bool (decide_eq_false (by omega)))⟩, fun hn => absurd (hd.2.2.1 rfl) hn⟩
          · intro u w hR hd; exact runs_or2 (ev (hd.1 rfl)) (fun hb => ev ((hd.2.1 rfl))) ⟨rfl, rfl⟩
          · intro u w hR hd; exact runs_mv (ev (hd.1 rfl)) ⟨rfl, rfl⟩
          · intro u w hR hd; exact ⟨fun _ => runs_mv (ev rfl) ⟨rfl, rfl⟩, fun hn => absurd (hd.1 rfl) hn⟩
          · intro u w hR hd; exact ⟨fun _ => runs_c1 enters_running (ev (hd.1 rfl)) (callp (fun _ e => e) (running_st b y [] _ _ (HC.at hR))), fun hn => absurd (hd.2.1 rfl) hn⟩
          · intro u w hR hd; exact ⟨fun _ => runs_mv (ev (hd.1 rfl)) ⟨rfl, rfl⟩, fun hn => absurd (hd.2.2.1 rfl) hn⟩
          · intro u w hR hd; exact ⟨fun hg => have hG : (y.r) = true := Value.bool.inj ((hd.1 rfl).symm.trans hg); runs_mv (ev rfl) ⟨rfl, fun _ => rfl⟩, fun hn => fun hG => absurd ((hd.1 rfl).trans (congrArg Value.bool hG)) hn⟩
          · intro u w hR hd; exact ⟨fun hg => have hG : (y.r) = true := Value.bool.inj ((hd.2.1 rfl).symm.trans hg); runs_c1 enters_charge (ev ((hd.1 rfl) hG)) (callp (fun _ e _ => e) (charge_st b y [] _ _ (HC.at hR))), fun hn => fun hG => absurd ((hd.2.1 rfl).trans (congrArg Value.bool hG)) hn⟩
          · intro u w hR hd; exact ⟨fun hg => have hG : (y.r) = true := Value.bool.inj ((hd.1 rfl).symm.trans hg); runs_fld23_2 (ev rfl) ⟨rfl, fun _ => rfl⟩, fun hn => fun hG => absurd ((hd.1 rfl).trans (congrArg Value.bool hG)) hn⟩
          · intro u w hR hd; exact ⟨fun hg => have hG : (y.r) = true := Value.bool.inj ((hd.2.1 rfl).symm.trans hg); runs_ld3 (ev ((hd.1 rfl) hG)) (hC2.kept hR) ⟨rfl, fun _ => rfl⟩, fun hn => fun hG => absurd ((hd.2.1 rfl).trans (congrArg Value.bool hG)) hn⟩
          · intro u w hR hd; exact ⟨fun hg => have hG : (y.r) = true := Value.bool.inj ((hd.2.2.1 rfl).symm.trans hg); runs_leq3 (ev ((hd.1 rfl) hG)) (ev ((hd.2.1 rfl) hG)) ⟨rfl, fun _ => (congrArg Value.bool (decide_eq_false (by have := hon hG; omega)))⟩, fun hn => fun hG => absurd ((hd.2.2.1 rfl).trans (congrArg Value.bool hG)) hn⟩
          · intro u w hR hd; exact ⟨fun _ => runs_an (ev (hd.1 rfl)) (fun hb => ev ((hd.2.1 rfl) hb)) ⟨rfl, (congrArg Value.bool (Bool.and_false _))⟩, fun hn => absurd (hd.2.2.1 rfl) hn⟩
          · intro u w hR hd; exact runs_or2 (ev (hd.1 rfl)) (fun hb => ev ((hd.2.1 rfl))) ⟨rfl, rfl⟩
          intro u hp
          have hf := hp 20 (by decide)
          simp only [mixA, mixL, cond_true, cond_false]
          have hf2 : u 79 = .bool false := hf
          rw [hf2]
          clear hp hf hf2 hC0 hC2 HC hy0 hy1 hyc hyf hon
          go_wp2
          go_roundg (xs.length - (k + 1))
          case measure => have := HLT.out; omega
          case rel => exact ⟨k + 1, y, by go_num, HLT.out, rfl, Lib.hid (HR5.out.on (Grew.drw (Grew.refl w5)))⟩
        | false =>
          go_wp2_with (first
            | (go_at_call 15; (with_reducible refine (harvest_any b x [] _ m t _ (HRA.out _).cap HI.out).mono ?_); rintro e w5 ⟨rfl, h5, c5⟩; have HR5 := Lib.hid ((HRA.out _).harvest h5 c5); clear h5 c5 HRA)
            | (go_at_call 19; (with_reducible refine (charge_any b x [] _ _ (HRA.out _).cap).mono ?_); rintro e _ ⟨rfl, rfl⟩)
            | (go_at_call 19; (with_reducible refine (charge_any b _ [] _ _ HR5.out.cap).mono ?_); rintro e _ ⟨rfl, rfl⟩))
          · obtain ⟨q0, q1, q2, ql⟩ := (HR5.out.on (Grew.drw (Grew.refl w5))).box.cs
            have hC0 : Atv ⟨w0.heap.size, 0, none⟩ (.int .i64 c) w5.drew := q0
            have hC2 : Atv ⟨w0.heap.size, 2, none⟩ (.int .i64 f) w5.drew := q2
            have HC := (HR5.out.on (Grew.drw (Grew.refl w5))).cap
            have hy0 := HR5.out.inv.q0
            have hy1 := HR5.out.inv.qc
            have hyc := HR5.out.cfg.1
            have hyf := HR5.out.cfg.2.2
            have hon := HR5.out.inv.on
            clear q0 q1 q2 ql hle hge
            generalize hv x m t = y at *
            refine wp_still [some 59, some 60, some 61, some 62, some 63, some 64, some 65, some 66, some 67, some 68, some 69, some 70, some 71, some 72, some 73, some 74, some 75, some 76, some 77, some 78, some 79] [false, false, false, false, false, false, false, false, false, false, false, false, false, false, false, false, false, false, false, false, false, false, false, false, false, false, false, false, false, false, false, false, false, false, false, false, false, false, false, false, false, false, false, false, false, false, false, false, false, false, false, false, false, false, false, false, false, false, false, true, true, true, true, true, true, true, true, true, true, true, true, true, true, true, true, true, true, true, true, true, false] [fun v _ => v = .pointer (some ⟨b, 0, none⟩), fun v _ => v = .int .i64 (y.q), fun v _ => v = .bool (false), fun v _ => v = .bool (false), fun v _ => v = .pointer (some ⟨b, 0, none⟩), fun v _ => v = .int .i64 (y.q), fun v _ => v = .pointer (some ⟨w0.heap.size, 0, none⟩), fun v _ => v = .int .i64 (c), fun v _ => v = .bool (false), fun v _ => v = .bool (false), fun v _ => v = .bool (false), fun v _ => v = .pointer (some ⟨b, 0, none⟩), fun v _ => v = .bool (y.r), fun v _ => v = .bool (y.r), fun v _ => (y.r) = true → v = .pointer (some ⟨b, 0, none⟩), fun v _ => (y.r) = true → v = .int .i64 (y.q), fun v _ => (y.r) = true → v = .pointer (some ⟨w0.heap.size, 2, none⟩), fun v _ => (y.r) = true → v = .int .i64 (f), fun v _ => (y.r) = true → v = .bool (false), fun v _ => v = .bool (false), fun v _ => v = .bool (false)] (by kernel_rfl) (by kernel_rfl) rfl ⟨?_, ?_, ?_, ?_, ?_, ?_, ?_, ?_, ?_, ?_, ?_, ?_, ?_, ?_, ?_, ?_, ?_, ?_, ?_, ?_, ?_, trivial⟩ ?_
            · intro u w hR hd; exact runs_mv (ev rfl) ⟨rfl, rfl⟩
            · intro u w hR hd; exact runs_c1 enters_charge (ev (hd.1 rfl)) (callp (fun _ e => e) (charge_st b y [] _ _ (HC.at hR)))
            · intro u w hR hd; exact runs_lss3 (ev (hd.1 rfl)) rfl ⟨rfl, (congrArg Value.bool (decide_eq_false (by omega)))⟩
            · intro u w hR hd; exact runs_mv (ev (hd.1 rfl)) ⟨rfl, rfl⟩
            · intro u w hR hd; exact ⟨fun _ => runs_mv (ev rfl) ⟨rfl, rfl⟩, fun hn => absurd (hd.1 rfl) hn⟩
            · intro u w hR hd; exact ⟨fun _ => runs_c1 enters_charge (ev (hd.1 rfl)) (callp (fun _ e => e) (charge_st b y [] _ _ (HC.at hR))), fun hn => absurd (hd.2.1 rfl) hn⟩
            · intro u w hR hd; exact ⟨fun _ => runs_fld23_0 (ev rfl) ⟨rfl, rfl⟩, fun hn => absurd (hd.1 rfl) hn⟩
            · intro u w hR hd; exact ⟨fun _ => runs_ld3 (ev (hd.1 rfl)) (hC0.kept hR) ⟨rfl, rfl⟩, fun hn => absurd (hd.2.1 rfl) hn⟩
            · intro u w hR hd; exact ⟨fun _ => runs_gtr3 (ev (hd.1 rfl)) (ev (hd.2.1 rfl)) ⟨rfl, (congrArg Value.bool (decide_eq_false (by omega)))⟩, fun hn => absurd (hd.2.2.1 rfl) hn⟩
            · intro u w hR hd; exact runs_or2 (ev (hd.1 rfl)) (fun hb => ev ((hd.2.1 rfl))) ⟨rfl, rfl⟩
            · intro u w hR hd; exact runs_mv (ev (hd.1 rfl)) ⟨rfl, rfl⟩
            · intro u w hR hd; exact ⟨fun _ => runs_mv (ev rfl) ⟨rfl, rfl⟩, fun hn => absurd (hd.1 rfl) hn⟩
            · intro u w hR hd; exact ⟨fun _ => runs_c1 enters_running (ev (hd.1 rfl)) (callp (fun _ e => e) (running_st b y [] _ _ (HC.at hR))), fun hn => absurd (hd.2.1 rfl) hn⟩
            · intro u w hR hd; exact ⟨fun _ => runs_mv (ev (hd.1 rfl)) ⟨rfl, rfl⟩, fun hn => absurd (hd.2.2.1 rfl) hn⟩
            · intro u w hR hd; exact ⟨fun hg => have hG : (y.r) = true := Value.bool.inj ((hd.1 rfl).symm.trans hg); runs_mv (ev rfl) ⟨rfl, fun _ => rfl⟩, fun hn => fun hG => absurd ((hd.1 rfl).trans (congrArg Value.bool hG)) hn⟩
            · intro u w hR hd; exact ⟨fun hg => have hG : (y.r) = true := Value.bool.inj ((hd.2.1 rfl).symm.trans hg); runs_c1 enters_charge (ev ((hd.1 rfl) hG)) (callp (fun _ e _ => e) (charge_st b y [] _ _ (HC.at hR))), fun hn => fun hG => absurd ((hd.2.1 rfl).trans (congrArg Value.bool hG)) hn⟩
            · intro u w hR hd; exact ⟨fun hg => have hG : (y.r) = true := Value.bool.inj ((hd.1 rfl).symm.trans hg); runs_fld23_2 (ev rfl) ⟨rfl, fun _ => rfl⟩, fun hn => fun hG => absurd ((hd.1 rfl).trans (congrArg Value.bool hG)) hn⟩
            · intro u w hR hd; exact ⟨fun hg => have hG : (y.r) = true := Value.bool.inj ((hd.2.1 rfl).symm.trans hg); runs_ld3 (ev ((hd.1 rfl) hG)) (hC2.kept hR) ⟨rfl, fun _ => rfl⟩, fun hn => fun hG => absurd ((hd.2.1 rfl).trans (congrArg Value.bool hG)) hn⟩
            · intro u w hR hd; exact ⟨fun hg => have hG : (y.r) = true := Value.bool.inj ((hd.2.2.1 rfl).symm.trans hg); runs_leq3 (ev ((hd.1 rfl) hG)) (ev ((hd.2.1 rfl) hG)) ⟨rfl, fun _ => (congrArg Value.bool (decide_eq_false (by have := hon hG; omega)))⟩, fun hn => fun hG => absurd ((hd.2.2.1 rfl).trans (congrArg Value.bool hG)) hn⟩
            · intro u w hR hd; exact ⟨fun _ => runs_an (ev (hd.1 rfl)) (fun hb => ev ((hd.2.1 rfl) hb)) ⟨rfl, (congrArg Value.bool (Bool.and_false _))⟩, fun hn => absurd (hd.2.2.1 rfl) hn⟩
            · intro u w hR hd; exact runs_or2 (ev (hd.1 rfl)) (fun hb => ev ((hd.2.1 rfl))) ⟨rfl, rfl⟩
            intro u hp
            have hf := hp 20 (by decide)
            simp only [mixA, mixL, cond_true, cond_false]
            have hf2 : u 79 = .bool false := hf
            rw [hf2]
            clear hp hf hf2 hC0 hC2 HC hy0 hy1 hyc hyf hon
            go_wp2
            go_roundg (xs.length - (k + 1))
            case measure => have := HLT.out; omega
            case rel => exact ⟨k + 1, y, by go_num, HLT.out, rfl, Lib.hid (HR5.out.on (Grew.drw (Grew.refl w5)))⟩
          · obtain ⟨q0, q1, q2, ql⟩ := (HR5.out.on (Grew.drw (Grew.refl w5))).box.cs
            have hC0 : Atv ⟨w0.heap.size, 0, none⟩ (.int .i64 c) w5.drew := q0
            have hC2 : Atv ⟨w0.heap.size, 2, none⟩ (.int .i64 f) w5.drew := q2
            have HC := (HR5.out.on (Grew.drw (Grew.refl w5))).cap
            have hy0 := HR5.out.inv.q0
            have hy1 := HR5.out.inv.qc
            have hyc := HR5.out.cfg.1
            have hyf := HR5.out.cfg.2.2
            have hon := HR5.out.inv.on
            clear q0 q1 q2 ql hle hge
            generalize hv x m t = y at *
            refine wp_still [some 59, some 60, some 61, some 62, some 63, some 64, some 65, some 66, some 67, some 68, some 69, some 70, some 71, some 72, some 73, some 74, some 75, some 76, some 77, some 78, some 79] [false, false, false, false, false, false, false, false, false, false, false, false, false, false, false, false, false, false, false, false, false, false, false, false, false, false, false, false, false, false, false, false, false, false, false, false, false, false, false, false, false, false, false, false, false, false, false, false, false, false, false, false, false, false, false, false, false, false, false, true, true, true, true, true, true, true, true, true, true, true, true, true, true, true, true, true, true, true, true, true, false] [fun v _ => v = .pointer (some ⟨b, 0, none⟩), fun v _ => v = .int .i64 (y.q), fun v _ => v = .bool (false), fun v _ => v = .bool (false), fun v _ => v = .pointer (some ⟨b, 0, none⟩), fun v _ => v = .int .i64 (y.q), fun v _ => v = .pointer (some ⟨w0.heap.size, 0, none⟩), fun v _ => v = .int .i64 (c), fun v _ => v = .bool (false), fun v _ => v = .bool (false), fun v _ => v = .bool (false), fun v _ => v = .pointer (some ⟨b, 0, none⟩), fun v _ => v = .bool (y.r), fun v _ => v = .bool (y.r), fun v _ => (y.r) = true → v = .pointer (some ⟨b, 0, none⟩), fun v _ => (y.r) = true → v = .int .i64 (y.q), fun v _ => (y.r) = true → v = .pointer (some ⟨w0.heap.size, 2, none⟩), fun v _ => (y.r) = true → v = .int .i64 (f), fun v _ => (y.r) = true → v = .bool (false), fun v _ => v = .bool (false), fun v _ => v = .bool (false)] (by kernel_rfl) (by kernel_rfl) rfl ⟨?_, ?_, ?_, ?_, ?_, ?_, ?_, ?_, ?_, ?_, ?_, ?_, ?_, ?_, ?_, ?_, ?_, ?_, ?_, ?_, ?_, trivial⟩ ?_
            · intro u w hR hd; exact runs_mv (ev rfl) ⟨rfl, rfl⟩
            · intro u w hR hd; exact runs_c1 enters_charge (ev (hd.1 rfl)) (callp (fun _ e => e) (charge_st b y [] _ _ (HC.at hR)))
            · intro u w hR hd; exact runs_lss3 (ev (hd.1 rfl)) rfl ⟨rfl, (congrArg Value.bool (decide_eq_false (by omega)))⟩
            · intro u w hR hd; exact runs_mv (ev (hd.1 rfl)) ⟨rfl, rfl⟩
            · intro u w hR hd; exact ⟨fun _ => runs_mv (ev rfl) ⟨rfl, rfl⟩, fun hn => absurd (hd.1 rfl) hn⟩
            · intro u w hR hd; exact ⟨fun _ => runs_c1 enters_charge (ev (hd.1 rfl)) (callp (fun _ e => e) (charge_st b y [] _ _ (HC.at hR))), fun hn => absurd (hd.2.1 rfl) hn⟩
            · intro u w hR hd; exact ⟨fun _ => runs_fld23_0 (ev rfl) ⟨rfl, rfl⟩, fun hn => absurd (hd.1 rfl) hn⟩
            · intro u w hR hd; exact ⟨fun _ => runs_ld3 (ev (hd.1 rfl)) (hC0.kept hR) ⟨rfl, rfl⟩, fun hn => absurd (hd.2.1 rfl) hn⟩
            · intro u w hR hd; exact ⟨fun _ => runs_gtr3 (ev (hd.1 rfl)) (ev (hd.2.1 rfl)) ⟨rfl, (congrArg Value.bool (decide_eq_false (by omega)))⟩, fun hn => absurd (hd.2.2.1 rfl) hn⟩
            · intro u w hR hd; exact runs_or2 (ev (hd.1 rfl)) (fun hb => ev ((hd.2.1 rfl))) ⟨rfl, rfl⟩
            · intro u w hR hd; exact runs_mv (ev (hd.1 rfl)) ⟨rfl, rfl⟩
            · intro u w hR hd; exact ⟨fun _ => runs_mv (ev rfl) ⟨rfl, rfl⟩, fun hn => absurd (hd.1 rfl) hn⟩
            · intro u w hR hd; exact ⟨fun _ => runs_c1 enters_running (ev (hd.1 rfl)) (callp (fun _ e => e) (running_st b y [] _ _ (HC.at hR))), fun hn => absurd (hd.2.1 rfl) hn⟩
            · intro u w hR hd; exact ⟨fun _ => runs_mv (ev (hd.1 rfl)) ⟨rfl, rfl⟩, fun hn => absurd (hd.2.2.1 rfl) hn⟩
            · intro u w hR hd; exact ⟨fun hg => have hG : (y.r) = true := Value.bool.inj ((hd.1 rfl).symm.trans hg); runs_mv (ev rfl) ⟨rfl, fun _ => rfl⟩, fun hn => fun hG => absurd ((hd.1 rfl).trans (congrArg Value.bool hG)) hn⟩
            · intro u w hR hd; exact ⟨fun hg => have hG : (y.r) = true := Value.bool.inj ((hd.2.1 rfl).symm.trans hg); runs_c1 enters_charge (ev ((hd.1 rfl) hG)) (callp (fun _ e _ => e) (charge_st b y [] _ _ (HC.at hR))), fun hn => fun hG => absurd ((hd.2.1 rfl).trans (congrArg Value.bool hG)) hn⟩
            · intro u w hR hd; exact ⟨fun hg => have hG : (y.r) = true := Value.bool.inj ((hd.1 rfl).symm.trans hg); runs_fld23_2 (ev rfl) ⟨rfl, fun _ => rfl⟩, fun hn => fun hG => absurd ((hd.1 rfl).trans (congrArg Value.bool hG)) hn⟩
            · intro u w hR hd; exact ⟨fun hg => have hG : (y.r) = true := Value.bool.inj ((hd.2.1 rfl).symm.trans hg); runs_ld3 (ev ((hd.1 rfl) hG)) (hC2.kept hR) ⟨rfl, fun _ => rfl⟩, fun hn => fun hG => absurd ((hd.2.1 rfl).trans (congrArg Value.bool hG)) hn⟩
            · intro u w hR hd; exact ⟨fun hg => have hG : (y.r) = true := Value.bool.inj ((hd.2.2.1 rfl).symm.trans hg); runs_leq3 (ev ((hd.1 rfl) hG)) (ev ((hd.2.1 rfl) hG)) ⟨rfl, fun _ => (congrArg Value.bool (decide_eq_false (by have := hon hG; omega)))⟩, fun hn => fun hG => absurd ((hd.2.2.1 rfl).trans (congrArg Value.bool hG)) hn⟩
            · intro u w hR hd; exact ⟨fun _ => runs_an (ev (hd.1 rfl)) (fun hb => ev ((hd.2.1 rfl) hb)) ⟨rfl, (congrArg Value.bool (Bool.and_false _))⟩, fun hn => absurd (hd.2.2.1 rfl) hn⟩
            · intro u w hR hd; exact runs_or2 (ev (hd.1 rfl)) (fun hb => ev ((hd.2.1 rfl))) ⟨rfl, rfl⟩
            intro u hp
            have hf := hp 20 (by decide)
            simp only [mixA, mixL, cond_true, cond_false]
            have hf2 : u 79 = .bool false := hf
            rw [hf2]
            clear hp hf hf2 hC0 hC2 HC hy0 hy1 hyc hyf hon
            go_wp2
            go_roundg (xs.length - (k + 1))
            case measure => have := HLT.out; omega
            case rel => exact ⟨k + 1, y, by go_num, HLT.out, rfl, Lib.hid (HR5.out.on (Grew.drw (Grew.refl w5)))⟩
      · obtain rfl : k = xs.length := by omega
        go_wp2
        go_ret
        exact ⟨rfl, HR.out.grew⟩
end Go.Proofs.Ytjepjcdobgdacaa
