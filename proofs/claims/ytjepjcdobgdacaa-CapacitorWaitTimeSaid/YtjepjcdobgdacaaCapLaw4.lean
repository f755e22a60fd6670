/-
  LAYER 8 (capacitor): the statements' WaitTime.
-/
import Derived.Test.YtjepjcdobgdacaaCapLaw1
import Derived.Test.YtjepjcdobgdacaaCapPlain2
namespace Go.Proofs.Ytjepjcdobgdacaa
open Go Go.RowKit Go.IntWalk
set_option linter.unusedSimpArgs false
set_option maxRecDepth 8000

/-- What the rounds of WaitTime keep: the configuration's box at S, the literal at l. -/
structure Rz (w0 : World) (S l : Nat) (c o f : Int) (w : World) : Prop where
  box : CfB S c o f w
  lit : w.heap[l]? = some (.cells #[.int .i64 0, .int .i64 1] 2)
  grew : Grew w0 w
theorem Rz.on {w0 w w' : World} {S l : Nat} {c o f : Int} (h : Rz w0 S l c o f w) (hg : Grew w w') : Rz w0 S l c o f w' := ⟨h.box.grew hg, hg.heap h.lit, h.grew.trans hg⟩
theorem Rz.at {w0 w : World} {S l : Nat} {c o f : Int} (h : Rz w0 S l c o f w) : w.cell? ⟨l, 0, none⟩ = some (.int .i64 0) ∧ w.cell? ⟨l, 1, none⟩ = some (.int .i64 1) ∧ l < w.heap.size := by
  refine ⟨?_, ?_, lt_of_heap h.lit⟩ <;> rw [cells_of_heap h.lit] <;> rfl
/-- .. with a capacitor x at b. -/
structure Rw (w0 : World) (b S l : Nat) (c o f : Int) (x : Cp) (w : World) : Prop where
  cap : CapB b x [] 70 w
  inv : Inv x
  far : w0.heap.size ≤ b
  z : Rz w0 S l c o f w
theorem Rw.cfg {w0 w : World} {b S l : Nat} {c o f : Int} {x : Cp} (h : Rw w0 b S l c o f x w) : CfB S c o f w := h.z.box
theorem Rz.made {w0 w w' : World} {b S l : Nat} {c o f : Int} (h : Rz w0 S l c o f w) (h1 : CapB b (cp0 c o f) [] 70 w') (hi : Inv (cp0 c o f)) (g0 : Grew w w') (hb : w.heap.size ≤ b) : Rw w0 b S l c o f (cp0 c o f) w' :=
  ⟨h1, hi, Nat.le_trans h.grew.size hb, h.on g0⟩
theorem Rw.on {w0 w w' : World} {b S l : Nat} {c o f : Int} {x : Cp} (h : Rw w0 b S l c o f x w) (hg : Grew w w') : Rw w0 b S l c o f x w' := ⟨h.cap.grew hg, h.inv, h.far, h.z.on hg⟩
theorem Rw.harvest {w0 w w' : World} {b S l : Nat} {c o f : Int} {x : Cp} {p t : Int} (h : Rw w0 b S l c o f x w) (hc : CapB b (hv x p t) [] 70 w') (hg : Chg w w' (fun k => k = b)) : Rw w0 b S l c o f (hv x p t) w' := by
  have h1 : w.heap[b]? = _ := h.cap
  have n1 : S ≠ b := fun e => by
    have h2 : w.heap[S]? = _ := h.z.box
    rw [e, h1] at h2
    simp at h2
  have n2 : l ≠ b := fun e => by
    have h2 := h.z.lit
    rw [e, h1] at h2
    simp at h2
  exact ⟨hc, h.inv.hv p t, h.far, (hg.block S (lt_of_heap h.z.box) n1).trans h.z.box, (hg.block l (lt_of_heap h.z.lit) n2).trans h.z.lit, grew_lift h.z.grew hg (newb _ _ h.far)⟩
theorem wp_at4 {P : Program} {c : Code} {Q : Exit → Act → World → Prop} {a : Act} {w : World} (F : World → Prop) (hF : F w) (h : ∀ W, F W → c.wp P Q a W) : c.wp P Q a w := h w hF
set_option maxHeartbeats 8000000 in
theorem waits_law (c o f ch pw : Int) (w0 : World) (hch : 0 ≤ ch ∧ ch ≤ 65535) (hpw : 0 ≤ pw ∧ pw ≤ 65535) :
    Calls Try.prog 5 #[cfv c o f, .int .u16 ch, .int .u16 pw] w0 fun e w' => e = .returned (.bool true) ∧ Grew w0 w' := by
  have HB := Lib.hid (Grew.refl w0)
  have HV : Hid (∀ W : World, Calls Try.prog 12 #[cfv c o f] W fun e w' => e = .returned (.bool (okC c o f)) ∧ Grew W w') := Lib.hid fun W => rvalid_any c o f W
  have HF : Hid (∀ W : World, Calls Try.prog 11 #[cfv c o f] W fun e w' => e = .returned (cfv c o f) ∧ Grew W w') := Lib.hid fun W => config_any c o f W
  cases hk : okC c o f with
  | false =>
    rw [hk] at HV
    clear hk
    go_enter Try.func5, Try.ntmps5
    go_wp2_with (first
      | (go_at_call 9; (with_reducible refine (awake_any _).mono ?_); rintro e w1 ⟨rfl, g0⟩; have HQ : Hid (CfB w0.heap.size c o f w1) := Lib.hid (CfB.grew (heap_alloc_new w0 _) g0); obtain ⟨q0, q1, q2, ql⟩ := HQ.out.cs; replace HB := Lib.hid ((HB.out.al _).trans g0); clear g0)
      | (go_at_call 12; (with_reducible refine (HV.out _).mono ?_); rintro e w2 ⟨rfl, g0⟩; replace HQ := Lib.hid (HQ.out.grew g0); clear q0 q1 q2 ql; obtain ⟨q0, q1, q2, ql⟩ := HQ.out.cs; replace HB := Lib.hid (HB.out.trans g0); clear g0))
    go_ret
    exact ⟨rfl, HB.out⟩
  | true =>
    rw [hk] at HV
    have HN : Hid (∀ W : World, Calls Try.prog 10 #[cfv c o f] W fun e w' => ∃ b, e = .returned (.tuple #[.pointer (some ⟨b, 0, none⟩), .int .i64 0]) ∧ CapB b (cp0 c o f) [] 70 w' ∧ Grew W w' ∧ W.heap.size ≤ b) := Lib.hid fun W => new_ok c o f W hk
    have HI := Lib.hid (inv0 hk)
    clear hk
    by_cases h0 : pw = 0
    · subst h0
      go_enter Try.func5, Try.ntmps5
      go_wp2_with (first
        | (go_at_call 9; (with_reducible refine (awake_any _).mono ?_); rintro e w1 ⟨rfl, g0⟩; have HQ : Hid (CfB w0.heap.size c o f w1) := Lib.hid (CfB.grew (heap_alloc_new w0 _) g0); obtain ⟨q0, q1, q2, ql⟩ := HQ.out.cs; replace HB := Lib.hid ((HB.out.al _).trans g0); clear g0)
        | (go_at_call 12; (with_reducible refine (HV.out _).mono ?_); rintro e w2 ⟨rfl, g0⟩; replace HQ := Lib.hid (HQ.out.grew g0); clear q0 q1 q2 ql; obtain ⟨q0, q1, q2, ql⟩ := HQ.out.cs; replace HB := Lib.hid (HB.out.trans g0); clear g0))
      go_ret
      exact ⟨rfl, HB.out⟩
    · obtain ⟨hc0, hc1⟩ := hch
      have hp1 : 1 ≤ pw := by omega
      have hpz : (pw == 0) = false := by simpa using h0
      have hp2 : pw ≤ 65535 := hpw.2
      have hpW : okW pw = true := okW_iff.2 (by omega)
      have HH1 : Hid (∀ (W : World) {b : Nat}, CapB b (cp0 c o f) [] 70 W → Calls Try.prog 15 #[.pointer (some ⟨b, 0, none⟩), .int .i64 ch, .int .i64 1] W fun e w' => e = .returned (.int .i64 0) ∧ CapB b (hv (cp0 c o f) ch 1) [] 70 w' ∧ Chg W w' (fun k => k = b)) := Lib.hid fun W b hb => by
        have := harvest_any b _ [] _ ch 1 W hb HI.out
        rwa [he_ok (okP_iff.2 (by omega)) rfl] at this
      have hix := HI.out.hv ch 1
      have HRU1 : Hid (∀ (W : World) {b : Nat}, CapB b (hv (cp0 c o f) ch 1) [] 70 W → Calls Try.prog 20 #[.pointer (some ⟨b, 0, none⟩)] W fun e w' => e = .returned (.bool (hv (cp0 c o f) ch 1).r) ∧ W = w') := Lib.hid fun W b hb => running_any b _ [] _ W hb
      have HW : Hid (∀ (W : World) {b : Nat}, CapB b (hv (cp0 c o f) ch 1) [] 70 W → Calls Try.prog 17 #[.pointer (some ⟨b, 0, none⟩), .int .i64 pw] W fun e w' => e = .returned (.tuple #[.int .i64 (wt (hv (cp0 c o f) ch 1) pw), .bool true]) ∧ Grew W w') := Lib.hid fun W b hb => by
        have := wait_any b _ [] _ pw W hb hix (by omega)
        rwa [show wb (hv (cp0 c o f) ch 1) pw = true by simp [wb, hpW]] at this
      cases hr1 : (hv (cp0 c o f) ch 1).r with
      | true =>
        rw [hr1] at HRU1
        rw [show wt (hv (cp0 c o f) ch 1) pw = 0 by simp [wt, hr1]] at HW
        have HH2 := Lib.hid trivial
        have HRU2 := Lib.hid trivial
        clear hpW hr1 hix h0 hpw
        go_enter Try.func5, Try.ntmps5
        go_wp2_with (first
          | (go_at_call 9; (with_reducible refine (awake_any _).mono ?_); rintro e w1 ⟨rfl, g0⟩; have HQ : Hid (CfB w0.heap.size c o f w1) := Lib.hid (CfB.grew (heap_alloc_new w0 _) g0); obtain ⟨q0, q1, q2, ql⟩ := HQ.out.cs; replace HB := Lib.hid ((HB.out.al _).trans g0); clear g0)
          | (go_at_call 12; (with_reducible refine (HV.out _).mono ?_); rintro e w2 ⟨rfl, g0⟩; replace HQ := Lib.hid (HQ.out.grew g0); clear q0 q1 q2 ql; obtain ⟨q0, q1, q2, ql⟩ := HQ.out.cs; replace HB := Lib.hid (HB.out.trans g0); clear g0))
        obtain ⟨l, hl⟩ : ∃ l, l = w2.heap.size := ⟨_, rfl⟩
        rw [← hl]
        refine wp_at4 (fun W => Rz w0 w0.heap.size l c o f W) ⟨HQ.out.grew ((Grew.refl w2).al _), by rw [hl]; exact heap_alloc_new w2 _, HB.out.al _⟩ ?_
        intro W hW
        have HZ0 := Lib.hid hW
        clear hl hW HB HQ HV q0 q1 q2 ql
        go_loopg [26] 2 (fun gg iv wr => ∃ (k : Nat), iv = .int .i64 (k : Int) ∧ k ≤ 2 ∧ gg = 2 - k ∧ Hid (Rz w0 w0.heap.size l c o f wr))
        case atStart => exact ⟨0, rfl, by omega, rfl, HZ0⟩
        clear HZ0
        case round =>
          obtain ⟨k, rfl, hk, rfl, HZ⟩ := hrel
          have HZE := Lib.hid HZ.out.grew
          obtain ⟨q0, q1, q2, ql⟩ := HZ.out.box.cs
          by_cases hlt : k < 2
          · have HLT := Lib.hid (Nat.succ_le_of_lt hlt)
            obtain ⟨e, he0⟩ : ∃ e : Int, e = (k : Int) := ⟨_, rfl⟩
            have he1 : 0 ≤ e ∧ e ≤ 1 := by omega
            have d0 : wr.cell? ⟨l, k, none⟩ = some (.int .i64 e) := by
              obtain ⟨l0, l1, _⟩ := HZ.out.at
              rcases (show k = 0 ∨ k = 1 by omega) with rfl | rfl
              · rw [l0, he0]; rfl
              · rw [l1, he0]; rfl
            have hlb : l < wr.heap.size := HZ.out.at.2.2
            clear he0
            go_wp2_with (first
              | (go_at_call 11; (with_reducible refine (HF.out _).mono ?_); rintro e w3 ⟨rfl, g0⟩; replace HZ := Lib.hid (HZ.out.on g0); clear q0 q1 q2 ql; obtain ⟨q0, q1, q2, ql⟩ := HZ.out.box.cs; clear g0)
              | (go_at_call 10; (with_reducible refine (HN.out _).mono ?_); rintro e w4 ⟨b, rfl, h1, g0, hb⟩; have HR := Lib.hid (HZ.out.made h1 HI.out g0 hb); clear HZ q0 q1 q2 ql; obtain ⟨q0, q1, q2, ql⟩ := HR.out.cfg.cs; clear h1 g0 hb)
              | (go_at_call 15; (with_reducible refine (HH1.out _ HR.out.cap).mono ?_); rintro e w5 ⟨rfl, h5, c5⟩; replace HR := Lib.hid (HR.out.harvest h5 c5); clear h5 c5 HH1; clear q0 q1 q2 ql; obtain ⟨q0, q1, q2, ql⟩ := HR.out.cfg.cs)
              | (go_at_call 20; (with_reducible refine (HRU1.out _ HR.out.cap).mono ?_); rintro e _ ⟨rfl, rfl⟩; clear HRU1)
              | (go_at_call 17; (with_reducible refine (HW.out _ HR.out.cap).mono ?_); rintro e w6 ⟨rfl, g0⟩; replace HR := Lib.hid (HR.out.on g0); clear g0)
              | (go_at_call 15; (with_reducible refine (HH2.out _ he1 HR.out.cap).mono ?_); rintro e w7 ⟨rfl, h5, c5⟩; replace HR := Lib.hid (HR.out.harvest h5 c5); clear h5 c5 HH2)
              | (go_at_call 20; (with_reducible refine (HRU2.out _ he1 HR.out.cap).mono ?_); rintro e _ ⟨rfl, rfl⟩; skip))
            go_ret
            exact ⟨rfl, HR.out.z.grew⟩
          · obtain rfl : k = 2 := by omega
            go_wp2
            go_ret
            exact ⟨rfl, HZE.out⟩
      | false =>
        rw [hr1] at HRU1
        have hkey := wait_key hix hr1 hpW
        have hrun := wait_runs hix hr1 hpW
        have hnot := wait_not hix hr1 hpW
        generalize wt (hv (cp0 c o f) ch 1) pw = t at hkey hrun hnot HW
        obtain ⟨t1, t2, _, _⟩ := hkey
        have HH2 : Hid (∀ (W : World) {b : Nat} {e : Int}, 0 ≤ e ∧ e ≤ 1 → CapB b (hv (cp0 c o f) ch 1) [] 70 W → Calls Try.prog 15 #[.pointer (some ⟨b, 0, none⟩), .int .i64 pw, .int .i64 (t - e)] W fun e' w' => e' = .returned (.int .i64 0) ∧ CapB b (hv (hv (cp0 c o f) ch 1) pw (t - e)) [] 70 w' ∧ Chg W w' (fun k => k = b)) := Lib.hid fun W b e he hb => by
          have := harvest_any b _ [] _ pw (t - e) W hb hix
          rwa [he_ok (okP_of_okW hpW) (okT_iff.2 (by omega))] at this
        have HRU2 : Hid (∀ (W : World) {b : Nat} {e : Int}, 0 ≤ e ∧ e ≤ 1 → CapB b (hv (hv (cp0 c o f) ch 1) pw (t - e)) [] 70 W → Calls Try.prog 20 #[.pointer (some ⟨b, 0, none⟩)] W fun e' w' => e' = .returned (.bool (e == 0)) ∧ W = w') := Lib.hid fun W b e he hb => by
          have := running_any b _ [] _ W hb
          rcases (show e = 0 ∨ e = 1 by omega) with rfl | rfl
          · rw [Int.sub_zero] at this
            rwa [hrun.1] at this
          · rwa [hnot] at this
        clear hpW hr1 hix h0 hpw hrun hnot
        go_enter Try.func5, Try.ntmps5
        go_wp2_with (first
          | (go_at_call 9; (with_reducible refine (awake_any _).mono ?_); rintro e w1 ⟨rfl, g0⟩; have HQ : Hid (CfB w0.heap.size c o f w1) := Lib.hid (CfB.grew (heap_alloc_new w0 _) g0); obtain ⟨q0, q1, q2, ql⟩ := HQ.out.cs; replace HB := Lib.hid ((HB.out.al _).trans g0); clear g0)
          | (go_at_call 12; (with_reducible refine (HV.out _).mono ?_); rintro e w2 ⟨rfl, g0⟩; replace HQ := Lib.hid (HQ.out.grew g0); clear q0 q1 q2 ql; obtain ⟨q0, q1, q2, ql⟩ := HQ.out.cs; replace HB := Lib.hid (HB.out.trans g0); clear g0))
        obtain ⟨l, hl⟩ : ∃ l, l = w2.heap.size := ⟨_, rfl⟩
        rw [← hl]
        refine wp_at4 (fun W => Rz w0 w0.heap.size l c o f W) ⟨HQ.out.grew ((Grew.refl w2).al _), by rw [hl]; exact heap_alloc_new w2 _, HB.out.al _⟩ ?_
        intro W hW
        have HZ0 := Lib.hid hW
        clear hl hW HB HQ HV q0 q1 q2 ql
        go_loopg [26] 2 (fun gg iv wr => ∃ (k : Nat), iv = .int .i64 (k : Int) ∧ k ≤ 2 ∧ gg = 2 - k ∧ Hid (Rz w0 w0.heap.size l c o f wr))
        case atStart => exact ⟨0, rfl, by omega, rfl, HZ0⟩
        clear HZ0
        case round =>
          obtain ⟨k, rfl, hk, rfl, HZ⟩ := hrel
          have HZE := Lib.hid HZ.out.grew
          obtain ⟨q0, q1, q2, ql⟩ := HZ.out.box.cs
          by_cases hlt : k < 2
          · have HLT := Lib.hid (Nat.succ_le_of_lt hlt)
            obtain ⟨e, he0⟩ : ∃ e : Int, e = (k : Int) := ⟨_, rfl⟩
            have he1 : 0 ≤ e ∧ e ≤ 1 := by omega
            have d0 : wr.cell? ⟨l, k, none⟩ = some (.int .i64 e) := by
              obtain ⟨l0, l1, _⟩ := HZ.out.at
              rcases (show k = 0 ∨ k = 1 by omega) with rfl | rfl
              · rw [l0, he0]; rfl
              · rw [l1, he0]; rfl
            have hlb : l < wr.heap.size := HZ.out.at.2.2
            clear he0
            have hw : IntKind.i64.wrap (t - e) = t - e := IntWalk.i64_in _ (by omega)
            go_wp2_with (first
              | (go_at_call 11; (with_reducible refine (HF.out _).mono ?_); rintro e w3 ⟨rfl, g0⟩; replace HZ := Lib.hid (HZ.out.on g0); clear q0 q1 q2 ql; obtain ⟨q0, q1, q2, ql⟩ := HZ.out.box.cs; clear g0)
              | (go_at_call 10; (with_reducible refine (HN.out _).mono ?_); rintro e w4 ⟨b, rfl, h1, g0, hb⟩; have HR := Lib.hid (HZ.out.made h1 HI.out g0 hb); clear HZ q0 q1 q2 ql; obtain ⟨q0, q1, q2, ql⟩ := HR.out.cfg.cs; clear h1 g0 hb)
              | (go_at_call 15; (with_reducible refine (HH1.out _ HR.out.cap).mono ?_); rintro e w5 ⟨rfl, h5, c5⟩; replace HR := Lib.hid (HR.out.harvest h5 c5); clear h5 c5 HH1; clear q0 q1 q2 ql; obtain ⟨q0, q1, q2, ql⟩ := HR.out.cfg.cs)
              | (go_at_call 20; (with_reducible refine (HRU1.out _ HR.out.cap).mono ?_); rintro e _ ⟨rfl, rfl⟩; clear HRU1)
              | (go_at_call 17; (with_reducible refine (HW.out _ HR.out.cap).mono ?_); rintro e w6 ⟨rfl, g0⟩; replace HR := Lib.hid (HR.out.on g0); clear g0)
              | (go_at_call 15; (with_reducible refine (HH2.out _ he1 HR.out.cap).mono ?_); rintro e w7 ⟨rfl, h5, c5⟩; replace HR := Lib.hid (HR.out.harvest h5 c5); clear h5 c5 HH2)
              | (go_at_call 20; (with_reducible refine (HRU2.out _ he1 HR.out.cap).mono ?_); rintro e _ ⟨rfl, rfl⟩; skip))
            go_roundg (2 - (k + 1))
            case measure => have := HLT.out; omega
            case rel => exact ⟨k + 1, by go_num, HLT.out, rfl, Lib.hid HR.out.z⟩
          · obtain rfl : k = 2 := by omega
            go_wp2
            go_ret
            exact ⟨rfl, HZE.out⟩
end Go.Proofs.Ytjepjcdobgdacaa
