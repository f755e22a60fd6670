/-
  LAYER 12 (cpu): execute.
-/
import Derived.Test.YtbhglpiiabpdjaaDoorShort
import Derived.Test.YtbhglpiiabpdjaaDoorCpuAnyP
import Derived.Test.YtbhglpiiabpdjaaDoorCpuOpnd
import Derived.Defers
import Derived.Recover
namespace Go.Proofs.YtbhglpiiabpdjaaDoor
open Go Go.RowKit Go.IntWalk Go.WideShapes
set_option linter.unusedSimpArgs false
set_option linter.unusedVariables false
set_option maxRecDepth 8000
section
variable {dst : Option Tmp} {ty : TypeId} {pos : String} {after : Array Edge} {g : Option (Nat × Bool)} {a : Act} {w : World} {T : Value → World → Prop}
theorem rn_sub_3 {o1 o2 : Operand} {b c : Int} (hx : a.eval o1 = .int .i64 b) (hy : a.eval o2 = .int .i64 c) (hb : -9223372036854775808 ≤ b - c ∧ b - c ≤ 9223372036854775807) (h : T (.int .i64 (b - c)) w) : Runs Tryd.prog ⟨dst, .binOp .sub 3 o1 o2 3, ty, pos, after, g⟩ a w T := by
  refine Runs.value (v := .int .i64 (b - c)) (w' := w) ?_ h
  have hw : IntKind.i64.wrap (b - c) = b - c := IntWalk.i64_in _ hb
  simp only [execOp, hx, hy]
  go_simp
theorem run_ldc {x : Operand} {S : Nat} {c : Cd} (hx : a.eval x = .pointer (some ⟨S, 0, none⟩)) (hb : Blk S (cdv c) 72 w) : (execOp a.eval ⟨dst, .load 72 x, ty, pos, after, g⟩).run Tryd.prog w = .ok (.value (cdV c)) w := by
  have h0 := hb.cell 0
  have h1 := hb.cell 1
  have h2 := hb.cell 2
  have h3 := hb.cell 3
  have h4 := hb.cell 4
  simp only [zz7, zz8] at h0 h1 h2 h3 h4
  simp only [execOp, hx]
  go_simp
end
theorem runs_c4 {P : Program} {dst : Option Tmp} {ty : TypeId} {pos : String} {after : Array Edge} {g : Option (Nat × Bool)} {a : Act} {w : World} {T : Value → World → Prop} {f : FuncId} {x y z t : Operand} {ts : Array TypeId} {v1 v2 v3 v4 : Value} (hf : Enters P f) (hx : a.eval x = v1) (hy : a.eval y = v2) (hz : a.eval z = v3) (ht : a.eval t = v4) (h : Calls P f #[v1, v2, v3, v4] w fun e w'' => ∃ v, e = .returned v ∧ T v w'') : Runs P ⟨dst, .call { callee := .value (.func f), args := #[x, y, z, t], argTypes := ts }, ty, pos, after, g⟩ a w T :=
  runs_call hf (by simp [hx, hy, hz, ht]) h
theorem wp_calm {P : Program} {c : Code} {Q : Exit → Act → World → Prop} {a : Act} {w : World} (h : c.wp P (fun e a w => e = .normal ∧ Q .normal a w) a w) : c.wp P Q a w := Code.wp_mono (fun e a w h => by obtain ⟨rfl, h⟩ := h; exact h) h
theorem wpAnyH_oneG {P : Program} {ops : Array Oper} {Q : Exit → Act → World → Prop} {S : World → Prop} {i fuel : Nat} (d : Option Tmp) {o : Oper} {listed : Array Bool} {a : Act} {w : World} (hr : Region.ready .any ops listed = [i]) (ho : ops[i]? = some o) (hw : Region.wanted o (yielded ops a.tmps) = true) (hd : o.dst = d)
    (h : Runs P o a w fun v w' => S w' ∧ wpAnyH P .any ops Q S fuel (listed.setIfInBounds i true) (a.put d v) w') : wpAnyH P .any ops Q S (fuel + 1) listed a w := by
  refine wpAnyH_all hr (by simp) fun j hj => ?_
  obtain rfl : j = i := by simpa using hj
  subst hd
  unfold wpOp
  simp only [ho]
  rw [if_pos hw]
  exact .inl (h _ _ fun _ _ h => h)
theorem Pf.chain {e : TypeId} {N c q : Nat} {S S1 : Nat → Prop} {s2 : St} {W2 : Wd} {w w1 w2 : World} (hm : Moved (fun k => k = c) S S1 w w1) (h : Pf e N c q S1 s2 W2 w1 w2) : Pf e N c q S s2 W2 w w2 := by
  obtain ⟨h1, S', h2, h3⟩ := h
  exact ⟨h1, S', h2, hm.trans h3⟩
theorem cst_bd (op : Int) : (0 ≤ (cst op).1 ∧ (cst op).1 ≤ 100) ∧ (0 ≤ (cst op).2.2 ∧ (cst op).2.2 ≤ 100) := op_all (fun op => (0 ≤ (cst op).1 ∧ (cst op).1 ≤ 100) ∧ (0 ≤ (cst op).2.2 ∧ (cst op).2.2 ≤ 100)) (fun op h => by rw [cst_out h]; decide) (by decide) op
theorem en_en : Enters Tryd.prog 53 := fun args w => by go_simp
theorem en_wr : Enters Tryd.prog 54 := fun args w => by go_simp
theorem en_ti : Enters Tryd.prog 55 := fun args w => by go_simp
theorem en_sp : Enters Tryd.prog 29 := fun args w => by go_simp
theorem en_pf : Enters Tryd.prog 56 := fun args w => by go_simp
theorem recover_idle (w : World) : CallsD Tryd.prog 52 #[] .returning w fun e u' w' => e = .returned (.tuple #[]) ∧ u' = .returning ∧ w' = w := by
  refine callsD_of_wpS Tryd.func52 rfl fun c₀ cs hu => ?_
  apply wpS_region
  simp [wpOpsS, go_sem, recoverD, hu, Tryd.ntmps52, bodyPostS, results, Tryd.results52]
  cases c₀
  simp_all
set_option maxHeartbeats 4000000 in
theorem exec_yes (x : Cd) (hv : valid x = true) (n : Int) (hd : memOp x.op = true → dat n = true) (hf : frOp x.op = true → ∃ m : Nat, m < 64 ∧ n = (m : Int)) (N B q : Nat) (S : Nat → Prop) (s : St) (W : Wd) (w : World) (hcb : Blk B (stv s) CPT w) (hbus : Bus N w q W S) (hE : EnvN N w) (hs : s.Ok) (hl : W.cs.length ≤ 80000) (hN : N ≤ w.heap.size) (hNB : N ≤ B) (hp : -9223372036854775808 ≤ s.pc ∧ s.pc < 9223372036854775807) (ho : (spend W x.op).okb = true) :
    Calls Tryd.prog 27 #[.pointer (some ⟨B, 0, none⟩), cdV x, .int .i64 n, (.iface 47 (.pointer (some ⟨q, 0, none⟩)))] w fun e w' => e = .returned (.bool (perf x n s (spend W x.op)).1) ∧ Pf CPT N B q S (perf x n s (spend W x.op)).2.1 (perf x n s (spend W x.op)).2.2 w w' := by
  have HV := Lib.hid hv
  have HD : Hid (memOp x.op = true → dat n = true) := Lib.hid hd
  have HF : Hid (frOp x.op = true → ∃ m : Nat, m < 64 ∧ n = (m : Int)) := Lib.hid hf
  have HS := Lib.hid hs
  have HL := Lib.hid hl
  have HN := Lib.hid hN
  have HNB := Lib.hid hNB
  have HPC := Lib.hid hp
  have HO := Lib.hid ho
  have hP := Pf.start hcb hbus
  have HED := hE
  have HNE : Hid (w.heap.size ≠ B) := Lib.hid (by have := hcb.lt; omega)
  clear hv hd hf hs hl hN hNB hp ho hcb hE hbus
  go_enter_defers Tryd.func27, Tryd.ntmps27
  go_wp2
  generalize hV : World.alloc _ _ = V
  have bx : Blk w.heap.size (cdv x) 72 V := by subst hV; exact Blk.new w (cdv x) _
  have hg : Grew w V := by subst hV; exact (Grew.refl _).alloc _
  clear hV
  replace hP := hP.grew hg
  replace HED := (HED.grew hg).grew (Grew.refl V).drw
  clear hg
  have x0 : Atv ⟨w.heap.size, 0, none⟩ (.int .i64 x.op) V.drew := (bx.grew (Grew.refl _).drw).atv 0 rfl
  refine wp_posts [some 10, some 11, some 12, some 13, some 14, some 15, some 16, some 9] zD7 [fun v _ => v = .pointer (some ⟨w.heap.size, 0, none⟩), fun v _ => v = .int .i64 (x.op), fun v _ => v = .int .i64 ((cst x.op).1), fun v _ => v = .pointer (some ⟨w.heap.size, 0, none⟩), fun v _ => v = .int .i64 (x.op), fun v _ => v = .int .i64 ((cst x.op).2.2), fun v _ => v = .int .i64 (((cst x.op).1) - ((cst x.op).2.2)), fun v _ => v = .int .i64 (((cst x.op).1) - ((cst x.op).2.2))] (by kernel_rfl) (by kernel_rfl) rfl ?_ ⟨?_, ?_, ?_, ?_, ?_, ?_, ?_, ?_, trivial⟩ ?_
  · exact ⟨fun _ _ _ _ h => h, fun _ _ _ _ h => h, fun _ _ _ _ h => h, fun _ _ _ _ h => h, fun _ _ _ _ h => h, fun _ _ _ _ h => h, fun _ _ _ _ h => h, fun _ _ _ _ h => h, trivial⟩
  · intro u w hR hd; exact rn_fld_72_0 (ev rfl) ⟨Grew.refl _, rfl⟩
  · intro u w hR hd; exact rn_ld_3 (ev (hd.1 rfl)) (x0.kept hR) ⟨Grew.refl _, rfl⟩
  · intro u w hR hd; exact runs_c1 en_en (ev (hd.1 rfl)) (callp (fun _ e => e) (energy_any x.op _ (HED.grew hR).cst))
  · intro u w hR hd; exact rn_fld_72_0 (ev rfl) ⟨Grew.refl _, rfl⟩
  · intro u w hR hd; exact rn_ld_3 (ev (hd.1 rfl)) (x0.kept hR) ⟨Grew.refl _, rfl⟩
  · intro u w hR hd; exact runs_c1 en_wr (ev (hd.1 rfl)) (callp (fun _ e => e) (writes_any x.op _ (HED.grew hR).cst))
  · intro u w hR hd; exact rn_sub_3 (ev (hd.1 rfl)) (ev (hd.2.1 rfl)) (by have := cst_bd x.op; omega) ⟨Grew.refl _, rfl⟩
  · intro u w hR hd; exact runs_mva (ev (hd.1 rfl)) ⟨Grew.refl _, rfl⟩
  · intro u V2 hR h
    have e9 : u 9 = .int .i64 ((cst x.op).1 - (cst x.op).2.2) := h 7 (by decide)
    simp only [mixA, mixL, zz9, zz0]
    rw [e9]
    have hg2 := (Grew.refl V).drw.trans hR
    replace hP := hP.grew hg2
    replace bx := bx.grew hg2
    replace HED := (HED.grew hR).grew (Grew.refl V2).drw
    clear e9 h hR hg2 x0
    have x0 : Atv ⟨w.heap.size, 0, none⟩ (.int .i64 x.op) V2.drew := (bx.grew (Grew.refl _).drw).atv 0 rfl
    go_upto_region 3 with fail
    refine wp_calm ?_
    refine wp_grew_tail 7 [some 17, some 18, some 19, some 20, some 21, some 22, some 23] zD4 [fun v _ => v = (.iface 47 (.pointer (some ⟨q, 0, none⟩))), fun v _ => v = .int .i64 ((cst x.op).1 - (cst x.op).2.2), fun v _ => v = .pointer (some ⟨w.heap.size, 0, none⟩), fun v _ => v = .int .i64 (x.op), fun v _ => v = .int .i64 ((cst x.op).2.1), fun v _ => v = (.iface 47 (.pointer (some ⟨q, 0, none⟩))), fun v _ => v = (.iface 47 (.pointer (some ⟨q, 0, none⟩)))] (by kernel_rfl) (by kernel_rfl) (by kernel_rfl) rfl ?_ ⟨?_, ?_, ?_, ?_, ?_, ?_, ?_, trivial⟩ ?_
    · exact ⟨fun _ _ _ _ h => h, fun _ _ _ _ h => h, fun _ _ _ _ h => h, fun _ _ _ _ h => h, fun _ _ _ _ h => h, fun _ _ _ _ h => h, fun _ _ _ _ h => h, trivial⟩
    · intro u9 w hR hd; exact runs_mv (ev rfl) ⟨Grew.refl _, rfl⟩
    · intro u9 w hR hd; exact runs_mv (ev rfl) ⟨Grew.refl _, rfl⟩
    · intro u9 w hR hd; exact rn_fld_72_0 (ev rfl) ⟨Grew.refl _, rfl⟩
    · intro u9 w hR hd; exact rn_ld_3 (ev (hd.1 rfl)) (x0.kept hR) ⟨Grew.refl _, rfl⟩
    · intro u9 w hR hd; exact runs_c1 en_ti (ev (hd.1 rfl)) (callp (fun _ e => e) (ticks_any x.op _ (HED.grew hR).cst))
    · intro u9 w hR hd; exact rn_nili (ev (hd.1 rfl)) ⟨Grew.refl _, rfl⟩
    · intro u9 w hR hd; exact runs_mv (ev (hd.1 rfl)) ⟨Grew.refl _, rfl⟩
    intro u9 w7 hR h
    have e0 : u9 23 = (.iface 47 (.pointer (some ⟨q, 0, none⟩))) := h 6 (by decide)
    have e1 : u9 18 = .int .i64 ((cst x.op).1 - (cst x.op).2.2) := h 1 (by decide)
    have e2 : u9 21 = .int .i64 (cst x.op).2.1 := h 4 (by decide)
    have hg2 := (Grew.refl V2).drw.trans hR
    replace hP := hP.grew hg2
    replace bx := bx.grew hg2
    replace HED := HED.grew hR
    have hms : ∀ w, (method (153 + Made.depth) 47 (.pointer (some ⟨q, 0, none⟩)) "Spend").run Tryd.prog w = .ok (29, .pointer (some ⟨q, 0, none⟩)) w := fun _ => by kernel_rfl
    obtain ⟨c7, S7, b7, m7⟩ := hP
    refine wpAny_one (i := 7) (some 24) (by kernel_rfl) rfl rfl rfl (rn_inv2 en_sp hms (ev e0) (ev e1) (ev e2) ((spend_pf (Pf.start c7 b7) ((cst x.op).1 - (cst x.op).2.2) (cst x.op).2.1 (Nat.le_trans HL.out (by decide)) (Nat.le_trans HN.out m7.size)).mono ?_))
    rintro r w8 ⟨rfl, hP8⟩
    have hHeld : Blk w.heap.size (cdv x) 72 w8 := hP8.other bx (b7.aside bx) HNE.out
    have HE8 : Hid (EnvN N w8) := Lib.hid (hP8.env b7 HNB.out HED)
    refine ⟨_, rfl, ?_⟩
    rw [show (W.call 8 ((cst x.op).1 - (cst x.op).2.2) (cst x.op).2.1).okb = true from HO.out]
    clear c7 b7 HED bx h hR hg2
    refine wpAny_one (i := 8) (some 25) (by kernel_rfl) rfl rfl rfl (runs_mv (ev rfl) ?_)
    simp only [zz1, zz2, zz3, Act.put, mixA, mixL, zz9, zz0, zz4, zz5, zz6]
    refine wpAny_of_held (S := fun W => Blk w.heap.size (cdv x) 72 W) _ _ _ _ ?_
    refine wpAnyH_take (i := 9) (v := .pointer (some ⟨B, 0, none⟩)) rfl (by kernel_rfl) (by kernel_rfl) (by kernel_rfl) (fun _ _ _ h => nomatch h.1) (Or.inl ⟨by rfl, fun W _ => by rfl⟩) hHeld ?_
    simp only [zz1, zz2, zz3, Act.put, mixA, mixL, zz9, zz0, zz4, zz5, zz6]
    refine wpAnyH_take (i := 10) (v := cdV x) rfl (by kernel_rfl) (by kernel_rfl) (by kernel_rfl) (fun _ _ _ h => nomatch h.1) (Or.inl ⟨by rfl, fun W hW => run_ldc (ev rfl) hW⟩) hHeld ?_
    simp only [zz1, zz2, zz3, Act.put, mixA, mixL, zz9, zz0, zz4, zz5, zz6]
    refine wpAnyH_take (i := 11) (v := .int .i64 n) rfl (by kernel_rfl) (by kernel_rfl) (by kernel_rfl) (fun _ _ _ h => nomatch h.1) (Or.inl ⟨by rfl, fun W _ => by rfl⟩) hHeld ?_
    simp only [zz1, zz2, zz3, Act.put, mixA, mixL, zz9, zz0, zz4, zz5, zz6]
    refine wpAnyH_take (i := 12) (v := (.iface 47 (.pointer (some ⟨q, 0, none⟩)))) rfl (by kernel_rfl) (by kernel_rfl) (by kernel_rfl) (fun _ _ _ h => nomatch h.1) (Or.inl ⟨by rfl, fun W _ => by rfl⟩) hHeld ?_
    simp only [zz1, zz2, zz3, Act.put, mixA, mixL, zz9, zz0, zz4, zz5, zz6]
    refine wpAnyH_oneG (i := 13) (some 30) (by kernel_rfl) rfl (by rfl) rfl (runs_c4 en_pf (ev rfl) (ev rfl) (ev rfl) (ev rfl) ?_)
    obtain ⟨c8, S8, b8, m8⟩ := hP8
    refine (perf_any x HV.out n HD.out HF.out N B q S8 s (W.call 8 ((cst x.op).1 - (cst x.op).2.2) (cst x.op).2.1) w8 c8 b8 HE8.out HS.out (by have := HL.out; simp [Wd.call]; omega) (Nat.le_trans (Nat.le_trans HN.out m7.size) m8.size) HNB.out HPC.out).mono ?_
    rintro r w9 ⟨rfl, hP9⟩
    have hX9 := hP9.other hHeld (b8.aside hHeld) HNE.out
    have HP9 := Lib.hid (Pf.chain m7 (Pf.chain m8 hP9))
    clear hP9 c8 b8 m8 m7 hHeld
    refine ⟨_, rfl, hX9, ?_⟩
    simp only [zz1, zz2, zz3, Act.put, mixA, mixL, zz9, zz0, zz4, zz5, zz6]
    have hHeld := hX9
    clear hX9
    refine wpAnyH_oneG (i := 14) (some 31) (by kernel_rfl) rfl (by rfl) rfl (runs_an (b := true) (ev rfl) (fun _ => ev rfl) ⟨hHeld, ?_⟩)
    rw [Bool.true_and]
    simp only [zz1, zz2, zz3, Act.put, mixA, mixL, zz9, zz0, zz4, zz5, zz6]
    refine wpAnyH_oneG (i := 15) (some 8) (by kernel_rfl) rfl (by rfl) rfl (runs_mva (ev rfl) ⟨hHeld, ?_⟩)
    refine wpAnyH_done (by kernel_rfl) ⟨rfl, ?_⟩ _
    simp only [zz1, zz2, zz3, Act.put, mixA, mixL, zz9, zz0, zz4, zz5, zz6]
    clear e0 e1 e2 hms hHeld
    go_wp2
    refine leaves_cons (f := 52) (args := #[]) (by simp) (by simp [go_sem]) ?_
    refine (recover_idle _).mono ?_
    rintro r u' w10 ⟨rfl, rfl, rfl⟩
    exact ⟨_, results_tmp rfl _ _ _, rfl, HP9.out⟩

set_option maxHeartbeats 4000000 in
theorem exec_no (x : Cd) (hv : valid x = true) (n : Int) (hd : memOp x.op = true → dat n = true) (hf : frOp x.op = true → ∃ m : Nat, m < 64 ∧ n = (m : Int)) (N B q : Nat) (S : Nat → Prop) (s : St) (W : Wd) (w : World) (hcb : Blk B (stv s) CPT w) (hbus : Bus N w q W S) (hE : EnvN N w) (hs : s.Ok) (hl : W.cs.length ≤ 80000) (hN : N ≤ w.heap.size) (hNB : N ≤ B) (hp : -9223372036854775808 ≤ s.pc ∧ s.pc < 9223372036854775807) (ho : (spend W x.op).okb = false) :
    Calls Tryd.prog 27 #[.pointer (some ⟨B, 0, none⟩), cdV x, .int .i64 n, (.iface 47 (.pointer (some ⟨q, 0, none⟩)))] w fun e w' => e = .returned (.bool (false, s, spend W x.op).1) ∧ Pf CPT N B q S (false, s, spend W x.op).2.1 (false, s, spend W x.op).2.2 w w' := by
  have HV := Lib.hid hv
  have HD : Hid (memOp x.op = true → dat n = true) := Lib.hid hd
  have HF : Hid (frOp x.op = true → ∃ m : Nat, m < 64 ∧ n = (m : Int)) := Lib.hid hf
  have HS := Lib.hid hs
  have HL := Lib.hid hl
  have HN := Lib.hid hN
  have HNB := Lib.hid hNB
  have HPC := Lib.hid hp
  have HO := Lib.hid ho
  have hP := Pf.start hcb hbus
  have HED := hE
  have HNE : Hid (w.heap.size ≠ B) := Lib.hid (by have := hcb.lt; omega)
  clear hv hd hf hs hl hN hNB hp ho hcb hE hbus
  go_enter_defers Tryd.func27, Tryd.ntmps27
  go_wp2
  generalize hV : World.alloc _ _ = V
  have bx : Blk w.heap.size (cdv x) 72 V := by subst hV; exact Blk.new w (cdv x) _
  have hg : Grew w V := by subst hV; exact (Grew.refl _).alloc _
  clear hV
  replace hP := hP.grew hg
  replace HED := (HED.grew hg).grew (Grew.refl V).drw
  clear hg
  have x0 : Atv ⟨w.heap.size, 0, none⟩ (.int .i64 x.op) V.drew := (bx.grew (Grew.refl _).drw).atv 0 rfl
  refine wp_posts [some 10, some 11, some 12, some 13, some 14, some 15, some 16, some 9] zD7 [fun v _ => v = .pointer (some ⟨w.heap.size, 0, none⟩), fun v _ => v = .int .i64 (x.op), fun v _ => v = .int .i64 ((cst x.op).1), fun v _ => v = .pointer (some ⟨w.heap.size, 0, none⟩), fun v _ => v = .int .i64 (x.op), fun v _ => v = .int .i64 ((cst x.op).2.2), fun v _ => v = .int .i64 (((cst x.op).1) - ((cst x.op).2.2)), fun v _ => v = .int .i64 (((cst x.op).1) - ((cst x.op).2.2))] (by kernel_rfl) (by kernel_rfl) rfl ?_ ⟨?_, ?_, ?_, ?_, ?_, ?_, ?_, ?_, trivial⟩ ?_
  · exact ⟨fun _ _ _ _ h => h, fun _ _ _ _ h => h, fun _ _ _ _ h => h, fun _ _ _ _ h => h, fun _ _ _ _ h => h, fun _ _ _ _ h => h, fun _ _ _ _ h => h, fun _ _ _ _ h => h, trivial⟩
  · intro u w hR hd; exact rn_fld_72_0 (ev rfl) ⟨Grew.refl _, rfl⟩
  · intro u w hR hd; exact rn_ld_3 (ev (hd.1 rfl)) (x0.kept hR) ⟨Grew.refl _, rfl⟩
  · intro u w hR hd; exact runs_c1 en_en (ev (hd.1 rfl)) (callp (fun _ e => e) (energy_any x.op _ (HED.grew hR).cst))
  · intro u w hR hd; exact rn_fld_72_0 (ev rfl) ⟨Grew.refl _, rfl⟩
  · intro u w hR hd; exact rn_ld_3 (ev (hd.1 rfl)) (x0.kept hR) ⟨Grew.refl _, rfl⟩
  · intro u w hR hd; exact runs_c1 en_wr (ev (hd.1 rfl)) (callp (fun _ e => e) (writes_any x.op _ (HED.grew hR).cst))
  · intro u w hR hd; exact rn_sub_3 (ev (hd.1 rfl)) (ev (hd.2.1 rfl)) (by have := cst_bd x.op; omega) ⟨Grew.refl _, rfl⟩
  · intro u w hR hd; exact runs_mva (ev (hd.1 rfl)) ⟨Grew.refl _, rfl⟩
  · intro u V2 hR h
    have e9 : u 9 = .int .i64 ((cst x.op).1 - (cst x.op).2.2) := h 7 (by decide)
    simp only [mixA, mixL, zz9, zz0]
    rw [e9]
    have hg2 := (Grew.refl V).drw.trans hR
    replace hP := hP.grew hg2
    replace bx := bx.grew hg2
    replace HED := (HED.grew hR).grew (Grew.refl V2).drw
    clear e9 h hR hg2 x0
    have x0 : Atv ⟨w.heap.size, 0, none⟩ (.int .i64 x.op) V2.drew := (bx.grew (Grew.refl _).drw).atv 0 rfl
    go_upto_region 3 with fail
    refine wp_calm ?_
    refine wp_grew_tail 7 [some 17, some 18, some 19, some 20, some 21, some 22, some 23] zD4 [fun v _ => v = (.iface 47 (.pointer (some ⟨q, 0, none⟩))), fun v _ => v = .int .i64 ((cst x.op).1 - (cst x.op).2.2), fun v _ => v = .pointer (some ⟨w.heap.size, 0, none⟩), fun v _ => v = .int .i64 (x.op), fun v _ => v = .int .i64 ((cst x.op).2.1), fun v _ => v = (.iface 47 (.pointer (some ⟨q, 0, none⟩))), fun v _ => v = (.iface 47 (.pointer (some ⟨q, 0, none⟩)))] (by kernel_rfl) (by kernel_rfl) (by kernel_rfl) rfl ?_ ⟨?_, ?_, ?_, ?_, ?_, ?_, ?_, trivial⟩ ?_
    · exact ⟨fun _ _ _ _ h => h, fun _ _ _ _ h => h, fun _ _ _ _ h => h, fun _ _ _ _ h => h, fun _ _ _ _ h => h, fun _ _ _ _ h => h, fun _ _ _ _ h => h, trivial⟩
    · intro u9 w hR hd; exact runs_mv (ev rfl) ⟨Grew.refl _, rfl⟩
    · intro u9 w hR hd; exact runs_mv (ev rfl) ⟨Grew.refl _, rfl⟩
    · intro u9 w hR hd; exact rn_fld_72_0 (ev rfl) ⟨Grew.refl _, rfl⟩
    · intro u9 w hR hd; exact rn_ld_3 (ev (hd.1 rfl)) (x0.kept hR) ⟨Grew.refl _, rfl⟩
    · intro u9 w hR hd; exact runs_c1 en_ti (ev (hd.1 rfl)) (callp (fun _ e => e) (ticks_any x.op _ (HED.grew hR).cst))
    · intro u9 w hR hd; exact rn_nili (ev (hd.1 rfl)) ⟨Grew.refl _, rfl⟩
    · intro u9 w hR hd; exact runs_mv (ev (hd.1 rfl)) ⟨Grew.refl _, rfl⟩
    intro u9 w7 hR h
    have e0 : u9 23 = (.iface 47 (.pointer (some ⟨q, 0, none⟩))) := h 6 (by decide)
    have e1 : u9 18 = .int .i64 ((cst x.op).1 - (cst x.op).2.2) := h 1 (by decide)
    have e2 : u9 21 = .int .i64 (cst x.op).2.1 := h 4 (by decide)
    have hg2 := (Grew.refl V2).drw.trans hR
    replace hP := hP.grew hg2
    replace bx := bx.grew hg2
    replace HED := HED.grew hR
    have hms : ∀ w, (method (153 + Made.depth) 47 (.pointer (some ⟨q, 0, none⟩)) "Spend").run Tryd.prog w = .ok (29, .pointer (some ⟨q, 0, none⟩)) w := fun _ => by kernel_rfl
    obtain ⟨c7, S7, b7, m7⟩ := hP
    refine wpAny_one (i := 7) (some 24) (by kernel_rfl) rfl rfl rfl (rn_inv2 en_sp hms (ev e0) (ev e1) (ev e2) ((spend_pf (Pf.start c7 b7) ((cst x.op).1 - (cst x.op).2.2) (cst x.op).2.1 (Nat.le_trans HL.out (by decide)) (Nat.le_trans HN.out m7.size)).mono ?_))
    rintro r w8 ⟨rfl, hP8⟩
    have hHeld : Blk w.heap.size (cdv x) 72 w8 := hP8.other bx (b7.aside bx) HNE.out
    have HE8 : Hid (EnvN N w8) := Lib.hid (hP8.env b7 HNB.out HED)
    refine ⟨_, rfl, ?_⟩
    rw [show (W.call 8 ((cst x.op).1 - (cst x.op).2.2) (cst x.op).2.1).okb = false from HO.out]
    clear c7 b7 HED bx h hR hg2
    refine wpAny_one (i := 8) (some 25) (by kernel_rfl) rfl rfl rfl (runs_mv (ev rfl) ?_)
    simp only [zz1, zz2, zz3, Act.put, mixA, mixL, zz9, zz0, zz4, zz5, zz6]
    refine wpAny_of_held (S := fun W => Blk w.heap.size (cdv x) 72 W) _ _ _ _ ?_
    refine wpAnyH_take (i := 9) (v := undef) rfl (by kernel_rfl) (by kernel_rfl) (by kernel_rfl) (fun _ _ _ h => nomatch h.1) (Or.inr ⟨by rfl, rfl⟩) hHeld ?_
    simp only [zz1, zz2, zz3, Act.put, mixA, mixL, zz9, zz0, zz4, zz5, zz6]
    refine wpAnyH_take (i := 10) (v := undef) rfl (by kernel_rfl) (by kernel_rfl) (by kernel_rfl) (fun _ _ _ h => nomatch h.1) (Or.inr ⟨by rfl, rfl⟩) hHeld ?_
    simp only [zz1, zz2, zz3, Act.put, mixA, mixL, zz9, zz0, zz4, zz5, zz6]
    refine wpAnyH_take (i := 11) (v := undef) rfl (by kernel_rfl) (by kernel_rfl) (by kernel_rfl) (fun _ _ _ h => nomatch h.1) (Or.inr ⟨by rfl, rfl⟩) hHeld ?_
    simp only [zz1, zz2, zz3, Act.put, mixA, mixL, zz9, zz0, zz4, zz5, zz6]
    refine wpAnyH_take (i := 12) (v := undef) rfl (by kernel_rfl) (by kernel_rfl) (by kernel_rfl) (fun _ _ _ h => nomatch h.1) (Or.inr ⟨by rfl, rfl⟩) hHeld ?_
    simp only [zz1, zz2, zz3, Act.put, mixA, mixL, zz9, zz0, zz4, zz5, zz6]
    refine wpAnyH_take (i := 13) (v := undef) rfl (by kernel_rfl) (by kernel_rfl) (by kernel_rfl) (fun _ _ _ h => nomatch h.1) (Or.inr ⟨by rfl, rfl⟩) hHeld ?_
    simp only [zz1, zz2, zz3, Act.put, mixA, mixL, zz9, zz0, zz4, zz5, zz6]
    refine wpAnyH_oneG (i := 14) (some 31) (by kernel_rfl) rfl (by rfl) rfl (runs_andF (ev rfl) ⟨hHeld, ?_⟩)
    refine wpAnyH_oneG (i := 15) (some 8) (by kernel_rfl) rfl (by rfl) rfl (runs_mva (ev rfl) ⟨hHeld, ?_⟩)
    have HP9 := Lib.hid (Pf.chain m7 hP8)
    clear hP8 m7
    refine wpAnyH_done (by kernel_rfl) ⟨rfl, ?_⟩ _
    simp only [zz1, zz2, zz3, Act.put, mixA, mixL, zz9, zz0, zz4, zz5, zz6]
    clear e0 e1 e2 hms hHeld
    go_wp2
    refine leaves_cons (f := 52) (args := #[]) (by simp) (by simp [go_sem]) ?_
    refine (recover_idle _).mono ?_
    rintro r u' w10 ⟨rfl, rfl, rfl⟩
    exact ⟨_, results_tmp rfl _ _ _, rfl, HP9.out⟩

end Go.Proofs.YtbhglpiiabpdjaaDoor
