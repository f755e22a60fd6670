/-
  LAYER 7 (nvm): the statements' do: Write, WriteBytes.
-/
import Derived.Test.YtmfahmbebpojpaaNvDo2
import Derived.Test.YtmfahmbebpojpaaPostsD
namespace Go.Proofs.Ytmfahmbebpojpaa
open Go Go.RowKit Go.IntWalk
set_option linter.unusedSimpArgs false
set_option maxRecDepth 8000

/-- Block S holds an operation. -/
def BoxO (S : Nat) (kd ad nn : Int) (bp : Option Addr) (nb bc : Nat) (w : World) : Prop := w.heap[S]? = some (.cells #[.int .u8 kd, .int .i64 ad, .int .i64 nn, .slice bp nb bc] 35)
theorem BoxO.grew {S : Nat} {kd ad nn : Int} {bp : Option Addr} {nb bc : Nat} {w w' : World} (h : BoxO S kd ad nn bp nb bc w) (hg : Grew w w') : BoxO S kd ad nn bp nb bc w' := hg.heap h
theorem BoxO.chg {S : Nat} {kd ad nn : Int} {bp : Option Addr} {nb bc : Nat} {w w' : World} {T : Nat → Prop} (h : BoxO S kd ad nn bp nb bc w) (hc : Chg w w' T) (hs : ¬ T S) : BoxO S kd ad nn bp nb bc w' := (hc.block S (lt_of_heap h) hs).trans h
section
variable {dst : Option Tmp} {ty : TypeId} {pos : String} {after : Array Edge} {g : Option (Nat × Bool)} {a : Act} {w : World} {T : Value → World → Prop}
theorem runs_fldo1 {o : Operand} {S : Nat} (hx : a.eval o = .pointer (some ⟨S, 0, none⟩)) (h : T (.pointer (some ⟨S, 1, none⟩)) w) : Runs Try.prog ⟨dst, .fieldAddr 35 o 1, ty, pos, after, g⟩ a w T := by
  refine Runs.value (v := .pointer (some ⟨S, 1, none⟩)) (w' := w) ?_ h
  simp only [execOp, hx]
  go_simp
theorem runs_fldo2 {o : Operand} {S : Nat} (hx : a.eval o = .pointer (some ⟨S, 0, none⟩)) (h : T (.pointer (some ⟨S, 2, none⟩)) w) : Runs Try.prog ⟨dst, .fieldAddr 35 o 2, ty, pos, after, g⟩ a w T := by
  refine Runs.value (v := .pointer (some ⟨S, 2, none⟩)) (w' := w) ?_ h
  simp only [execOp, hx]
  go_simp
theorem runs_fldo3 {o : Operand} {S : Nat} (hx : a.eval o = .pointer (some ⟨S, 0, none⟩)) (h : T (.pointer (some ⟨S, 3, none⟩)) w) : Runs Try.prog ⟨dst, .fieldAddr 35 o 3, ty, pos, after, g⟩ a w T := by
  refine Runs.value (v := .pointer (some ⟨S, 3, none⟩)) (w' := w) ?_ h
  simp only [execOp, hx]
  go_simp
theorem runs_cv8 {o : Operand} {z : Int} (hx : a.eval o = .int .i64 z) (h : T (.int .u8 (IntKind.u8.wrap z)) w) : Runs Try.prog ⟨dst, .convert 3 5 o, ty, pos, after, g⟩ a w T := by
  refine Runs.value (v := .int .u8 (IntKind.u8.wrap z)) (w' := w) ?_ h
  simp only [execOp, hx]
  go_simp
theorem runs_cv16 {o : Operand} {z : Int} (hx : a.eval o = .int .i64 z) (h : T (.int .i16 (IntKind.i16.wrap z)) w) : Runs Try.prog ⟨dst, .convert 3 47 o, ty, pos, after, g⟩ a w T := by
  refine Runs.value (v := .int .i16 (IntKind.i16.wrap z)) (w' := w) ?_ h
  simp only [execOp, hx]
  go_simp
theorem run_mvx {P : Program} {o : Operand} {v : Value} (hx : a.eval o = v) : (execOp a.eval ⟨dst, .move o, ty, pos, after, g⟩).run P w = .ok (.value v) w := by
  simp only [execOp, hx]
  rfl
theorem run_eqlbx {o1 o2 : Operand} {b c d : Bool} (hx : a.eval o1 = .bool b) (hy : a.eval o2 = .bool c) (hd : (b == c) = d) : (execOp a.eval ⟨dst, .binOp .eql 4 o1 o2 4, ty, pos, after, g⟩).run Try.prog w = .ok (.value (.bool d)) w := by
  subst hd
  simp only [execOp, hx, hy]
  go_simp
end
section
variable (g q : Nat) (s : NV) (x : RM) (p : Option Addr) (c : Nat) (L : Int) (kd ad nn : Int) (bp : Option Addr) (nb bc : Nat) (w0 : World) (hI : DoIn g q s x p c L w0) (hL : -9223372036854775807 ≤ L ∧ L ≤ 0)
set_option linter.unusedSectionVars false
include hI hL
set_option maxHeartbeats 4000000 in
theorem do_write (hk : kd.tmod 9 = 0) : Calls Try.prog 13 #[.pointer (some ⟨q, 0, none⟩), rmv x p c, opv kd ad nn bp nb bc] w0 (DoPost g q s p L x.B.length w0) := by
  obtain ⟨y, hy⟩ : ∃ y : UInt8, IntKind.u8.wrap nn = (y.toNat : Int) := ⟨UInt8.ofNat (nn % 256).toNat, by rw [UInt8.toNat_ofNat']; simp [IntKind.wrap, IntKind.bits, IntKind.signed]; omega⟩
  have HI := Lib.hid hI
  have Hy := Lib.hid hy
  have HWp : Hid (∀ W, Grew w0 W → NvS W g q s → Calls Try.prog 19 #[.pointer (some ⟨q, 0, none⟩), .int .i64 ad, .int .u8 (y.toNat : Int)] W fun e w' => ∃ v, e = .returned v ∧ (Chg W w' (Nvb g q s.mt) ∧ (v = .bool (wr1 s ad y).2 ∧ NvS w' g q (wr1 s ad y).1))) := Lib.hid fun W hg h => by
    refine (write_any g q s ad y W h).mono ?_
    rintro e w' ⟨rfl, h1, h2⟩
    exact ⟨_, rfl, h2, rfl, h1⟩
  have hsim := (sim_wr1 HI.out.M hL ad y).1
  have HM1 : Hid (Sim (L - 1) (wr1 s ad y).1 (rwr1 x ad y).1) := Lib.hid (by have := (sim_wr1 HI.out.M hL ad y).2.1; exact this.mono (by split <;> omega))
  have Hmt : Hid (∀ j, (wr1 s ad y).1.mt.blk j ↔ s.mt.blk j) := Lib.hid fun j => wr1_blk s ad y j
  have Hl1 : Hid ((rwr1 x ad y).1.B.length = x.B.length) := Lib.hid (by rw [← HM1.out.B, wr1_len s ad y, HI.out.M.B])
  have HWr : Hid (∀ W, Grew w0 W → Calls Try.prog 30 #[rmv x p c, .int .i64 ad, .int .u8 (y.toNat : Int)] W fun e w' => ∃ p' c', e = .returned (.tuple #[rmv (rwr1 x ad y).1 p' c', .bool (rwr1 x ad y).2]) ∧ Bin w' p' c' (rwr1 x ad y).1.B ∧ Near W p p' ∧ Grew W w') := Lib.hid fun W hg => rwrite_any x p c ad y W hI.most (hI.B.gr hg)
  clear hI
  rw [hsim] at HWp
  clear hsim
  generalize wr1 s ad y = r1 at HWp HM1 Hmt Hl1
  obtain ⟨s1, ok0⟩ := r1
  generalize rwr1 x ad y = r2 at HWp HM1 Hmt Hl1 HWr
  obtain ⟨x1, ok⟩ := r2
  simp only at HWp HM1 Hmt Hl1 HWr
  have hy8 : nn % 256 = (y.toNat : Int) := by rw [← hy]; simp [IntKind.wrap, IntKind.bits, IntKind.signed]
  clear hy
  go_enter Try.func13, Try.ntmps13
  go_wp2_with (go_at_call 30; (with_reducible refine (HWr.out _ ((((Grew.refl w0).al _).al _).al _)).mono ?_); rintro e w1 ⟨p1, c1, rfl, b1, n1, g1⟩; have hO := Grew.heap g1 (heap_mid w0 _ _ _); have hZ0 := Grew.heap g1 (heap_third w0 _ _ _); obtain ⟨o0, o1, o2, o3⟩ := box4 hO; have hsz := lt_of_heap hZ0; have Ho := Lib.hid hO; have Hz0 := Lib.hid hZ0; have HB1 := Lib.hid b1; have HN1 : Hid (Near w0 p p1) := Lib.hid (Near.trans (.inl rfl) n1 (Below.size ((((Grew.refl w0).al _).al _).al _))); have HG1 := Lib.hid (Grew.trans ((((Grew.refl w0).al _).al _).al _) g1); clear b1 n1 g1 hO hZ0 HWr)
  · obtain ⟨S1, hS1e⟩ : ∃ S1, S1 = w1.heap.size := ⟨_, rfl⟩
    rw [← hS1e] at hsz ⊢
    refine wp_at2 (fun W => BoxR S1 x1 p1 c1 W ∧ BoxO (w0.heap.size + 1) kd ad nn bp nb bc W ∧ BoxZ (w0.heap.size + 1 + 1) W ∧ NvS W g q s ∧ Bin W p1 c1 x1.B ∧ Grew w0 W) ?_ ?_
    · exact ⟨by rw [hS1e]; exact heap_alloc_new w1 _, Grew.heap ((Grew.refl w1).al _) Ho.out, Grew.heap ((Grew.refl w1).al _) Hz0.out, HI.out.S.grew (HG1.out.al _), HB1.out.gr ((Grew.refl w1).al _), HG1.out.al _⟩
    clear hS1e Ho Hz0 HB1 HG1 o0 o1 o2 o3
    intro W hW
    have HBx : Hid (∀ w, Chg W.drew w (Nvb g q s.mt) → BoxR S1 x1 p1 c1 w) := Lib.hid fun w hc => (hW.1.grew (Grew.drew W)).chg hc (HI.out.notNew (by omega))
    have HO : Hid (∀ w, Chg W.drew w (Nvb g q s.mt) → BoxO (w0.heap.size + 1) kd ad nn bp nb bc w) := Lib.hid fun w hc => (hW.2.1.grew (Grew.drew W)).chg hc (HI.out.notNew (by omega))
    have HO1 : Hid (∀ w, Chg W.drew w (Nvb g q s.mt) → w.cell? ⟨w0.heap.size + 1, 1, none⟩ = some (.int .i64 ad)) := Lib.hid fun w hc => (box4 (HO.out w hc)).2.1
    have HO2 : Hid (∀ w, Chg W.drew w (Nvb g q s.mt) → w.cell? ⟨w0.heap.size + 1, 2, none⟩ = some (.int .i64 nn)) := Lib.hid fun w hc => (box4 (HO.out w hc)).2.2.1
    have HO3 : Hid (∀ w, Chg W.drew w (Nvb g q s.mt) → w.cell? ⟨w0.heap.size + 1, 3, none⟩ = some (.slice bp nb bc)) := Lib.hid fun w hc => (box4 (HO.out w hc)).2.2.2
    have HZ : Hid (∀ w, Chg W.drew w (Nvb g q s.mt) → BoxZ (w0.heap.size + 1 + 1) w) := Lib.hid fun w hc => (hW.2.2.1.grew (Grew.drew W)).chg hc (HI.out.notNew (by omega))
    have HA1 : Hid (Away (Nvb g q s.mt) p1) := Lib.hid (HI.out.A.near HN1.out fun k hk => HI.out.S.blk_lt hk)
    have HA1' : Hid (Away (Nvb g q s1.mt) p1) := Lib.hid fun ad had hj => HA1.out ad had (hj.imp_right fun h => h.imp_right (Hmt.out _).1)
    have HW : Hid (∀ w, Grew W.drew w → _) := Lib.hid fun w hg => HWp.out w (Grew.trans hW.2.2.2.2.2 (Grew.trans (Grew.drew W) hg)) (hW.2.2.2.1.grew (Grew.trans (Grew.drew W) hg))
    refine wp_postsD (fun i => Nat.beq i 8 || Nat.beq i 9) 7 (fun i => Nat.beq i 7) (fun i => Nat.beq i 7) 10 (Nvb g q s.mt) [some 53, some 54, some 55, some 56, some 57, some 58, some 59, some 60, some 61, some 62] [false, false, false, false, false, false, false, false, false, false, false, false, false, false, false, false, false, false, false, false, false, false, false, false, false, false, false, false, false, false, false, false, false, false, false, false, false, false, false, false, false, false, false, false, false, false, false, false, false, false, false, false, false, true, true, true, true, true, true, true, true, true, true, false, false, false, false, false, false, false, false, false, false, false, false, false, false, false, false, false, false, false, false, false, false, false, false, false, false, false, false, false, false, false, false, false, false, false, false, false, false, false, false, false, false, false, false, false, false, false, false, false, false, false, false, false, false, false, false, false, false, false, false, false, false, false, false, false, false, false, false, false, false, false, false, false, false, false, false, false, false, false, false, false, false, false] [fun v _ => v = rmv x1 p1 c1, fun v _ => v = .pointer (some ⟨q, 0, none⟩), fun v _ => v = .pointer (some ⟨w0.heap.size + 1, 1, none⟩), fun v _ => v = .int .i64 ad, fun v _ => v = .pointer (some ⟨w0.heap.size + 1, 2, none⟩), fun v _ => v = .int .i64 nn, fun v _ => v = .int .u8 (y.toNat : Int), fun v w => v = .bool ok ∧ NvS w g q s1, fun v _ => v = .bool ok, fun v _ => v = .bool true] (by kernel_rfl) (by kernel_rfl) (by kernel_rfl) (by kernel_rfl) (by kernel_rfl) (fun d _ _ _ _ h => by cases d <;> exact h) rfl (by kernel_rfl) (by kernel_rfl) ?_ ?_ ⟨?_, ?_, ?_, ?_, ?_, ?_, ?_, ?_, ?_, ?_, trivial⟩ ?_
    · intro f of hsf hof
      rcases (Bool.or_eq_true _ _).mp hsf with h | h
      · obtain rfl := Nat.eq_of_beq_eq_true h
        obtain rfl := Option.some.inj hof
        intro u w hR hd
        exact ⟨.bool ok, fun w1 => run_mvx (ev rfl), rfl⟩
      · obtain rfl := Nat.eq_of_beq_eq_true h
        obtain rfl := Option.some.inj hof
        intro u w hR hd
        exact ⟨.bool true, fun w1 => run_eqlbx (ev (hd.1 rfl).1) (ev (hd.2.1 rfl)) (beq_self_eq_true ok), rfl⟩
    · exact ⟨fun _ _ _ _ h => h, fun _ _ _ _ h => h, fun _ _ _ _ h => h, fun _ _ _ _ h => h, fun _ _ _ _ h => h, fun _ _ _ _ h => h, fun _ _ _ _ h => h, fun _ _ _ h p => ⟨p.1, p.2.grew h⟩, fun _ _ _ _ h => h, fun _ _ _ _ h => h, trivial⟩
    · intro u w hR hn hd; exact runs_ldm (ev rfl) (HBx.out w hR) ⟨Grew.refl _, rfl⟩
    · intro u w hR hn hd; exact runs_move ⟨Grew.refl _, rfl⟩
    · intro u w hR hn hd; exact runs_fldo1 (ev rfl) ⟨Grew.refl _, rfl⟩
    · intro u w hR hn hd; exact runs_ldi (ev (hd.1 rfl)) (HO1.out w hR) ⟨Grew.refl _, rfl⟩
    · intro u w hR hn hd; exact runs_fldo2 (ev rfl) ⟨Grew.refl _, rfl⟩
    · intro u w hR hn hd; exact runs_ldi (ev (hd.1 rfl)) (HO2.out w hR) ⟨Grew.refl _, rfl⟩
    · intro u w hR hn hd; exact runs_cv8 (ev (hd.1 rfl)) ⟨Grew.refl _, congrArg (Value.int .u8) Hy.out⟩
    · intro u w hR hn hd; exact runs_c3 enters_write (ev (hd.1 rfl)) (ev (hd.2.1 rfl)) (ev (hd.2.2.1 rfl)) (HW.out w (hn rfl))
    · intro u w hR hn hd; exact runs_move ⟨Grew.refl _, rfl⟩
    · intro u w hR hn hd; exact runs_eqlb (ev (hd.1 rfl).1) (ev (hd.2.1 rfl)) ⟨Grew.refl _, congrArg Value.bool (beq_self_eq_true ok)⟩
    intro u w hR h
    have e0 : u 53 = rmv x1 p1 c1 := h 0 (by decide)
    have eq0 : u 62 = .bool true := h 9 (by decide)
    have hs1 : NvS w g q s1 := (h 7 (by decide)).2
    have hz := HZ.out w hR
    refine wpAny_one (i := 10) none (by kernel_rfl) rfl rfl rfl (runs_stom (S := w0.heap.size + 1 + 1) (x := x1) (p := p1) (c := c1) (ev rfl) (ev e0) hz ?_)
    refine wpAny_one (i := 11) (some 7) (by kernel_rfl) rfl rfl rfl (runs_mva (ev eq0) ?_)
    refine wpAny_done rfl ?_
    simp only [Act.put, mixA, mixL, cond_true, cond_false, List.setIfInBounds_toArray, List.set_cons_succ, List.set_cons_zero]
    have hC := (Chg.of_grew (Grew.trans hW.2.2.2.2.2 (Grew.drew W)) (Nvb g q s.mt)).trans hR
    have hB := (hW.2.2.2.2.1.gr (Grew.drew W)).chg hR HA1.out
    have HE := Lib.hid (And.intro hz (And.intro hs1 (And.intro hC hB)))
    clear h e0 eq0 hs1 hz hC hB hR
    go_wp2
    exact do_end g q s x p L w0 Try.results13 x1 p1 c1 s1 rfl rfl HE.out.1 HE.out.2.1 HE.out.2.2.2 HN1.out HM1.out HE.out.2.2.1 (fun j hj => .inl ((Hmt.out j).1 hj)) HA1'.out Hl1.out
set_option maxHeartbeats 4000000 in
theorem do_bytes (hk : kd.tmod 9 = 2) (ys : List UInt8) (hy : ys.length = nb) (hb : Bin w0 bp bc ys) (ha : 0 < ys.length → Away (Nvb g q s.mt) bp) : Calls Try.prog 13 #[.pointer (some ⟨q, 0, none⟩), rmv x p c, opv kd ad nn bp nb bc] w0 (DoPost g q s p L x.B.length w0) := by
  subst hy
  have HI := Lib.hid hI
  have HB := Lib.hid hb
  have HA0 := Lib.hid ha
  have HWp : Hid (∀ W, Grew w0 W → NvS W g q s → Calls Try.prog 16 #[.pointer (some ⟨q, 0, none⟩), .int .i64 ad, .slice bp ys.length bc] W fun e w' => ∃ v, e = .returned v ∧ (Chg W w' (Nvb g q s.mt) ∧ (v = .bool (wrs s ad ys).2 ∧ NvS w' g q (wrs s ad ys).1))) := Lib.hid fun W hg h => by
    refine (writeBytes_any g q s ad bp ys.length bc ys W h rfl (HB.out.gr hg) HA0.out).mono ?_
    rintro e w' ⟨rfl, h1, h2⟩
    exact ⟨_, rfl, h2, rfl, h1⟩
  have hsim := (sim_wrs HI.out.M hL ad ys).1
  have HM1 : Hid (Sim (L - 1) (wrs s ad ys).1 (rwrs x ad ys).1) := Lib.hid (sim_wrs HI.out.M hL ad ys).2
  have Hmt : Hid (∀ j, (wrs s ad ys).1.mt.blk j ↔ s.mt.blk j) := Lib.hid fun j => wrs_blk s ad ys j
  have Hl1 : Hid ((rwrs x ad ys).1.B.length = x.B.length) := Lib.hid (by rw [← HM1.out.B, wrs_len s ad ys, HI.out.M.B])
  have HWr : Hid (∀ W, Grew w0 W → Calls Try.prog 31 #[rmv x p c, .int .i64 ad, .slice bp ys.length bc] W fun e w' => ∃ p' c', e = .returned (.tuple #[rmv (rwrs x ad ys).1 p' c', .bool (rwrs x ad ys).2]) ∧ Bin w' p' c' (rwrs x ad ys).1.B ∧ Near W p p' ∧ Grew W w') := Lib.hid fun W hg => rwriteBytes_any x p c ad bp ys.length bc ys W hI.most (hI.B.gr hg) rfl (hb.gr hg)
  clear hI hb ha
  rw [hsim] at HWp
  clear hsim
  generalize wrs s ad ys = r1 at HWp HM1 Hmt Hl1
  obtain ⟨s1, ok0⟩ := r1
  generalize rwrs x ad ys = r2 at HWp HM1 Hmt Hl1 HWr
  obtain ⟨x1, ok⟩ := r2
  simp only at HWp HM1 Hmt Hl1 HWr
  go_enter Try.func13, Try.ntmps13
  go_wp2_with (go_at_call 31; (with_reducible refine (HWr.out _ ((((Grew.refl w0).al _).al _).al _)).mono ?_); rintro e w1 ⟨p1, c1, rfl, b1, n1, g1⟩; have hO := Grew.heap g1 (heap_mid w0 _ _ _); have hZ0 := Grew.heap g1 (heap_third w0 _ _ _); obtain ⟨o0, o1, o2, o3⟩ := box4 hO; have hsz := lt_of_heap hZ0; have Ho := Lib.hid hO; have Hz0 := Lib.hid hZ0; have HB1 := Lib.hid b1; have HN1 : Hid (Near w0 p p1) := Lib.hid (Near.trans (.inl rfl) n1 (Below.size ((((Grew.refl w0).al _).al _).al _))); have HG1 := Lib.hid (Grew.trans ((((Grew.refl w0).al _).al _).al _) g1); clear b1 n1 g1 hO hZ0 HWr)
  · obtain ⟨S1, hS1e⟩ : ∃ S1, S1 = w1.heap.size := ⟨_, rfl⟩
    rw [← hS1e] at hsz ⊢
    refine wp_at2 (fun W => BoxR S1 x1 p1 c1 W ∧ BoxO (w0.heap.size + 1) kd ad nn bp ys.length bc W ∧ BoxZ (w0.heap.size + 1 + 1) W ∧ NvS W g q s ∧ Bin W p1 c1 x1.B ∧ Grew w0 W) ?_ ?_
    · exact ⟨by rw [hS1e]; exact heap_alloc_new w1 _, Grew.heap ((Grew.refl w1).al _) Ho.out, Grew.heap ((Grew.refl w1).al _) Hz0.out, HI.out.S.grew (HG1.out.al _), HB1.out.gr ((Grew.refl w1).al _), HG1.out.al _⟩
    clear hS1e Ho Hz0 HB1 HG1 o0 o1 o2 o3
    intro W hW
    have HBx : Hid (∀ w, Chg W.drew w (Nvb g q s.mt) → BoxR S1 x1 p1 c1 w) := Lib.hid fun w hc => (hW.1.grew (Grew.drew W)).chg hc (HI.out.notNew (by omega))
    have HO : Hid (∀ w, Chg W.drew w (Nvb g q s.mt) → BoxO (w0.heap.size + 1) kd ad nn bp ys.length bc w) := Lib.hid fun w hc => (hW.2.1.grew (Grew.drew W)).chg hc (HI.out.notNew (by omega))
    have HO1 : Hid (∀ w, Chg W.drew w (Nvb g q s.mt) → w.cell? ⟨w0.heap.size + 1, 1, none⟩ = some (.int .i64 ad)) := Lib.hid fun w hc => (box4 (HO.out w hc)).2.1
    have HO2 : Hid (∀ w, Chg W.drew w (Nvb g q s.mt) → w.cell? ⟨w0.heap.size + 1, 2, none⟩ = some (.int .i64 nn)) := Lib.hid fun w hc => (box4 (HO.out w hc)).2.2.1
    have HO3 : Hid (∀ w, Chg W.drew w (Nvb g q s.mt) → w.cell? ⟨w0.heap.size + 1, 3, none⟩ = some (.slice bp ys.length bc)) := Lib.hid fun w hc => (box4 (HO.out w hc)).2.2.2
    have HZ : Hid (∀ w, Chg W.drew w (Nvb g q s.mt) → BoxZ (w0.heap.size + 1 + 1) w) := Lib.hid fun w hc => (hW.2.2.1.grew (Grew.drew W)).chg hc (HI.out.notNew (by omega))
    have HA1 : Hid (Away (Nvb g q s.mt) p1) := Lib.hid (HI.out.A.near HN1.out fun k hk => HI.out.S.blk_lt hk)
    have HA1' : Hid (Away (Nvb g q s1.mt) p1) := Lib.hid fun ad had hj => HA1.out ad had (hj.imp_right fun h => h.imp_right (Hmt.out _).1)
    have HW : Hid (∀ w, Grew W.drew w → _) := Lib.hid fun w hg => HWp.out w (Grew.trans hW.2.2.2.2.2 (Grew.trans (Grew.drew W) hg)) (hW.2.2.2.1.grew (Grew.trans (Grew.drew W) hg))
    refine wp_postsD (fun i => Nat.beq i 7 || Nat.beq i 8) 6 (fun i => Nat.beq i 6) (fun i => Nat.beq i 6) 9 (Nvb g q s.mt) [some 97, some 98, some 99, some 100, some 101, some 102, some 103, some 104, some 105] [false, false, false, false, false, false, false, false, false, false, false, false, false, false, false, false, false, false, false, false, false, false, false, false, false, false, false, false, false, false, false, false, false, false, false, false, false, false, false, false, false, false, false, false, false, false, false, false, false, false, false, false, false, false, false, false, false, false, false, false, false, false, false, false, false, false, false, false, false, false, false, false, false, false, false, false, false, false, false, false, false, false, false, false, false, false, false, false, false, false, false, false, false, false, false, false, false, true, true, true, true, true, true, true, true, true, false, false, false, false, false, false, false, false, false, false, false, false, false, false, false, false, false, false, false, false, false, false, false, false, false, false, false, false, false, false, false, false, false, false, false, false, false, false, false, false] [fun v _ => v = rmv x1 p1 c1, fun v _ => v = .pointer (some ⟨q, 0, none⟩), fun v _ => v = .pointer (some ⟨w0.heap.size + 1, 1, none⟩), fun v _ => v = .int .i64 ad, fun v _ => v = .pointer (some ⟨w0.heap.size + 1, 3, none⟩), fun v _ => v = .slice bp ys.length bc, fun v w => v = .bool ok ∧ NvS w g q s1, fun v _ => v = .bool ok, fun v _ => v = .bool true] (by kernel_rfl) (by kernel_rfl) (by kernel_rfl) (by kernel_rfl) (by kernel_rfl) (fun d _ _ _ _ h => by cases d <;> exact h) rfl (by kernel_rfl) (by kernel_rfl) ?_ ?_ ⟨?_, ?_, ?_, ?_, ?_, ?_, ?_, ?_, ?_, trivial⟩ ?_
    · intro f of hsf hof
      rcases (Bool.or_eq_true _ _).mp hsf with h | h
      · obtain rfl := Nat.eq_of_beq_eq_true h
        obtain rfl := Option.some.inj hof
        intro u w hR hd
        exact ⟨.bool ok, fun w1 => run_mvx (ev rfl), rfl⟩
      · obtain rfl := Nat.eq_of_beq_eq_true h
        obtain rfl := Option.some.inj hof
        intro u w hR hd
        exact ⟨.bool true, fun w1 => run_eqlbx (ev (hd.1 rfl).1) (ev (hd.2.1 rfl)) (beq_self_eq_true ok), rfl⟩
    · exact ⟨fun _ _ _ _ h => h, fun _ _ _ _ h => h, fun _ _ _ _ h => h, fun _ _ _ _ h => h, fun _ _ _ _ h => h, fun _ _ _ _ h => h, fun _ _ _ h p => ⟨p.1, p.2.grew h⟩, fun _ _ _ _ h => h, fun _ _ _ _ h => h, trivial⟩
    · intro u w hR hn hd; exact runs_ldm (ev rfl) (HBx.out w hR) ⟨Grew.refl _, rfl⟩
    · intro u w hR hn hd; exact runs_move ⟨Grew.refl _, rfl⟩
    · intro u w hR hn hd; exact runs_fldo1 (ev rfl) ⟨Grew.refl _, rfl⟩
    · intro u w hR hn hd; exact runs_ldi (ev (hd.1 rfl)) (HO1.out w hR) ⟨Grew.refl _, rfl⟩
    · intro u w hR hn hd; exact runs_fldo3 (ev rfl) ⟨Grew.refl _, rfl⟩
    · intro u w hR hn hd; exact runs_lds (ev (hd.1 rfl)) (HO3.out w hR) ⟨Grew.refl _, rfl⟩
    · intro u w hR hn hd; exact runs_c3 enters_writeBytes (ev (hd.1 rfl)) (ev (hd.2.1 rfl)) (ev (hd.2.2.1 rfl)) (HW.out w (hn rfl))
    · intro u w hR hn hd; exact runs_move ⟨Grew.refl _, rfl⟩
    · intro u w hR hn hd; exact runs_eqlb (ev (hd.1 rfl).1) (ev (hd.2.1 rfl)) ⟨Grew.refl _, congrArg Value.bool (beq_self_eq_true ok)⟩
    intro u w hR h
    have e0 : u 97 = rmv x1 p1 c1 := h 0 (by decide)
    have eq0 : u 105 = .bool true := h 8 (by decide)
    have hs1 : NvS w g q s1 := (h 6 (by decide)).2
    have hz := HZ.out w hR
    refine wpAny_one (i := 9) none (by kernel_rfl) rfl rfl rfl (runs_stom (S := w0.heap.size + 1 + 1) (x := x1) (p := p1) (c := c1) (ev rfl) (ev e0) hz ?_)
    refine wpAny_one (i := 10) (some 7) (by kernel_rfl) rfl rfl rfl (runs_mva (ev eq0) ?_)
    refine wpAny_done rfl ?_
    simp only [Act.put, mixA, mixL, cond_true, cond_false, List.setIfInBounds_toArray, List.set_cons_succ, List.set_cons_zero]
    have hC := (Chg.of_grew (Grew.trans hW.2.2.2.2.2 (Grew.drew W)) (Nvb g q s.mt)).trans hR
    have hB := (hW.2.2.2.2.1.gr (Grew.drew W)).chg hR HA1.out
    have HE := Lib.hid (And.intro hz (And.intro hs1 (And.intro hC hB)))
    clear h e0 eq0 hs1 hz hC hB hR
    go_wp2
    exact do_end g q s x p L w0 Try.results13 x1 p1 c1 s1 rfl rfl HE.out.1 HE.out.2.1 HE.out.2.2.2 HN1.out HM1.out HE.out.2.2.1 (fun j hj => .inl ((Hmt.out j).1 hj)) HA1'.out Hl1.out
end
end Go.Proofs.Ytmfahmbebpojpaa
