/-
  LAYER 12 (cpu): perform, one theorem for each operation.
-/
import Derived.Test.YtbhglpiiabpdjaaDoorShort
import Derived.Test.YtbhglpiiabpdjaaDoorCpuPerfOps
namespace Go.Proofs.YtbhglpiiabpdjaaDoor
open Go Go.RowKit Go.IntWalk Go.WideShapes
set_option linter.unusedSimpArgs false
set_option linter.unusedVariables false
set_option maxRecDepth 8000
set_option maxHeartbeats 4000000 in
theorem perf_9 (a b d : Nat) (ha : a < 8) (hb : b < 8) (hd : d < 8) (i n : Int) (N B q : Nat) (S : Nat → Prop) (s : St) (W : Wd) (w : World) (hcb : Blk B (stv s) CPT w) (hbus : Bus N w q W S) (hE : EnvN N w) (hs : s.Ok) (hl : W.cs.length ≤ 90000) (hN : N ≤ w.heap.size) (hNB : N ≤ B) (hp : -9223372036854775808 ≤ s.pc ∧ s.pc < 9223372036854775807) :
    Calls Tryd.prog 56 #[.pointer (some ⟨B, 0, none⟩), cdV ⟨9, a, b, d, i⟩, .int .i64 n, (.iface 47 (.pointer (some ⟨q, 0, none⟩)))] w fun e w' => e = .returned (.bool (perf ⟨9, a, b, d, i⟩ n s W).1) ∧ Pf CPT N B q S (perf ⟨9, a, b, d, i⟩ n s W).2.1 (perf ⟨9, a, b, d, i⟩ n s W).2.2 w w' := by
  rw [show perf ⟨9, a, b, d, i⟩ n s W = (true, s.to a (binv 6 (s.reg b) (s.reg d)) (s.pc + 1), W) from rfl]
  have HS := Lib.hid hs
  have HL : Hid (W.cs.length ≤ 100000) := Lib.hid (by omega)
  have HN := Lib.hid hN
  have hP := Pf.start hcb hbus
  obtain ⟨p0, p1⟩ := hp
  have HE := Lib.hid hE
  have hBl := hcb.lt
  clear hs hl hN hcb hE hbus hNB
  go_enter Tryd.func56, Tryd.ntmps56
  go_wp2
  generalize hV : World.alloc _ _ = V
  have bx : Blk w.heap.size (cdv ⟨9, a, b, d, i⟩) 72 V := by subst hV; exact Blk.new w (cdv ⟨9, a, b, d, i⟩) _
  have hg : Grew w V := by subst hV; exact (Grew.refl _).alloc _
  clear hV
  replace hP := hP.grew hg
  replace HE := Lib.hid (HE.out.grew hg)
  clear hg
  have x1 : Atv ⟨w.heap.size, 1, none⟩ (.int .i64 (a : Int)) (V.drew) := (bx.grew (Grew.refl _).drw).atv 1 rfl
  refine wp_still [some 12, some 13, some 14, some 15, some 16, some 17, some 10] zD6 [fun v _ => v = .pointer (some ⟨B, 0, none⟩), fun v _ => v = .pointer (some ⟨w.heap.size, 1, none⟩), fun v _ => v = .int .i64 (((a : Nat) : Int)), fun v _ => v = .pointer (some ⟨B, 0, none⟩), fun v _ => v = .pointer (some ⟨B, 1, none⟩), fun v _ => v = .pointer (some ⟨B, 1 + a, none⟩), fun v _ => v = .pointer (some ⟨B, 1 + a, none⟩)] (by kernel_rfl) (by kernel_rfl) rfl ⟨?_, ?_, ?_, ?_, ?_, ?_, ?_, trivial⟩ ?_
  · intro u w hR hd; exact runs_mv (ev rfl) ⟨rfl, rfl⟩
  · intro u w hR hd; exact rn_fld_72_1 (ev rfl) ⟨rfl, rfl⟩
  · intro u w hR hd; exact rn_ld_3 (ev (hd.1 rfl)) (x1.kept hR) ⟨rfl, rfl⟩
  · intro u w hR hd; exact rn_nil (ev (hd.1 rfl)) ⟨rfl, rfl⟩
  · intro u w hR hd; exact rn_fld_43_1 (ev (hd.1 rfl)) ⟨rfl, rfl⟩
  · intro u w hR hd; exact rn_idxa_30 (a) (ev (hd.1 rfl)) (ev (hd.2.1 rfl)) (by omega) ⟨rfl, rfl⟩
  · intro u w hR hd; exact runs_mva (ev (hd.1 rfl)) ⟨rfl, rfl⟩
  intro u h
  have he : u 10 = .pointer (some ⟨B, 1 + a, none⟩) := h 6 (by decide)
  simp only [mixA, mixL, zz9, zz0]
  rw [he]
  clear h he x1
  generalize hV : V.drew = V2
  replace bx : Blk w.heap.size (cdv ⟨9, a, b, d, i⟩) 72 V2 := by subst hV; exact bx.grew (Grew.refl _).drw
  replace hP : Pf CPT N B q S s W w V2 := by subst hV; exact hP.grew (Grew.refl _).drw
  replace HE : Hid (EnvN N V2) := Lib.hid (by subst hV; exact HE.out.grew (Grew.refl _).drw)
  clear hV
  have x0 : V2.cell? ⟨w.heap.size, 0, none⟩ = some (.int .i64 9) := bx.cell 0
  have x1 : V2.cell? ⟨w.heap.size, 1, none⟩ = some (.int .i64 (a : Int)) := bx.cell 1
  have x2 : V2.cell? ⟨w.heap.size, 2, none⟩ = some (.int .i64 (b : Int)) := bx.cell 2
  have x3 : V2.cell? ⟨w.heap.size, 3, none⟩ = some (.int .i64 (d : Int)) := bx.cell 3
  have x4 : V2.cell? ⟨w.heap.size, 4, none⟩ = some (.int .i16 i) := bx.cell 4
  have s0 : V2.cell? ⟨B, 0, none⟩ = some (.int .i64 s.pc) := hP.cpu.cell 0
  have sf := hP.cpu.free
  go_upto_region 23 with fail
  clear x0 x1 x2 x3 x4 s0 sf
  have x0 : Atv ⟨w.heap.size, 0, none⟩ (.int .i64 9) (V2.drew) := (bx.grew (Grew.refl _).drw).atv 0 rfl
  have x2 : Atv ⟨w.heap.size, 2, none⟩ (.int .i64 (b : Int)) (V2.drew) := (bx.grew (Grew.refl _).drw).atv 2 rfl
  have x3 : Atv ⟨w.heap.size, 3, none⟩ (.int .i64 (d : Int)) (V2.drew) := (bx.grew (Grew.refl _).drw).atv 3 rfl
  have rb : Atv ⟨B, 1 + b, none⟩ (.int .i16 (s.reg b)) (V2.drew) := (hP.cpu.grew (Grew.refl _).drw).atv (1 + b) (stv_at HS.out (by omega))
  have rd : Atv ⟨B, 1 + d, none⟩ (.int .i16 (s.reg d)) (V2.drew) := (hP.cpu.grew (Grew.refl _).drw).atv (1 + d) (stv_at HS.out (by omega))
  have ti : Atv ⟨0, 19, none⟩ (.int .i64 6) V2.drew := (HE.out.grew (Grew.refl _).drw).ins.cell 9 (by decide) 1 rfl
  refine wp_sides [23] 25 [some 80, some 81, some 82, some 83, some 84, some 85, some 86, some 87, some 88, some 89, some 90, some 91, some 92, some 93, some 94, some 95, some 96, some 97, some 98, some 99, some 100, some 79, some 101, some 102, some 103] zD1 [fun v _ => v = .pointer (some ⟨B, 1 + a, none⟩), fun v _ => v = .pointer (some ⟨w.heap.size, 0, none⟩), fun v _ => v = .int .i64 (9), fun v _ => v = .pointer (some ⟨0, 18, none⟩), fun v _ => v = .pointer (some ⟨0, 19, none⟩), fun v _ => v = .int .i64 (6), fun v _ => v = .pointer (some ⟨B, 0, none⟩), fun v _ => v = .pointer (some ⟨w.heap.size, 2, none⟩), fun v _ => v = .int .i64 (((b : Nat) : Int)), fun v _ => v = .pointer (some ⟨B, 0, none⟩), fun v _ => v = .pointer (some ⟨B, 1, none⟩), fun v _ => v = .pointer (some ⟨B, 1 + b, none⟩), fun v _ => v = .int .i16 (s.reg b), fun v _ => v = .pointer (some ⟨B, 0, none⟩), fun v _ => v = .pointer (some ⟨w.heap.size, 3, none⟩), fun v _ => v = .int .i64 (((d : Nat) : Int)), fun v _ => v = .pointer (some ⟨B, 0, none⟩), fun v _ => v = .pointer (some ⟨B, 1, none⟩), fun v _ => v = .pointer (some ⟨B, 1 + d, none⟩), fun v _ => v = .int .i16 (s.reg d), fun v _ => v = .tuple #[.int .i16 (binv 6 (s.reg b) (s.reg d)), .int .i64 (0)], fun v _ => v = .tuple #[.int .i16 (binv 6 (s.reg b) (s.reg d)), .int .i64 (0)], fun v _ => v = .int .i16 (binv 6 (s.reg b) (s.reg d)), fun v _ => v = .int .i64 (0), fun v _ => v = .pointer (some ⟨B, 1 + a, none⟩)] (by kernel_rfl) (by kernel_rfl) (by kernel_rfl) (by kernel_rfl) (by kernel_rfl) (fun d _ _ _ _ h => by cases d <;> exact h) rfl ?_ ⟨fun u w hR hd => ⟨.int .i64 (0), fun w1 => run_ext (ev (hd.1 rfl)) rfl, rfl⟩, trivial⟩ ⟨?_, ?_, ?_, ?_, ?_, ?_, ?_, ?_, ?_, ?_, ?_, ?_, ?_, ?_, ?_, ?_, ?_, ?_, ?_, ?_, ?_, ?_, ?_, ?_, ?_, trivial⟩ ?_
  · exact ⟨fun _ _ _ _ h => h, fun _ _ _ _ h => h, fun _ _ _ _ h => h, fun _ _ _ _ h => h, fun _ _ _ _ h => h, fun _ _ _ _ h => h, fun _ _ _ _ h => h, fun _ _ _ _ h => h, fun _ _ _ _ h => h, fun _ _ _ _ h => h, fun _ _ _ _ h => h, fun _ _ _ _ h => h, fun _ _ _ _ h => h, fun _ _ _ _ h => h, fun _ _ _ _ h => h, fun _ _ _ _ h => h, fun _ _ _ _ h => h, fun _ _ _ _ h => h, fun _ _ _ _ h => h, fun _ _ _ _ h => h, fun _ _ _ _ h => h, fun _ _ _ _ h => h, fun _ _ _ _ h => h, fun _ _ _ _ h => h, fun _ _ _ _ h => h, trivial⟩
  · intro u w hR hd; exact runs_mv (ev rfl) ⟨Grew.refl _, rfl⟩
  · intro u w hR hd; exact rn_fld_72_0 (ev rfl) ⟨Grew.refl _, rfl⟩
  · intro u w hR hd; exact rn_ld_3 (ev (hd.1 rfl)) (x0.kept hR) ⟨Grew.refl _, rfl⟩
  · intro u w hR hd; exact rn_idxa_109 (9) rfl (ev (hd.1 rfl)) (by omega) ⟨Grew.refl _, rfl⟩
  · intro u w hR hd; exact rn_fld_108_1 (ev (hd.1 rfl)) ⟨Grew.refl _, rfl⟩
  · intro u w hR hd; exact rn_ld_3 (ev (hd.1 rfl)) (ti.kept hR) ⟨Grew.refl _, rfl⟩
  · intro u w hR hd; exact runs_mv (ev rfl) ⟨Grew.refl _, rfl⟩
  · intro u w hR hd; exact rn_fld_72_2 (ev rfl) ⟨Grew.refl _, rfl⟩
  · intro u w hR hd; exact rn_ld_3 (ev (hd.1 rfl)) (x2.kept hR) ⟨Grew.refl _, rfl⟩
  · intro u w hR hd; exact rn_nil (ev (hd.1 rfl)) ⟨Grew.refl _, rfl⟩
  · intro u w hR hd; exact rn_fld_43_1 (ev (hd.1 rfl)) ⟨Grew.refl _, rfl⟩
  · intro u w hR hd; exact rn_idxa_30 (b) (ev (hd.1 rfl)) (ev (hd.2.1 rfl)) (by omega) ⟨Grew.refl _, rfl⟩
  · intro u w hR hd; exact rn_ld_29 (ev (hd.1 rfl)) (rb.kept hR) ⟨Grew.refl _, rfl⟩
  · intro u w hR hd; exact runs_mv (ev rfl) ⟨Grew.refl _, rfl⟩
  · intro u w hR hd; exact rn_fld_72_3 (ev rfl) ⟨Grew.refl _, rfl⟩
  · intro u w hR hd; exact rn_ld_3 (ev (hd.1 rfl)) (x3.kept hR) ⟨Grew.refl _, rfl⟩
  · intro u w hR hd; exact rn_nil (ev (hd.1 rfl)) ⟨Grew.refl _, rfl⟩
  · intro u w hR hd; exact rn_fld_43_1 (ev (hd.1 rfl)) ⟨Grew.refl _, rfl⟩
  · intro u w hR hd; exact rn_idxa_30 (d) (ev (hd.1 rfl)) (ev (hd.2.1 rfl)) (by omega) ⟨Grew.refl _, rfl⟩
  · intro u w hR hd; exact rn_ld_29 (ev (hd.1 rfl)) (rd.kept hR) ⟨Grew.refl _, rfl⟩
  · intro u w hR hd; exact runs_c3 en_bi (ev (hd.1 rfl)) (ev (hd.2.1 rfl)) (ev (hd.2.2.1 rfl)) (callp (fun _ e => e) (binary_g6 (s.reg b) (s.reg d) _))
  · intro u w hR hd; exact runs_mv (ev (hd.1 rfl)) ⟨Grew.refl _, rfl⟩
  · intro u w hR hd; exact rn_ext (ev (hd.1 rfl)) rfl ⟨Grew.refl _, rfl⟩
  · intro u w hR hd; exact rn_ext (ev (hd.1 rfl)) rfl ⟨Grew.refl _, rfl⟩
  · intro u w hR hd; exact rn_nil (ev (hd.1 rfl)) ⟨Grew.refl _, rfl⟩
  · intro u w9 hR h
    have e1 : u 103 = .pointer (some ⟨B, 1 + a, none⟩) := h 24 (by decide)
    have e2 : u 101 = .int .i16 (binv 6 (s.reg b) (s.reg d)) := h 22 (by decide)
    replace hP := hP.grew ((Grew.refl V2).drw.trans hR)
    replace bx : Blk w.heap.size (cdv ⟨9, a, b, d, i⟩) 72 (w9) := bx.grew ((Grew.refl V2).drw.trans hR)
    have c9 : (w9).cell? ⟨B, 1 + a, none⟩ = some (.int .i16 (s.reg a)) := by rw [hP.cpu.cell]; exact stv_at HS.out (by omega)
    have f9 := hP.cpu.free (1 + a)
    refine wpAny_one (i := 25) none (by kernel_rfl) rfl rfl rfl (rn_st_29 (ev e1) (ev e2) c9 f9 ?_)
    refine wpAny_done (by kernel_rfl) ?_ _
    simp only [Act.put, mixA, mixL, zz9, zz0, zz4, zz6, zz5]
    generalize hW : World.setCell _ _ _ = V3
    replace hP : Pf CPT N B q S (s.to a (binv 6 (s.reg b) (s.reg d)) s.pc) W w V3 := hW ▸ hP.set a _
    clear hW h e1 e2 c9 f9 rb rd ti x0 x2 x3 hR bx
    have s0 : V3.cell? ⟨B, 0, none⟩ = some (.int .i64 s.pc) := hP.cpu.cell 0
    have sf := hP.cpu.free
    go_wp2
    go_ret
    exact ⟨rfl, hP.pc (s.pc + 1)⟩
set_option maxHeartbeats 4000000 in
theorem perf_10 (a b d : Nat) (ha : a < 8) (hb : b < 8) (hd : d < 8) (i n : Int) (N B q : Nat) (S : Nat → Prop) (s : St) (W : Wd) (w : World) (hcb : Blk B (stv s) CPT w) (hbus : Bus N w q W S) (hE : EnvN N w) (hs : s.Ok) (hl : W.cs.length ≤ 90000) (hN : N ≤ w.heap.size) (hNB : N ≤ B) (hp : -9223372036854775808 ≤ s.pc ∧ s.pc < 9223372036854775807) :
    Calls Tryd.prog 56 #[.pointer (some ⟨B, 0, none⟩), cdV ⟨10, a, b, d, i⟩, .int .i64 n, (.iface 47 (.pointer (some ⟨q, 0, none⟩)))] w fun e w' => e = .returned (.bool (perf ⟨10, a, b, d, i⟩ n s W).1) ∧ Pf CPT N B q S (perf ⟨10, a, b, d, i⟩ n s W).2.1 (perf ⟨10, a, b, d, i⟩ n s W).2.2 w w' := by
  rw [show perf ⟨10, a, b, d, i⟩ n s W = (true, s.to a (binv 7 (s.reg b) (s.reg d)) (s.pc + 1), W) from rfl]
  have HS := Lib.hid hs
  have HL : Hid (W.cs.length ≤ 100000) := Lib.hid (by omega)
  have HN := Lib.hid hN
  have hP := Pf.start hcb hbus
  obtain ⟨p0, p1⟩ := hp
  have HE := Lib.hid hE
  have hBl := hcb.lt
  clear hs hl hN hcb hE hbus hNB
  go_enter Tryd.func56, Tryd.ntmps56
  go_wp2
  generalize hV : World.alloc _ _ = V
  have bx : Blk w.heap.size (cdv ⟨10, a, b, d, i⟩) 72 V := by subst hV; exact Blk.new w (cdv ⟨10, a, b, d, i⟩) _
  have hg : Grew w V := by subst hV; exact (Grew.refl _).alloc _
  clear hV
  replace hP := hP.grew hg
  replace HE := Lib.hid (HE.out.grew hg)
  clear hg
  have x1 : Atv ⟨w.heap.size, 1, none⟩ (.int .i64 (a : Int)) (V.drew) := (bx.grew (Grew.refl _).drw).atv 1 rfl
  refine wp_still [some 12, some 13, some 14, some 15, some 16, some 17, some 10] zD6 [fun v _ => v = .pointer (some ⟨B, 0, none⟩), fun v _ => v = .pointer (some ⟨w.heap.size, 1, none⟩), fun v _ => v = .int .i64 (((a : Nat) : Int)), fun v _ => v = .pointer (some ⟨B, 0, none⟩), fun v _ => v = .pointer (some ⟨B, 1, none⟩), fun v _ => v = .pointer (some ⟨B, 1 + a, none⟩), fun v _ => v = .pointer (some ⟨B, 1 + a, none⟩)] (by kernel_rfl) (by kernel_rfl) rfl ⟨?_, ?_, ?_, ?_, ?_, ?_, ?_, trivial⟩ ?_
  · intro u w hR hd; exact runs_mv (ev rfl) ⟨rfl, rfl⟩
  · intro u w hR hd; exact rn_fld_72_1 (ev rfl) ⟨rfl, rfl⟩
  · intro u w hR hd; exact rn_ld_3 (ev (hd.1 rfl)) (x1.kept hR) ⟨rfl, rfl⟩
  · intro u w hR hd; exact rn_nil (ev (hd.1 rfl)) ⟨rfl, rfl⟩
  · intro u w hR hd; exact rn_fld_43_1 (ev (hd.1 rfl)) ⟨rfl, rfl⟩
  · intro u w hR hd; exact rn_idxa_30 (a) (ev (hd.1 rfl)) (ev (hd.2.1 rfl)) (by omega) ⟨rfl, rfl⟩
  · intro u w hR hd; exact runs_mva (ev (hd.1 rfl)) ⟨rfl, rfl⟩
  intro u h
  have he : u 10 = .pointer (some ⟨B, 1 + a, none⟩) := h 6 (by decide)
  simp only [mixA, mixL, zz9, zz0]
  rw [he]
  clear h he x1
  generalize hV : V.drew = V2
  replace bx : Blk w.heap.size (cdv ⟨10, a, b, d, i⟩) 72 V2 := by subst hV; exact bx.grew (Grew.refl _).drw
  replace hP : Pf CPT N B q S s W w V2 := by subst hV; exact hP.grew (Grew.refl _).drw
  replace HE : Hid (EnvN N V2) := Lib.hid (by subst hV; exact HE.out.grew (Grew.refl _).drw)
  clear hV
  have x0 : V2.cell? ⟨w.heap.size, 0, none⟩ = some (.int .i64 10) := bx.cell 0
  have x1 : V2.cell? ⟨w.heap.size, 1, none⟩ = some (.int .i64 (a : Int)) := bx.cell 1
  have x2 : V2.cell? ⟨w.heap.size, 2, none⟩ = some (.int .i64 (b : Int)) := bx.cell 2
  have x3 : V2.cell? ⟨w.heap.size, 3, none⟩ = some (.int .i64 (d : Int)) := bx.cell 3
  have x4 : V2.cell? ⟨w.heap.size, 4, none⟩ = some (.int .i16 i) := bx.cell 4
  have s0 : V2.cell? ⟨B, 0, none⟩ = some (.int .i64 s.pc) := hP.cpu.cell 0
  have sf := hP.cpu.free
  go_upto_region 23 with fail
  clear x0 x1 x2 x3 x4 s0 sf
  have x0 : Atv ⟨w.heap.size, 0, none⟩ (.int .i64 10) (V2.drew) := (bx.grew (Grew.refl _).drw).atv 0 rfl
  have x2 : Atv ⟨w.heap.size, 2, none⟩ (.int .i64 (b : Int)) (V2.drew) := (bx.grew (Grew.refl _).drw).atv 2 rfl
  have x3 : Atv ⟨w.heap.size, 3, none⟩ (.int .i64 (d : Int)) (V2.drew) := (bx.grew (Grew.refl _).drw).atv 3 rfl
  have rb : Atv ⟨B, 1 + b, none⟩ (.int .i16 (s.reg b)) (V2.drew) := (hP.cpu.grew (Grew.refl _).drw).atv (1 + b) (stv_at HS.out (by omega))
  have rd : Atv ⟨B, 1 + d, none⟩ (.int .i16 (s.reg d)) (V2.drew) := (hP.cpu.grew (Grew.refl _).drw).atv (1 + d) (stv_at HS.out (by omega))
  have ti : Atv ⟨0, 21, none⟩ (.int .i64 7) V2.drew := (HE.out.grew (Grew.refl _).drw).ins.cell 10 (by decide) 1 rfl
  refine wp_sides [23] 25 [some 80, some 81, some 82, some 83, some 84, some 85, some 86, some 87, some 88, some 89, some 90, some 91, some 92, some 93, some 94, some 95, some 96, some 97, some 98, some 99, some 100, some 79, some 101, some 102, some 103] zD1 [fun v _ => v = .pointer (some ⟨B, 1 + a, none⟩), fun v _ => v = .pointer (some ⟨w.heap.size, 0, none⟩), fun v _ => v = .int .i64 (10), fun v _ => v = .pointer (some ⟨0, 20, none⟩), fun v _ => v = .pointer (some ⟨0, 21, none⟩), fun v _ => v = .int .i64 (7), fun v _ => v = .pointer (some ⟨B, 0, none⟩), fun v _ => v = .pointer (some ⟨w.heap.size, 2, none⟩), fun v _ => v = .int .i64 (((b : Nat) : Int)), fun v _ => v = .pointer (some ⟨B, 0, none⟩), fun v _ => v = .pointer (some ⟨B, 1, none⟩), fun v _ => v = .pointer (some ⟨B, 1 + b, none⟩), fun v _ => v = .int .i16 (s.reg b), fun v _ => v = .pointer (some ⟨B, 0, none⟩), fun v _ => v = .pointer (some ⟨w.heap.size, 3, none⟩), fun v _ => v = .int .i64 (((d : Nat) : Int)), fun v _ => v = .pointer (some ⟨B, 0, none⟩), fun v _ => v = .pointer (some ⟨B, 1, none⟩), fun v _ => v = .pointer (some ⟨B, 1 + d, none⟩), fun v _ => v = .int .i16 (s.reg d), fun v _ => v = .tuple #[.int .i16 (binv 7 (s.reg b) (s.reg d)), .int .i64 (0)], fun v _ => v = .tuple #[.int .i16 (binv 7 (s.reg b) (s.reg d)), .int .i64 (0)], fun v _ => v = .int .i16 (binv 7 (s.reg b) (s.reg d)), fun v _ => v = .int .i64 (0), fun v _ => v = .pointer (some ⟨B, 1 + a, none⟩)] (by kernel_rfl) (by kernel_rfl) (by kernel_rfl) (by kernel_rfl) (by kernel_rfl) (fun d _ _ _ _ h => by cases d <;> exact h) rfl ?_ ⟨fun u w hR hd => ⟨.int .i64 (0), fun w1 => run_ext (ev (hd.1 rfl)) rfl, rfl⟩, trivial⟩ ⟨?_, ?_, ?_, ?_, ?_, ?_, ?_, ?_, ?_, ?_, ?_, ?_, ?_, ?_, ?_, ?_, ?_, ?_, ?_, ?_, ?_, ?_, ?_, ?_, ?_, trivial⟩ ?_
  · exact ⟨fun _ _ _ _ h => h, fun _ _ _ _ h => h, fun _ _ _ _ h => h, fun _ _ _ _ h => h, fun _ _ _ _ h => h, fun _ _ _ _ h => h, fun _ _ _ _ h => h, fun _ _ _ _ h => h, fun _ _ _ _ h => h, fun _ _ _ _ h => h, fun _ _ _ _ h => h, fun _ _ _ _ h => h, fun _ _ _ _ h => h, fun _ _ _ _ h => h, fun _ _ _ _ h => h, fun _ _ _ _ h => h, fun _ _ _ _ h => h, fun _ _ _ _ h => h, fun _ _ _ _ h => h, fun _ _ _ _ h => h, fun _ _ _ _ h => h, fun _ _ _ _ h => h, fun _ _ _ _ h => h, fun _ _ _ _ h => h, fun _ _ _ _ h => h, trivial⟩
  · intro u w hR hd; exact runs_mv (ev rfl) ⟨Grew.refl _, rfl⟩
  · intro u w hR hd; exact rn_fld_72_0 (ev rfl) ⟨Grew.refl _, rfl⟩
  · intro u w hR hd; exact rn_ld_3 (ev (hd.1 rfl)) (x0.kept hR) ⟨Grew.refl _, rfl⟩
  · intro u w hR hd; exact rn_idxa_109 (10) rfl (ev (hd.1 rfl)) (by omega) ⟨Grew.refl _, rfl⟩
  · intro u w hR hd; exact rn_fld_108_1 (ev (hd.1 rfl)) ⟨Grew.refl _, rfl⟩
  · intro u w hR hd; exact rn_ld_3 (ev (hd.1 rfl)) (ti.kept hR) ⟨Grew.refl _, rfl⟩
  · intro u w hR hd; exact runs_mv (ev rfl) ⟨Grew.refl _, rfl⟩
  · intro u w hR hd; exact rn_fld_72_2 (ev rfl) ⟨Grew.refl _, rfl⟩
  · intro u w hR hd; exact rn_ld_3 (ev (hd.1 rfl)) (x2.kept hR) ⟨Grew.refl _, rfl⟩
  · intro u w hR hd; exact rn_nil (ev (hd.1 rfl)) ⟨Grew.refl _, rfl⟩
  · intro u w hR hd; exact rn_fld_43_1 (ev (hd.1 rfl)) ⟨Grew.refl _, rfl⟩
  · intro u w hR hd; exact rn_idxa_30 (b) (ev (hd.1 rfl)) (ev (hd.2.1 rfl)) (by omega) ⟨Grew.refl _, rfl⟩
  · intro u w hR hd; exact rn_ld_29 (ev (hd.1 rfl)) (rb.kept hR) ⟨Grew.refl _, rfl⟩
  · intro u w hR hd; exact runs_mv (ev rfl) ⟨Grew.refl _, rfl⟩
  · intro u w hR hd; exact rn_fld_72_3 (ev rfl) ⟨Grew.refl _, rfl⟩
  · intro u w hR hd; exact rn_ld_3 (ev (hd.1 rfl)) (x3.kept hR) ⟨Grew.refl _, rfl⟩
  · intro u w hR hd; exact rn_nil (ev (hd.1 rfl)) ⟨Grew.refl _, rfl⟩
  · intro u w hR hd; exact rn_fld_43_1 (ev (hd.1 rfl)) ⟨Grew.refl _, rfl⟩
  · intro u w hR hd; exact rn_idxa_30 (d) (ev (hd.1 rfl)) (ev (hd.2.1 rfl)) (by omega) ⟨Grew.refl _, rfl⟩
  · intro u w hR hd; exact rn_ld_29 (ev (hd.1 rfl)) (rd.kept hR) ⟨Grew.refl _, rfl⟩
  · intro u w hR hd; exact runs_c3 en_bi (ev (hd.1 rfl)) (ev (hd.2.1 rfl)) (ev (hd.2.2.1 rfl)) (callp (fun _ e => e) (binary_g7 (s.reg b) (s.reg d) _))
  · intro u w hR hd; exact runs_mv (ev (hd.1 rfl)) ⟨Grew.refl _, rfl⟩
  · intro u w hR hd; exact rn_ext (ev (hd.1 rfl)) rfl ⟨Grew.refl _, rfl⟩
  · intro u w hR hd; exact rn_ext (ev (hd.1 rfl)) rfl ⟨Grew.refl _, rfl⟩
  · intro u w hR hd; exact rn_nil (ev (hd.1 rfl)) ⟨Grew.refl _, rfl⟩
  · intro u w9 hR h
    have e1 : u 103 = .pointer (some ⟨B, 1 + a, none⟩) := h 24 (by decide)
    have e2 : u 101 = .int .i16 (binv 7 (s.reg b) (s.reg d)) := h 22 (by decide)
    replace hP := hP.grew ((Grew.refl V2).drw.trans hR)
    replace bx : Blk w.heap.size (cdv ⟨10, a, b, d, i⟩) 72 (w9) := bx.grew ((Grew.refl V2).drw.trans hR)
    have c9 : (w9).cell? ⟨B, 1 + a, none⟩ = some (.int .i16 (s.reg a)) := by rw [hP.cpu.cell]; exact stv_at HS.out (by omega)
    have f9 := hP.cpu.free (1 + a)
    refine wpAny_one (i := 25) none (by kernel_rfl) rfl rfl rfl (rn_st_29 (ev e1) (ev e2) c9 f9 ?_)
    refine wpAny_done (by kernel_rfl) ?_ _
    simp only [Act.put, mixA, mixL, zz9, zz0, zz4, zz6, zz5]
    generalize hW : World.setCell _ _ _ = V3
    replace hP : Pf CPT N B q S (s.to a (binv 7 (s.reg b) (s.reg d)) s.pc) W w V3 := hW ▸ hP.set a _
    clear hW h e1 e2 c9 f9 rb rd ti x0 x2 x3 hR bx
    have s0 : V3.cell? ⟨B, 0, none⟩ = some (.int .i64 s.pc) := hP.cpu.cell 0
    have sf := hP.cpu.free
    go_wp2
    go_ret
    exact ⟨rfl, hP.pc (s.pc + 1)⟩
set_option maxHeartbeats 4000000 in
theorem perf_11 (a b d : Nat) (ha : a < 8) (hb : b < 8) (hd : d < 8) (i n : Int) (N B q : Nat) (S : Nat → Prop) (s : St) (W : Wd) (w : World) (hcb : Blk B (stv s) CPT w) (hbus : Bus N w q W S) (hE : EnvN N w) (hs : s.Ok) (hl : W.cs.length ≤ 90000) (hN : N ≤ w.heap.size) (hNB : N ≤ B) (hp : -9223372036854775808 ≤ s.pc ∧ s.pc < 9223372036854775807) :
    Calls Tryd.prog 56 #[.pointer (some ⟨B, 0, none⟩), cdV ⟨11, a, b, d, i⟩, .int .i64 n, (.iface 47 (.pointer (some ⟨q, 0, none⟩)))] w fun e w' => e = .returned (.bool (perf ⟨11, a, b, d, i⟩ n s W).1) ∧ Pf CPT N B q S (perf ⟨11, a, b, d, i⟩ n s W).2.1 (perf ⟨11, a, b, d, i⟩ n s W).2.2 w w' := by
  rw [show perf ⟨11, a, b, d, i⟩ n s W = (true, s.to a (binv 8 (s.reg b) (s.reg d)) (s.pc + 1), W) from rfl]
  have HS := Lib.hid hs
  have HL : Hid (W.cs.length ≤ 100000) := Lib.hid (by omega)
  have HN := Lib.hid hN
  have hP := Pf.start hcb hbus
  obtain ⟨p0, p1⟩ := hp
  have HE := Lib.hid hE
  have hBl := hcb.lt
  clear hs hl hN hcb hE hbus hNB
  go_enter Tryd.func56, Tryd.ntmps56
  go_wp2
  generalize hV : World.alloc _ _ = V
  have bx : Blk w.heap.size (cdv ⟨11, a, b, d, i⟩) 72 V := by subst hV; exact Blk.new w (cdv ⟨11, a, b, d, i⟩) _
  have hg : Grew w V := by subst hV; exact (Grew.refl _).alloc _
  clear hV
  replace hP := hP.grew hg
  replace HE := Lib.hid (HE.out.grew hg)
  clear hg
  have x1 : Atv ⟨w.heap.size, 1, none⟩ (.int .i64 (a : Int)) (V.drew) := (bx.grew (Grew.refl _).drw).atv 1 rfl
  refine wp_still [some 12, some 13, some 14, some 15, some 16, some 17, some 10] zD6 [fun v _ => v = .pointer (some ⟨B, 0, none⟩), fun v _ => v = .pointer (some ⟨w.heap.size, 1, none⟩), fun v _ => v = .int .i64 (((a : Nat) : Int)), fun v _ => v = .pointer (some ⟨B, 0, none⟩), fun v _ => v = .pointer (some ⟨B, 1, none⟩), fun v _ => v = .pointer (some ⟨B, 1 + a, none⟩), fun v _ => v = .pointer (some ⟨B, 1 + a, none⟩)] (by kernel_rfl) (by kernel_rfl) rfl ⟨?_, ?_, ?_, ?_, ?_, ?_, ?_, trivial⟩ ?_
  · intro u w hR hd; exact runs_mv (ev rfl) ⟨rfl, rfl⟩
  · intro u w hR hd; exact rn_fld_72_1 (ev rfl) ⟨rfl, rfl⟩
  · intro u w hR hd; exact rn_ld_3 (ev (hd.1 rfl)) (x1.kept hR) ⟨rfl, rfl⟩
  · intro u w hR hd; exact rn_nil (ev (hd.1 rfl)) ⟨rfl, rfl⟩
  · intro u w hR hd; exact rn_fld_43_1 (ev (hd.1 rfl)) ⟨rfl, rfl⟩
  · intro u w hR hd; exact rn_idxa_30 (a) (ev (hd.1 rfl)) (ev (hd.2.1 rfl)) (by omega) ⟨rfl, rfl⟩
  · intro u w hR hd; exact runs_mva (ev (hd.1 rfl)) ⟨rfl, rfl⟩
  intro u h
  have he : u 10 = .pointer (some ⟨B, 1 + a, none⟩) := h 6 (by decide)
  simp only [mixA, mixL, zz9, zz0]
  rw [he]
  clear h he x1
  generalize hV : V.drew = V2
  replace bx : Blk w.heap.size (cdv ⟨11, a, b, d, i⟩) 72 V2 := by subst hV; exact bx.grew (Grew.refl _).drw
  replace hP : Pf CPT N B q S s W w V2 := by subst hV; exact hP.grew (Grew.refl _).drw
  replace HE : Hid (EnvN N V2) := Lib.hid (by subst hV; exact HE.out.grew (Grew.refl _).drw)
  clear hV
  have x0 : V2.cell? ⟨w.heap.size, 0, none⟩ = some (.int .i64 11) := bx.cell 0
  have x1 : V2.cell? ⟨w.heap.size, 1, none⟩ = some (.int .i64 (a : Int)) := bx.cell 1
  have x2 : V2.cell? ⟨w.heap.size, 2, none⟩ = some (.int .i64 (b : Int)) := bx.cell 2
  have x3 : V2.cell? ⟨w.heap.size, 3, none⟩ = some (.int .i64 (d : Int)) := bx.cell 3
  have x4 : V2.cell? ⟨w.heap.size, 4, none⟩ = some (.int .i16 i) := bx.cell 4
  have s0 : V2.cell? ⟨B, 0, none⟩ = some (.int .i64 s.pc) := hP.cpu.cell 0
  have sf := hP.cpu.free
  go_upto_region 23 with fail
  clear x0 x1 x2 x3 x4 s0 sf
  have x0 : Atv ⟨w.heap.size, 0, none⟩ (.int .i64 11) (V2.drew) := (bx.grew (Grew.refl _).drw).atv 0 rfl
  have x2 : Atv ⟨w.heap.size, 2, none⟩ (.int .i64 (b : Int)) (V2.drew) := (bx.grew (Grew.refl _).drw).atv 2 rfl
  have x3 : Atv ⟨w.heap.size, 3, none⟩ (.int .i64 (d : Int)) (V2.drew) := (bx.grew (Grew.refl _).drw).atv 3 rfl
  have rb : Atv ⟨B, 1 + b, none⟩ (.int .i16 (s.reg b)) (V2.drew) := (hP.cpu.grew (Grew.refl _).drw).atv (1 + b) (stv_at HS.out (by omega))
  have rd : Atv ⟨B, 1 + d, none⟩ (.int .i16 (s.reg d)) (V2.drew) := (hP.cpu.grew (Grew.refl _).drw).atv (1 + d) (stv_at HS.out (by omega))
  have ti : Atv ⟨0, 23, none⟩ (.int .i64 8) V2.drew := (HE.out.grew (Grew.refl _).drw).ins.cell 11 (by decide) 1 rfl
  refine wp_sides [23] 25 [some 80, some 81, some 82, some 83, some 84, some 85, some 86, some 87, some 88, some 89, some 90, some 91, some 92, some 93, some 94, some 95, some 96, some 97, some 98, some 99, some 100, some 79, some 101, some 102, some 103] zD1 [fun v _ => v = .pointer (some ⟨B, 1 + a, none⟩), fun v _ => v = .pointer (some ⟨w.heap.size, 0, none⟩), fun v _ => v = .int .i64 (11), fun v _ => v = .pointer (some ⟨0, 22, none⟩), fun v _ => v = .pointer (some ⟨0, 23, none⟩), fun v _ => v = .int .i64 (8), fun v _ => v = .pointer (some ⟨B, 0, none⟩), fun v _ => v = .pointer (some ⟨w.heap.size, 2, none⟩), fun v _ => v = .int .i64 (((b : Nat) : Int)), fun v _ => v = .pointer (some ⟨B, 0, none⟩), fun v _ => v = .pointer (some ⟨B, 1, none⟩), fun v _ => v = .pointer (some ⟨B, 1 + b, none⟩), fun v _ => v = .int .i16 (s.reg b), fun v _ => v = .pointer (some ⟨B, 0, none⟩), fun v _ => v = .pointer (some ⟨w.heap.size, 3, none⟩), fun v _ => v = .int .i64 (((d : Nat) : Int)), fun v _ => v = .pointer (some ⟨B, 0, none⟩), fun v _ => v = .pointer (some ⟨B, 1, none⟩), fun v _ => v = .pointer (some ⟨B, 1 + d, none⟩), fun v _ => v = .int .i16 (s.reg d), fun v _ => v = .tuple #[.int .i16 (binv 8 (s.reg b) (s.reg d)), .int .i64 (0)], fun v _ => v = .tuple #[.int .i16 (binv 8 (s.reg b) (s.reg d)), .int .i64 (0)], fun v _ => v = .int .i16 (binv 8 (s.reg b) (s.reg d)), fun v _ => v = .int .i64 (0), fun v _ => v = .pointer (some ⟨B, 1 + a, none⟩)] (by kernel_rfl) (by kernel_rfl) (by kernel_rfl) (by kernel_rfl) (by kernel_rfl) (fun d _ _ _ _ h => by cases d <;> exact h) rfl ?_ ⟨fun u w hR hd => ⟨.int .i64 (0), fun w1 => run_ext (ev (hd.1 rfl)) rfl, rfl⟩, trivial⟩ ⟨?_, ?_, ?_, ?_, ?_, ?_, ?_, ?_, ?_, ?_, ?_, ?_, ?_, ?_, ?_, ?_, ?_, ?_, ?_, ?_, ?_, ?_, ?_, ?_, ?_, trivial⟩ ?_
  · exact ⟨fun _ _ _ _ h => h, fun _ _ _ _ h => h, fun _ _ _ _ h => h, fun _ _ _ _ h => h, fun _ _ _ _ h => h, fun _ _ _ _ h => h, fun _ _ _ _ h => h, fun _ _ _ _ h => h, fun _ _ _ _ h => h, fun _ _ _ _ h => h, fun _ _ _ _ h => h, fun _ _ _ _ h => h, fun _ _ _ _ h => h, fun _ _ _ _ h => h, fun _ _ _ _ h => h, fun _ _ _ _ h => h, fun _ _ _ _ h => h, fun _ _ _ _ h => h, fun _ _ _ _ h => h, fun _ _ _ _ h => h, fun _ _ _ _ h => h, fun _ _ _ _ h => h, fun _ _ _ _ h => h, fun _ _ _ _ h => h, fun _ _ _ _ h => h, trivial⟩
  · intro u w hR hd; exact runs_mv (ev rfl) ⟨Grew.refl _, rfl⟩
  · intro u w hR hd; exact rn_fld_72_0 (ev rfl) ⟨Grew.refl _, rfl⟩
  · intro u w hR hd; exact rn_ld_3 (ev (hd.1 rfl)) (x0.kept hR) ⟨Grew.refl _, rfl⟩
  · intro u w hR hd; exact rn_idxa_109 (11) rfl (ev (hd.1 rfl)) (by omega) ⟨Grew.refl _, rfl⟩
  · intro u w hR hd; exact rn_fld_108_1 (ev (hd.1 rfl)) ⟨Grew.refl _, rfl⟩
  · intro u w hR hd; exact rn_ld_3 (ev (hd.1 rfl)) (ti.kept hR) ⟨Grew.refl _, rfl⟩
  · intro u w hR hd; exact runs_mv (ev rfl) ⟨Grew.refl _, rfl⟩
  · intro u w hR hd; exact rn_fld_72_2 (ev rfl) ⟨Grew.refl _, rfl⟩
  · intro u w hR hd; exact rn_ld_3 (ev (hd.1 rfl)) (x2.kept hR) ⟨Grew.refl _, rfl⟩
  · intro u w hR hd; exact rn_nil (ev (hd.1 rfl)) ⟨Grew.refl _, rfl⟩
  · intro u w hR hd; exact rn_fld_43_1 (ev (hd.1 rfl)) ⟨Grew.refl _, rfl⟩
  · intro u w hR hd; exact rn_idxa_30 (b) (ev (hd.1 rfl)) (ev (hd.2.1 rfl)) (by omega) ⟨Grew.refl _, rfl⟩
  · intro u w hR hd; exact rn_ld_29 (ev (hd.1 rfl)) (rb.kept hR) ⟨Grew.refl _, rfl⟩
  · intro u w hR hd; exact runs_mv (ev rfl) ⟨Grew.refl _, rfl⟩
  · intro u w hR hd; exact rn_fld_72_3 (ev rfl) ⟨Grew.refl _, rfl⟩
  · intro u w hR hd; exact rn_ld_3 (ev (hd.1 rfl)) (x3.kept hR) ⟨Grew.refl _, rfl⟩
  · intro u w hR hd; exact rn_nil (ev (hd.1 rfl)) ⟨Grew.refl _, rfl⟩
  · intro u w hR hd; exact rn_fld_43_1 (ev (hd.1 rfl)) ⟨Grew.refl _, rfl⟩
  · intro u w hR hd; exact rn_idxa_30 (d) (ev (hd.1 rfl)) (ev (hd.2.1 rfl)) (by omega) ⟨Grew.refl _, rfl⟩
  · intro u w hR hd; exact rn_ld_29 (ev (hd.1 rfl)) (rd.kept hR) ⟨Grew.refl _, rfl⟩
  · intro u w hR hd; exact runs_c3 en_bi (ev (hd.1 rfl)) (ev (hd.2.1 rfl)) (ev (hd.2.2.1 rfl)) (callp (fun _ e => e) (binary_g8 (s.reg b) (s.reg d) _))
  · intro u w hR hd; exact runs_mv (ev (hd.1 rfl)) ⟨Grew.refl _, rfl⟩
  · intro u w hR hd; exact rn_ext (ev (hd.1 rfl)) rfl ⟨Grew.refl _, rfl⟩
  · intro u w hR hd; exact rn_ext (ev (hd.1 rfl)) rfl ⟨Grew.refl _, rfl⟩
  · intro u w hR hd; exact rn_nil (ev (hd.1 rfl)) ⟨Grew.refl _, rfl⟩
  · intro u w9 hR h
    have e1 : u 103 = .pointer (some ⟨B, 1 + a, none⟩) := h 24 (by decide)
    have e2 : u 101 = .int .i16 (binv 8 (s.reg b) (s.reg d)) := h 22 (by decide)
    replace hP := hP.grew ((Grew.refl V2).drw.trans hR)
    replace bx : Blk w.heap.size (cdv ⟨11, a, b, d, i⟩) 72 (w9) := bx.grew ((Grew.refl V2).drw.trans hR)
    have c9 : (w9).cell? ⟨B, 1 + a, none⟩ = some (.int .i16 (s.reg a)) := by rw [hP.cpu.cell]; exact stv_at HS.out (by omega)
    have f9 := hP.cpu.free (1 + a)
    refine wpAny_one (i := 25) none (by kernel_rfl) rfl rfl rfl (rn_st_29 (ev e1) (ev e2) c9 f9 ?_)
    refine wpAny_done (by kernel_rfl) ?_ _
    simp only [Act.put, mixA, mixL, zz9, zz0, zz4, zz6, zz5]
    generalize hW : World.setCell _ _ _ = V3
    replace hP : Pf CPT N B q S (s.to a (binv 8 (s.reg b) (s.reg d)) s.pc) W w V3 := hW ▸ hP.set a _
    clear hW h e1 e2 c9 f9 rb rd ti x0 x2 x3 hR bx
    have s0 : V3.cell? ⟨B, 0, none⟩ = some (.int .i64 s.pc) := hP.cpu.cell 0
    have sf := hP.cpu.free
    go_wp2
    go_ret
    exact ⟨rfl, hP.pc (s.pc + 1)⟩
set_option maxHeartbeats 4000000 in
theorem perf_12 (a b d : Nat) (ha : a < 8) (hb : b < 8) (hd : d < 8) (i n : Int) (N B q : Nat) (S : Nat → Prop) (s : St) (W : Wd) (w : World) (hcb : Blk B (stv s) CPT w) (hbus : Bus N w q W S) (hE : EnvN N w) (hs : s.Ok) (hl : W.cs.length ≤ 90000) (hN : N ≤ w.heap.size) (hNB : N ≤ B) (hp : -9223372036854775808 ≤ s.pc ∧ s.pc < 9223372036854775807) :
    Calls Tryd.prog 56 #[.pointer (some ⟨B, 0, none⟩), cdV ⟨12, a, b, d, i⟩, .int .i64 n, (.iface 47 (.pointer (some ⟨q, 0, none⟩)))] w fun e w' => e = .returned (.bool (perf ⟨12, a, b, d, i⟩ n s W).1) ∧ Pf CPT N B q S (perf ⟨12, a, b, d, i⟩ n s W).2.1 (perf ⟨12, a, b, d, i⟩ n s W).2.2 w w' := by
  rw [show perf ⟨12, a, b, d, i⟩ n s W = (true, s.to a (binv 10 (s.reg b) (s.reg d)) (s.pc + 1), W) from rfl]
  have HS := Lib.hid hs
  have HL : Hid (W.cs.length ≤ 100000) := Lib.hid (by omega)
  have HN := Lib.hid hN
  have hP := Pf.start hcb hbus
  obtain ⟨p0, p1⟩ := hp
  have HE := Lib.hid hE
  have hBl := hcb.lt
  clear hs hl hN hcb hE hbus hNB
  go_enter Tryd.func56, Tryd.ntmps56
  go_wp2
  generalize hV : World.alloc _ _ = V
  have bx : Blk w.heap.size (cdv ⟨12, a, b, d, i⟩) 72 V := by subst hV; exact Blk.new w (cdv ⟨12, a, b, d, i⟩) _
  have hg : Grew w V := by subst hV; exact (Grew.refl _).alloc _
  clear hV
  replace hP := hP.grew hg
  replace HE := Lib.hid (HE.out.grew hg)
  clear hg
  have x1 : Atv ⟨w.heap.size, 1, none⟩ (.int .i64 (a : Int)) (V.drew) := (bx.grew (Grew.refl _).drw).atv 1 rfl
  refine wp_still [some 12, some 13, some 14, some 15, some 16, some 17, some 10] zD6 [fun v _ => v = .pointer (some ⟨B, 0, none⟩), fun v _ => v = .pointer (some ⟨w.heap.size, 1, none⟩), fun v _ => v = .int .i64 (((a : Nat) : Int)), fun v _ => v = .pointer (some ⟨B, 0, none⟩), fun v _ => v = .pointer (some ⟨B, 1, none⟩), fun v _ => v = .pointer (some ⟨B, 1 + a, none⟩), fun v _ => v = .pointer (some ⟨B, 1 + a, none⟩)] (by kernel_rfl) (by kernel_rfl) rfl ⟨?_, ?_, ?_, ?_, ?_, ?_, ?_, trivial⟩ ?_
  · intro u w hR hd; exact runs_mv (ev rfl) ⟨rfl, rfl⟩
  · intro u w hR hd; exact rn_fld_72_1 (ev rfl) ⟨rfl, rfl⟩
  · intro u w hR hd; exact rn_ld_3 (ev (hd.1 rfl)) (x1.kept hR) ⟨rfl, rfl⟩
  · intro u w hR hd; exact rn_nil (ev (hd.1 rfl)) ⟨rfl, rfl⟩
  · intro u w hR hd; exact rn_fld_43_1 (ev (hd.1 rfl)) ⟨rfl, rfl⟩
  · intro u w hR hd; exact rn_idxa_30 (a) (ev (hd.1 rfl)) (ev (hd.2.1 rfl)) (by omega) ⟨rfl, rfl⟩
  · intro u w hR hd; exact runs_mva (ev (hd.1 rfl)) ⟨rfl, rfl⟩
  intro u h
  have he : u 10 = .pointer (some ⟨B, 1 + a, none⟩) := h 6 (by decide)
  simp only [mixA, mixL, zz9, zz0]
  rw [he]
  clear h he x1
  generalize hV : V.drew = V2
  replace bx : Blk w.heap.size (cdv ⟨12, a, b, d, i⟩) 72 V2 := by subst hV; exact bx.grew (Grew.refl _).drw
  replace hP : Pf CPT N B q S s W w V2 := by subst hV; exact hP.grew (Grew.refl _).drw
  replace HE : Hid (EnvN N V2) := Lib.hid (by subst hV; exact HE.out.grew (Grew.refl _).drw)
  clear hV
  have x0 : V2.cell? ⟨w.heap.size, 0, none⟩ = some (.int .i64 12) := bx.cell 0
  have x1 : V2.cell? ⟨w.heap.size, 1, none⟩ = some (.int .i64 (a : Int)) := bx.cell 1
  have x2 : V2.cell? ⟨w.heap.size, 2, none⟩ = some (.int .i64 (b : Int)) := bx.cell 2
  have x3 : V2.cell? ⟨w.heap.size, 3, none⟩ = some (.int .i64 (d : Int)) := bx.cell 3
  have x4 : V2.cell? ⟨w.heap.size, 4, none⟩ = some (.int .i16 i) := bx.cell 4
  have s0 : V2.cell? ⟨B, 0, none⟩ = some (.int .i64 s.pc) := hP.cpu.cell 0
  have sf := hP.cpu.free
  go_upto_region 23 with fail
  clear x0 x1 x2 x3 x4 s0 sf
  have x0 : Atv ⟨w.heap.size, 0, none⟩ (.int .i64 12) (V2.drew) := (bx.grew (Grew.refl _).drw).atv 0 rfl
  have x2 : Atv ⟨w.heap.size, 2, none⟩ (.int .i64 (b : Int)) (V2.drew) := (bx.grew (Grew.refl _).drw).atv 2 rfl
  have x3 : Atv ⟨w.heap.size, 3, none⟩ (.int .i64 (d : Int)) (V2.drew) := (bx.grew (Grew.refl _).drw).atv 3 rfl
  have rb : Atv ⟨B, 1 + b, none⟩ (.int .i16 (s.reg b)) (V2.drew) := (hP.cpu.grew (Grew.refl _).drw).atv (1 + b) (stv_at HS.out (by omega))
  have rd : Atv ⟨B, 1 + d, none⟩ (.int .i16 (s.reg d)) (V2.drew) := (hP.cpu.grew (Grew.refl _).drw).atv (1 + d) (stv_at HS.out (by omega))
  have ti : Atv ⟨0, 25, none⟩ (.int .i64 10) V2.drew := (HE.out.grew (Grew.refl _).drw).ins.cell 12 (by decide) 1 rfl
  refine wp_sides [23] 25 [some 80, some 81, some 82, some 83, some 84, some 85, some 86, some 87, some 88, some 89, some 90, some 91, some 92, some 93, some 94, some 95, some 96, some 97, some 98, some 99, some 100, some 79, some 101, some 102, some 103] zD1 [fun v _ => v = .pointer (some ⟨B, 1 + a, none⟩), fun v _ => v = .pointer (some ⟨w.heap.size, 0, none⟩), fun v _ => v = .int .i64 (12), fun v _ => v = .pointer (some ⟨0, 24, none⟩), fun v _ => v = .pointer (some ⟨0, 25, none⟩), fun v _ => v = .int .i64 (10), fun v _ => v = .pointer (some ⟨B, 0, none⟩), fun v _ => v = .pointer (some ⟨w.heap.size, 2, none⟩), fun v _ => v = .int .i64 (((b : Nat) : Int)), fun v _ => v = .pointer (some ⟨B, 0, none⟩), fun v _ => v = .pointer (some ⟨B, 1, none⟩), fun v _ => v = .pointer (some ⟨B, 1 + b, none⟩), fun v _ => v = .int .i16 (s.reg b), fun v _ => v = .pointer (some ⟨B, 0, none⟩), fun v _ => v = .pointer (some ⟨w.heap.size, 3, none⟩), fun v _ => v = .int .i64 (((d : Nat) : Int)), fun v _ => v = .pointer (some ⟨B, 0, none⟩), fun v _ => v = .pointer (some ⟨B, 1, none⟩), fun v _ => v = .pointer (some ⟨B, 1 + d, none⟩), fun v _ => v = .int .i16 (s.reg d), fun v _ => v = .tuple #[.int .i16 (binv 10 (s.reg b) (s.reg d)), .int .i64 (0)], fun v _ => v = .tuple #[.int .i16 (binv 10 (s.reg b) (s.reg d)), .int .i64 (0)], fun v _ => v = .int .i16 (binv 10 (s.reg b) (s.reg d)), fun v _ => v = .int .i64 (0), fun v _ => v = .pointer (some ⟨B, 1 + a, none⟩)] (by kernel_rfl) (by kernel_rfl) (by kernel_rfl) (by kernel_rfl) (by kernel_rfl) (fun d _ _ _ _ h => by cases d <;> exact h) rfl ?_ ⟨fun u w hR hd => ⟨.int .i64 (0), fun w1 => run_ext (ev (hd.1 rfl)) rfl, rfl⟩, trivial⟩ ⟨?_, ?_, ?_, ?_, ?_, ?_, ?_, ?_, ?_, ?_, ?_, ?_, ?_, ?_, ?_, ?_, ?_, ?_, ?_, ?_, ?_, ?_, ?_, ?_, ?_, trivial⟩ ?_
  · exact ⟨fun _ _ _ _ h => h, fun _ _ _ _ h => h, fun _ _ _ _ h => h, fun _ _ _ _ h => h, fun _ _ _ _ h => h, fun _ _ _ _ h => h, fun _ _ _ _ h => h, fun _ _ _ _ h => h, fun _ _ _ _ h => h, fun _ _ _ _ h => h, fun _ _ _ _ h => h, fun _ _ _ _ h => h, fun _ _ _ _ h => h, fun _ _ _ _ h => h, fun _ _ _ _ h => h, fun _ _ _ _ h => h, fun _ _ _ _ h => h, fun _ _ _ _ h => h, fun _ _ _ _ h => h, fun _ _ _ _ h => h, fun _ _ _ _ h => h, fun _ _ _ _ h => h, fun _ _ _ _ h => h, fun _ _ _ _ h => h, fun _ _ _ _ h => h, trivial⟩
  · intro u w hR hd; exact runs_mv (ev rfl) ⟨Grew.refl _, rfl⟩
  · intro u w hR hd; exact rn_fld_72_0 (ev rfl) ⟨Grew.refl _, rfl⟩
  · intro u w hR hd; exact rn_ld_3 (ev (hd.1 rfl)) (x0.kept hR) ⟨Grew.refl _, rfl⟩
  · intro u w hR hd; exact rn_idxa_109 (12) rfl (ev (hd.1 rfl)) (by omega) ⟨Grew.refl _, rfl⟩
  · intro u w hR hd; exact rn_fld_108_1 (ev (hd.1 rfl)) ⟨Grew.refl _, rfl⟩
  · intro u w hR hd; exact rn_ld_3 (ev (hd.1 rfl)) (ti.kept hR) ⟨Grew.refl _, rfl⟩
  · intro u w hR hd; exact runs_mv (ev rfl) ⟨Grew.refl _, rfl⟩
  · intro u w hR hd; exact rn_fld_72_2 (ev rfl) ⟨Grew.refl _, rfl⟩
  · intro u w hR hd; exact rn_ld_3 (ev (hd.1 rfl)) (x2.kept hR) ⟨Grew.refl _, rfl⟩
  · intro u w hR hd; exact rn_nil (ev (hd.1 rfl)) ⟨Grew.refl _, rfl⟩
  · intro u w hR hd; exact rn_fld_43_1 (ev (hd.1 rfl)) ⟨Grew.refl _, rfl⟩
  · intro u w hR hd; exact rn_idxa_30 (b) (ev (hd.1 rfl)) (ev (hd.2.1 rfl)) (by omega) ⟨Grew.refl _, rfl⟩
  · intro u w hR hd; exact rn_ld_29 (ev (hd.1 rfl)) (rb.kept hR) ⟨Grew.refl _, rfl⟩
  · intro u w hR hd; exact runs_mv (ev rfl) ⟨Grew.refl _, rfl⟩
  · intro u w hR hd; exact rn_fld_72_3 (ev rfl) ⟨Grew.refl _, rfl⟩
  · intro u w hR hd; exact rn_ld_3 (ev (hd.1 rfl)) (x3.kept hR) ⟨Grew.refl _, rfl⟩
  · intro u w hR hd; exact rn_nil (ev (hd.1 rfl)) ⟨Grew.refl _, rfl⟩
  · intro u w hR hd; exact rn_fld_43_1 (ev (hd.1 rfl)) ⟨Grew.refl _, rfl⟩
  · intro u w hR hd; exact rn_idxa_30 (d) (ev (hd.1 rfl)) (ev (hd.2.1 rfl)) (by omega) ⟨Grew.refl _, rfl⟩
  · intro u w hR hd; exact rn_ld_29 (ev (hd.1 rfl)) (rd.kept hR) ⟨Grew.refl _, rfl⟩
  · intro u w hR hd; exact runs_c3 en_bi (ev (hd.1 rfl)) (ev (hd.2.1 rfl)) (ev (hd.2.2.1 rfl)) (callp (fun _ e => e) (binary_g10 (s.reg b) (s.reg d) _))
  · intro u w hR hd; exact runs_mv (ev (hd.1 rfl)) ⟨Grew.refl _, rfl⟩
  · intro u w hR hd; exact rn_ext (ev (hd.1 rfl)) rfl ⟨Grew.refl _, rfl⟩
  · intro u w hR hd; exact rn_ext (ev (hd.1 rfl)) rfl ⟨Grew.refl _, rfl⟩
  · intro u w hR hd; exact rn_nil (ev (hd.1 rfl)) ⟨Grew.refl _, rfl⟩
  · intro u w9 hR h
    have e1 : u 103 = .pointer (some ⟨B, 1 + a, none⟩) := h 24 (by decide)
    have e2 : u 101 = .int .i16 (binv 10 (s.reg b) (s.reg d)) := h 22 (by decide)
    replace hP := hP.grew ((Grew.refl V2).drw.trans hR)
    replace bx : Blk w.heap.size (cdv ⟨12, a, b, d, i⟩) 72 (w9) := bx.grew ((Grew.refl V2).drw.trans hR)
    have c9 : (w9).cell? ⟨B, 1 + a, none⟩ = some (.int .i16 (s.reg a)) := by rw [hP.cpu.cell]; exact stv_at HS.out (by omega)
    have f9 := hP.cpu.free (1 + a)
    refine wpAny_one (i := 25) none (by kernel_rfl) rfl rfl rfl (rn_st_29 (ev e1) (ev e2) c9 f9 ?_)
    refine wpAny_done (by kernel_rfl) ?_ _
    simp only [Act.put, mixA, mixL, zz9, zz0, zz4, zz6, zz5]
    generalize hW : World.setCell _ _ _ = V3
    replace hP : Pf CPT N B q S (s.to a (binv 10 (s.reg b) (s.reg d)) s.pc) W w V3 := hW ▸ hP.set a _
    clear hW h e1 e2 c9 f9 rb rd ti x0 x2 x3 hR bx
    have s0 : V3.cell? ⟨B, 0, none⟩ = some (.int .i64 s.pc) := hP.cpu.cell 0
    have sf := hP.cpu.free
    go_wp2
    go_ret
    exact ⟨rfl, hP.pc (s.pc + 1)⟩
set_option maxHeartbeats 4000000 in
theorem perf_13 (a b d : Nat) (ha : a < 8) (hb : b < 8) (hd : d < 8) (i n : Int) (N B q : Nat) (S : Nat → Prop) (s : St) (W : Wd) (w : World) (hcb : Blk B (stv s) CPT w) (hbus : Bus N w q W S) (hE : EnvN N w) (hs : s.Ok) (hl : W.cs.length ≤ 90000) (hN : N ≤ w.heap.size) (hNB : N ≤ B) (hp : -9223372036854775808 ≤ s.pc ∧ s.pc < 9223372036854775807) :
    Calls Tryd.prog 56 #[.pointer (some ⟨B, 0, none⟩), cdV ⟨13, a, b, d, i⟩, .int .i64 n, (.iface 47 (.pointer (some ⟨q, 0, none⟩)))] w fun e w' => e = .returned (.bool (perf ⟨13, a, b, d, i⟩ n s W).1) ∧ Pf CPT N B q S (perf ⟨13, a, b, d, i⟩ n s W).2.1 (perf ⟨13, a, b, d, i⟩ n s W).2.2 w w' := by
  rw [show perf ⟨13, a, b, d, i⟩ n s W = (true, s.to a (binv 11 (s.reg b) (s.reg d)) (s.pc + 1), W) from rfl]
  have HS := Lib.hid hs
  have HL : Hid (W.cs.length ≤ 100000) := Lib.hid (by omega)
  have HN := Lib.hid hN
  have hP := Pf.start hcb hbus
  obtain ⟨p0, p1⟩ := hp
  have HE := Lib.hid hE
  have hBl := hcb.lt
  clear hs hl hN hcb hE hbus hNB
  go_enter Tryd.func56, Tryd.ntmps56
  go_wp2
  generalize hV : World.alloc _ _ = V
  have bx : Blk w.heap.size (cdv ⟨13, a, b, d, i⟩) 72 V := by subst hV; exact Blk.new w (cdv ⟨13, a, b, d, i⟩) _
  have hg : Grew w V := by subst hV; exact (Grew.refl _).alloc _
  clear hV
  replace hP := hP.grew hg
  replace HE := Lib.hid (HE.out.grew hg)
  clear hg
  have x1 : Atv ⟨w.heap.size, 1, none⟩ (.int .i64 (a : Int)) (V.drew) := (bx.grew (Grew.refl _).drw).atv 1 rfl
  refine wp_still [some 12, some 13, some 14, some 15, some 16, some 17, some 10] zD6 [fun v _ => v = .pointer (some ⟨B, 0, none⟩), fun v _ => v = .pointer (some ⟨w.heap.size, 1, none⟩), fun v _ => v = .int .i64 (((a : Nat) : Int)), fun v _ => v = .pointer (some ⟨B, 0, none⟩), fun v _ => v = .pointer (some ⟨B, 1, none⟩), fun v _ => v = .pointer (some ⟨B, 1 + a, none⟩), fun v _ => v = .pointer (some ⟨B, 1 + a, none⟩)] (by kernel_rfl) (by kernel_rfl) rfl ⟨?_, ?_, ?_, ?_, ?_, ?_, ?_, trivial⟩ ?_
  · intro u w hR hd; exact runs_mv (ev rfl) ⟨rfl, rfl⟩
  · intro u w hR hd; exact rn_fld_72_1 (ev rfl) ⟨rfl, rfl⟩
  · intro u w hR hd; exact rn_ld_3 (ev (hd.1 rfl)) (x1.kept hR) ⟨rfl, rfl⟩
  · intro u w hR hd; exact rn_nil (ev (hd.1 rfl)) ⟨rfl, rfl⟩
  · intro u w hR hd; exact rn_fld_43_1 (ev (hd.1 rfl)) ⟨rfl, rfl⟩
  · intro u w hR hd; exact rn_idxa_30 (a) (ev (hd.1 rfl)) (ev (hd.2.1 rfl)) (by omega) ⟨rfl, rfl⟩
  · intro u w hR hd; exact runs_mva (ev (hd.1 rfl)) ⟨rfl, rfl⟩
  intro u h
  have he : u 10 = .pointer (some ⟨B, 1 + a, none⟩) := h 6 (by decide)
  simp only [mixA, mixL, zz9, zz0]
  rw [he]
  clear h he x1
  generalize hV : V.drew = V2
  replace bx : Blk w.heap.size (cdv ⟨13, a, b, d, i⟩) 72 V2 := by subst hV; exact bx.grew (Grew.refl _).drw
  replace hP : Pf CPT N B q S s W w V2 := by subst hV; exact hP.grew (Grew.refl _).drw
  replace HE : Hid (EnvN N V2) := Lib.hid (by subst hV; exact HE.out.grew (Grew.refl _).drw)
  clear hV
  have x0 : V2.cell? ⟨w.heap.size, 0, none⟩ = some (.int .i64 13) := bx.cell 0
  have x1 : V2.cell? ⟨w.heap.size, 1, none⟩ = some (.int .i64 (a : Int)) := bx.cell 1
  have x2 : V2.cell? ⟨w.heap.size, 2, none⟩ = some (.int .i64 (b : Int)) := bx.cell 2
  have x3 : V2.cell? ⟨w.heap.size, 3, none⟩ = some (.int .i64 (d : Int)) := bx.cell 3
  have x4 : V2.cell? ⟨w.heap.size, 4, none⟩ = some (.int .i16 i) := bx.cell 4
  have s0 : V2.cell? ⟨B, 0, none⟩ = some (.int .i64 s.pc) := hP.cpu.cell 0
  have sf := hP.cpu.free
  go_upto_region 23 with fail
  clear x0 x1 x2 x3 x4 s0 sf
  have x0 : Atv ⟨w.heap.size, 0, none⟩ (.int .i64 13) (V2.drew) := (bx.grew (Grew.refl _).drw).atv 0 rfl
  have x2 : Atv ⟨w.heap.size, 2, none⟩ (.int .i64 (b : Int)) (V2.drew) := (bx.grew (Grew.refl _).drw).atv 2 rfl
  have x3 : Atv ⟨w.heap.size, 3, none⟩ (.int .i64 (d : Int)) (V2.drew) := (bx.grew (Grew.refl _).drw).atv 3 rfl
  have rb : Atv ⟨B, 1 + b, none⟩ (.int .i16 (s.reg b)) (V2.drew) := (hP.cpu.grew (Grew.refl _).drw).atv (1 + b) (stv_at HS.out (by omega))
  have rd : Atv ⟨B, 1 + d, none⟩ (.int .i16 (s.reg d)) (V2.drew) := (hP.cpu.grew (Grew.refl _).drw).atv (1 + d) (stv_at HS.out (by omega))
  have ti : Atv ⟨0, 27, none⟩ (.int .i64 11) V2.drew := (HE.out.grew (Grew.refl _).drw).ins.cell 13 (by decide) 1 rfl
  refine wp_sides [23] 25 [some 80, some 81, some 82, some 83, some 84, some 85, some 86, some 87, some 88, some 89, some 90, some 91, some 92, some 93, some 94, some 95, some 96, some 97, some 98, some 99, some 100, some 79, some 101, some 102, some 103] zD1 [fun v _ => v = .pointer (some ⟨B, 1 + a, none⟩), fun v _ => v = .pointer (some ⟨w.heap.size, 0, none⟩), fun v _ => v = .int .i64 (13), fun v _ => v = .pointer (some ⟨0, 26, none⟩), fun v _ => v = .pointer (some ⟨0, 27, none⟩), fun v _ => v = .int .i64 (11), fun v _ => v = .pointer (some ⟨B, 0, none⟩), fun v _ => v = .pointer (some ⟨w.heap.size, 2, none⟩), fun v _ => v = .int .i64 (((b : Nat) : Int)), fun v _ => v = .pointer (some ⟨B, 0, none⟩), fun v _ => v = .pointer (some ⟨B, 1, none⟩), fun v _ => v = .pointer (some ⟨B, 1 + b, none⟩), fun v _ => v = .int .i16 (s.reg b), fun v _ => v = .pointer (some ⟨B, 0, none⟩), fun v _ => v = .pointer (some ⟨w.heap.size, 3, none⟩), fun v _ => v = .int .i64 (((d : Nat) : Int)), fun v _ => v = .pointer (some ⟨B, 0, none⟩), fun v _ => v = .pointer (some ⟨B, 1, none⟩), fun v _ => v = .pointer (some ⟨B, 1 + d, none⟩), fun v _ => v = .int .i16 (s.reg d), fun v _ => v = .tuple #[.int .i16 (binv 11 (s.reg b) (s.reg d)), .int .i64 (0)], fun v _ => v = .tuple #[.int .i16 (binv 11 (s.reg b) (s.reg d)), .int .i64 (0)], fun v _ => v = .int .i16 (binv 11 (s.reg b) (s.reg d)), fun v _ => v = .int .i64 (0), fun v _ => v = .pointer (some ⟨B, 1 + a, none⟩)] (by kernel_rfl) (by kernel_rfl) (by kernel_rfl) (by kernel_rfl) (by kernel_rfl) (fun d _ _ _ _ h => by cases d <;> exact h) rfl ?_ ⟨fun u w hR hd => ⟨.int .i64 (0), fun w1 => run_ext (ev (hd.1 rfl)) rfl, rfl⟩, trivial⟩ ⟨?_, ?_, ?_, ?_, ?_, ?_, ?_, ?_, ?_, ?_, ?_, ?_, ?_, ?_, ?_, ?_, ?_, ?_, ?_, ?_, ?_, ?_, ?_, ?_, ?_, trivial⟩ ?_
  · exact ⟨fun _ _ _ _ h => h, fun _ _ _ _ h => h, fun _ _ _ _ h => h, fun _ _ _ _ h => h, fun _ _ _ _ h => h, fun _ _ _ _ h => h, fun _ _ _ _ h => h, fun _ _ _ _ h => h, fun _ _ _ _ h => h, fun _ _ _ _ h => h, fun _ _ _ _ h => h, fun _ _ _ _ h => h, fun _ _ _ _ h => h, fun _ _ _ _ h => h, fun _ _ _ _ h => h, fun _ _ _ _ h => h, fun _ _ _ _ h => h, fun _ _ _ _ h => h, fun _ _ _ _ h => h, fun _ _ _ _ h => h, fun _ _ _ _ h => h, fun _ _ _ _ h => h, fun _ _ _ _ h => h, fun _ _ _ _ h => h, fun _ _ _ _ h => h, trivial⟩
  · intro u w hR hd; exact runs_mv (ev rfl) ⟨Grew.refl _, rfl⟩
  · intro u w hR hd; exact rn_fld_72_0 (ev rfl) ⟨Grew.refl _, rfl⟩
  · intro u w hR hd; exact rn_ld_3 (ev (hd.1 rfl)) (x0.kept hR) ⟨Grew.refl _, rfl⟩
  · intro u w hR hd; exact rn_idxa_109 (13) rfl (ev (hd.1 rfl)) (by omega) ⟨Grew.refl _, rfl⟩
  · intro u w hR hd; exact rn_fld_108_1 (ev (hd.1 rfl)) ⟨Grew.refl _, rfl⟩
  · intro u w hR hd; exact rn_ld_3 (ev (hd.1 rfl)) (ti.kept hR) ⟨Grew.refl _, rfl⟩
  · intro u w hR hd; exact runs_mv (ev rfl) ⟨Grew.refl _, rfl⟩
  · intro u w hR hd; exact rn_fld_72_2 (ev rfl) ⟨Grew.refl _, rfl⟩
  · intro u w hR hd; exact rn_ld_3 (ev (hd.1 rfl)) (x2.kept hR) ⟨Grew.refl _, rfl⟩
  · intro u w hR hd; exact rn_nil (ev (hd.1 rfl)) ⟨Grew.refl _, rfl⟩
  · intro u w hR hd; exact rn_fld_43_1 (ev (hd.1 rfl)) ⟨Grew.refl _, rfl⟩
  · intro u w hR hd; exact rn_idxa_30 (b) (ev (hd.1 rfl)) (ev (hd.2.1 rfl)) (by omega) ⟨Grew.refl _, rfl⟩
  · intro u w hR hd; exact rn_ld_29 (ev (hd.1 rfl)) (rb.kept hR) ⟨Grew.refl _, rfl⟩
  · intro u w hR hd; exact runs_mv (ev rfl) ⟨Grew.refl _, rfl⟩
  · intro u w hR hd; exact rn_fld_72_3 (ev rfl) ⟨Grew.refl _, rfl⟩
  · intro u w hR hd; exact rn_ld_3 (ev (hd.1 rfl)) (x3.kept hR) ⟨Grew.refl _, rfl⟩
  · intro u w hR hd; exact rn_nil (ev (hd.1 rfl)) ⟨Grew.refl _, rfl⟩
  · intro u w hR hd; exact rn_fld_43_1 (ev (hd.1 rfl)) ⟨Grew.refl _, rfl⟩
  · intro u w hR hd; exact rn_idxa_30 (d) (ev (hd.1 rfl)) (ev (hd.2.1 rfl)) (by omega) ⟨Grew.refl _, rfl⟩
  · intro u w hR hd; exact rn_ld_29 (ev (hd.1 rfl)) (rd.kept hR) ⟨Grew.refl _, rfl⟩
  · intro u w hR hd; exact runs_c3 en_bi (ev (hd.1 rfl)) (ev (hd.2.1 rfl)) (ev (hd.2.2.1 rfl)) (callp (fun _ e => e) (binary_g11 (s.reg b) (s.reg d) _))
  · intro u w hR hd; exact runs_mv (ev (hd.1 rfl)) ⟨Grew.refl _, rfl⟩
  · intro u w hR hd; exact rn_ext (ev (hd.1 rfl)) rfl ⟨Grew.refl _, rfl⟩
  · intro u w hR hd; exact rn_ext (ev (hd.1 rfl)) rfl ⟨Grew.refl _, rfl⟩
  · intro u w hR hd; exact rn_nil (ev (hd.1 rfl)) ⟨Grew.refl _, rfl⟩
  · intro u w9 hR h
    have e1 : u 103 = .pointer (some ⟨B, 1 + a, none⟩) := h 24 (by decide)
    have e2 : u 101 = .int .i16 (binv 11 (s.reg b) (s.reg d)) := h 22 (by decide)
    replace hP := hP.grew ((Grew.refl V2).drw.trans hR)
    replace bx : Blk w.heap.size (cdv ⟨13, a, b, d, i⟩) 72 (w9) := bx.grew ((Grew.refl V2).drw.trans hR)
    have c9 : (w9).cell? ⟨B, 1 + a, none⟩ = some (.int .i16 (s.reg a)) := by rw [hP.cpu.cell]; exact stv_at HS.out (by omega)
    have f9 := hP.cpu.free (1 + a)
    refine wpAny_one (i := 25) none (by kernel_rfl) rfl rfl rfl (rn_st_29 (ev e1) (ev e2) c9 f9 ?_)
    refine wpAny_done (by kernel_rfl) ?_ _
    simp only [Act.put, mixA, mixL, zz9, zz0, zz4, zz6, zz5]
    generalize hW : World.setCell _ _ _ = V3
    replace hP : Pf CPT N B q S (s.to a (binv 11 (s.reg b) (s.reg d)) s.pc) W w V3 := hW ▸ hP.set a _
    clear hW h e1 e2 c9 f9 rb rd ti x0 x2 x3 hR bx
    have s0 : V3.cell? ⟨B, 0, none⟩ = some (.int .i64 s.pc) := hP.cpu.cell 0
    have sf := hP.cpu.free
    go_wp2
    go_ret
    exact ⟨rfl, hP.pc (s.pc + 1)⟩
end Go.Proofs.YtbhglpiiabpdjaaDoor
