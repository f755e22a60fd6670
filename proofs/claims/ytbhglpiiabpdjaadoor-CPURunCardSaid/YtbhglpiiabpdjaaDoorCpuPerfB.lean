/-
  LAYER 12 (cpu): perform, one theorem for each operation.
-/
import Derived.Test.YtbhglpiiabpdjaaDoorShort
import Derived.Test.YtbhglpiiabpdjaaDoorCpuPerfOps
namespace Go.Proofs.YtbhglpiiabpdjaaDoor
open Go Go.RowKit Go.IntWalk Go.WideShapes
set_option linter.unusedSimpArgs false
set_option linter.unusedVariables false
set_option maxRecDepth 8000
set_option maxHeartbeats 4000000 in
theorem perf_4 (a b d : Nat) (ha : a < 8) (hb : b < 8) (hd : d < 8) (i n : Int) (N B q : Nat) (S : Nat → Prop) (s : St) (W : Wd) (w : World) (hcb : Blk B (stv s) CPT w) (hbus : Bus N w q W S) (hE : EnvN N w) (hs : s.Ok) (hl : W.cs.length ≤ 90000) (hN : N ≤ w.heap.size) (hNB : N ≤ B) (hp : -9223372036854775808 ≤ s.pc ∧ s.pc < 9223372036854775807) :
    Calls Tryd.prog 56 #[.pointer (some ⟨B, 0, none⟩), cdV ⟨4, a, b, d, i⟩, .int .i64 n, (.iface 47 (.pointer (some ⟨q, 0, none⟩)))] w fun e w' => e = .returned (.bool (perf ⟨4, a, b, d, i⟩ n s W).1) ∧ Pf CPT N B q S (perf ⟨4, a, b, d, i⟩ n s W).2.1 (perf ⟨4, a, b, d, i⟩ n s W).2.2 w w' := by
  rw [show perf ⟨4, a, b, d, i⟩ n s W = (true, s.to a (unv 1 (s.reg b)) (s.pc + 1), W) from rfl]
  have HS := Lib.hid hs
  have HL : Hid (W.cs.length ≤ 100000) := Lib.hid (by omega)
  have HN := Lib.hid hN
  have hP := Pf.start hcb hbus
  obtain ⟨p0, p1⟩ := hp
  have HE := Lib.hid hE
  have hBl := hcb.lt
  clear hs hl hN hcb hE hbus hNB
  go_enter Tryd.func56, Tryd.ntmps56
  go_wp2
  generalize hV : World.alloc _ _ = V
  have bx : Blk w.heap.size (cdv ⟨4, a, b, d, i⟩) 72 V := by subst hV; exact Blk.new w (cdv ⟨4, a, b, d, i⟩) _
  have hg : Grew w V := by subst hV; exact (Grew.refl _).alloc _
  clear hV
  replace hP := hP.grew hg
  replace HE := Lib.hid (HE.out.grew hg)
  clear hg
  have x1 : Atv ⟨w.heap.size, 1, none⟩ (.int .i64 (a : Int)) (V.drew) := (bx.grew (Grew.refl _).drw).atv 1 rfl
  refine wp_still [some 12, some 13, some 14, some 15, some 16, some 17, some 10] zD6 [fun v _ => v = .pointer (some ⟨B, 0, none⟩), fun v _ => v = .pointer (some ⟨w.heap.size, 1, none⟩), fun v _ => v = .int .i64 (((a : Nat) : Int)), fun v _ => v = .pointer (some ⟨B, 0, none⟩), fun v _ => v = .pointer (some ⟨B, 1, none⟩), fun v _ => v = .pointer (some ⟨B, 1 + a, none⟩), fun v _ => v = .pointer (some ⟨B, 1 + a, none⟩)] (by kernel_rfl) (by kernel_rfl) rfl ⟨?_, ?_, ?_, ?_, ?_, ?_, ?_, trivial⟩ ?_
  · intro u w hR hd; exact runs_mv (ev rfl) ⟨rfl, rfl⟩
  · intro u w hR hd; exact rn_fld_72_1 (ev rfl) ⟨rfl, rfl⟩
  · intro u w hR hd; exact rn_ld_3 (ev (hd.1 rfl)) (x1.kept hR) ⟨rfl, rfl⟩
  · intro u w hR hd; exact rn_nil (ev (hd.1 rfl)) ⟨rfl, rfl⟩
  · intro u w hR hd; exact rn_fld_43_1 (ev (hd.1 rfl)) ⟨rfl, rfl⟩
  · intro u w hR hd; exact rn_idxa_30 (a) (ev (hd.1 rfl)) (ev (hd.2.1 rfl)) (by omega) ⟨rfl, rfl⟩
  · intro u w hR hd; exact runs_mva (ev (hd.1 rfl)) ⟨rfl, rfl⟩
  intro u h
  have he : u 10 = .pointer (some ⟨B, 1 + a, none⟩) := h 6 (by decide)
  simp only [mixA, mixL, zz9, zz0]
  rw [he]
  clear h he x1
  generalize hV : V.drew = V2
  replace bx : Blk w.heap.size (cdv ⟨4, a, b, d, i⟩) 72 V2 := by subst hV; exact bx.grew (Grew.refl _).drw
  replace hP : Pf CPT N B q S s W w V2 := by subst hV; exact hP.grew (Grew.refl _).drw
  replace HE : Hid (EnvN N V2) := Lib.hid (by subst hV; exact HE.out.grew (Grew.refl _).drw)
  clear hV
  have x0 : V2.cell? ⟨w.heap.size, 0, none⟩ = some (.int .i64 4) := bx.cell 0
  have x1 : V2.cell? ⟨w.heap.size, 1, none⟩ = some (.int .i64 (a : Int)) := bx.cell 1
  have x2 : V2.cell? ⟨w.heap.size, 2, none⟩ = some (.int .i64 (b : Int)) := bx.cell 2
  have x3 : V2.cell? ⟨w.heap.size, 3, none⟩ = some (.int .i64 (d : Int)) := bx.cell 3
  have x4 : V2.cell? ⟨w.heap.size, 4, none⟩ = some (.int .i16 i) := bx.cell 4
  have s0 : V2.cell? ⟨B, 0, none⟩ = some (.int .i64 s.pc) := hP.cpu.cell 0
  have sf := hP.cpu.free
  go_upto_region 14 with fail
  clear x0 x1 x2 x3 x4 s0 sf
  have x0 : Atv ⟨w.heap.size, 0, none⟩ (.int .i64 4) (V2.drew) := (bx.grew (Grew.refl _).drw).atv 0 rfl
  have x2 : Atv ⟨w.heap.size, 2, none⟩ (.int .i64 (b : Int)) (V2.drew) := (bx.grew (Grew.refl _).drw).atv 2 rfl
  have rb : Atv ⟨B, 1 + b, none⟩ (.int .i16 (s.reg b)) (V2.drew) := (hP.cpu.grew (Grew.refl _).drw).atv (1 + b) (stv_at HS.out (by omega))
  have ti : Atv ⟨0, 9, none⟩ (.int .i64 1) V2.drew := (HE.out.grew (Grew.refl _).drw).ins.cell 4 (by decide) 1 rfl
  refine wp_sides [16] 18 [some 53, some 54, some 55, some 56, some 57, some 58, some 59, some 60, some 61, some 62, some 63, some 64, some 65, some 66, some 52, some 67, some 68, some 69] zD2 [fun v _ => v = .pointer (some ⟨B, 1 + a, none⟩), fun v _ => v = .pointer (some ⟨w.heap.size, 0, none⟩), fun v _ => v = .int .i64 (4), fun v _ => v = .pointer (some ⟨0, 8, none⟩), fun v _ => v = .pointer (some ⟨0, 9, none⟩), fun v _ => v = .int .i64 (1), fun v _ => v = .pointer (some ⟨B, 0, none⟩), fun v _ => v = .pointer (some ⟨w.heap.size, 2, none⟩), fun v _ => v = .int .i64 (((b : Nat) : Int)), fun v _ => v = .pointer (some ⟨B, 0, none⟩), fun v _ => v = .pointer (some ⟨B, 1, none⟩), fun v _ => v = .pointer (some ⟨B, 1 + b, none⟩), fun v _ => v = .int .i16 (s.reg b), fun v _ => v = .tuple #[.int .i16 (unv 1 (s.reg b)), .int .i64 (0)], fun v _ => v = .tuple #[.int .i16 (unv 1 (s.reg b)), .int .i64 (0)], fun v _ => v = .int .i16 (unv 1 (s.reg b)), fun v _ => v = .int .i64 (0), fun v _ => v = .pointer (some ⟨B, 1 + a, none⟩)] (by kernel_rfl) (by kernel_rfl) (by kernel_rfl) (by kernel_rfl) (by kernel_rfl) (fun d _ _ _ _ h => by cases d <;> exact h) rfl ?_ ⟨fun u w hR hd => ⟨.int .i64 (0), fun w1 => run_ext (ev (hd.1 rfl)) rfl, rfl⟩, trivial⟩ ⟨?_, ?_, ?_, ?_, ?_, ?_, ?_, ?_, ?_, ?_, ?_, ?_, ?_, ?_, ?_, ?_, ?_, ?_, trivial⟩ ?_
  · exact ⟨fun _ _ _ _ h => h, fun _ _ _ _ h => h, fun _ _ _ _ h => h, fun _ _ _ _ h => h, fun _ _ _ _ h => h, fun _ _ _ _ h => h, fun _ _ _ _ h => h, fun _ _ _ _ h => h, fun _ _ _ _ h => h, fun _ _ _ _ h => h, fun _ _ _ _ h => h, fun _ _ _ _ h => h, fun _ _ _ _ h => h, fun _ _ _ _ h => h, fun _ _ _ _ h => h, fun _ _ _ _ h => h, fun _ _ _ _ h => h, fun _ _ _ _ h => h, trivial⟩
  · intro u w hR hd; exact runs_mv (ev rfl) ⟨Grew.refl _, rfl⟩
  · intro u w hR hd; exact rn_fld_72_0 (ev rfl) ⟨Grew.refl _, rfl⟩
  · intro u w hR hd; exact rn_ld_3 (ev (hd.1 rfl)) (x0.kept hR) ⟨Grew.refl _, rfl⟩
  · intro u w hR hd; exact rn_idxa_109 (4) rfl (ev (hd.1 rfl)) (by omega) ⟨Grew.refl _, rfl⟩
  · intro u w hR hd; exact rn_fld_108_1 (ev (hd.1 rfl)) ⟨Grew.refl _, rfl⟩
  · intro u w hR hd; exact rn_ld_3 (ev (hd.1 rfl)) (ti.kept hR) ⟨Grew.refl _, rfl⟩
  · intro u w hR hd; exact runs_mv (ev rfl) ⟨Grew.refl _, rfl⟩
  · intro u w hR hd; exact rn_fld_72_2 (ev rfl) ⟨Grew.refl _, rfl⟩
  · intro u w hR hd; exact rn_ld_3 (ev (hd.1 rfl)) (x2.kept hR) ⟨Grew.refl _, rfl⟩
  · intro u w hR hd; exact rn_nil (ev (hd.1 rfl)) ⟨Grew.refl _, rfl⟩
  · intro u w hR hd; exact rn_fld_43_1 (ev (hd.1 rfl)) ⟨Grew.refl _, rfl⟩
  · intro u w hR hd; exact rn_idxa_30 (b) (ev (hd.1 rfl)) (ev (hd.2.1 rfl)) (by omega) ⟨Grew.refl _, rfl⟩
  · intro u w hR hd; exact rn_ld_29 (ev (hd.1 rfl)) (rb.kept hR) ⟨Grew.refl _, rfl⟩
  · intro u w hR hd; exact runs_c2 en_un (ev (hd.1 rfl)) (ev (hd.2.1 rfl)) (callp (fun _ e => e) (unary_g1 (s.reg b) _))
  · intro u w hR hd; exact runs_mv (ev (hd.1 rfl)) ⟨Grew.refl _, rfl⟩
  · intro u w hR hd; exact rn_ext (ev (hd.1 rfl)) rfl ⟨Grew.refl _, rfl⟩
  · intro u w hR hd; exact rn_ext (ev (hd.1 rfl)) rfl ⟨Grew.refl _, rfl⟩
  · intro u w hR hd; exact rn_nil (ev (hd.1 rfl)) ⟨Grew.refl _, rfl⟩
  · intro u w9 hR h
    have e1 : u 69 = .pointer (some ⟨B, 1 + a, none⟩) := h 17 (by decide)
    have e2 : u 67 = .int .i16 (unv 1 (s.reg b)) := h 15 (by decide)
    replace hP := hP.grew ((Grew.refl V2).drw.trans hR)
    replace bx : Blk w.heap.size (cdv ⟨4, a, b, d, i⟩) 72 (w9) := bx.grew ((Grew.refl V2).drw.trans hR)
    have c9 : (w9).cell? ⟨B, 1 + a, none⟩ = some (.int .i16 (s.reg a)) := by rw [hP.cpu.cell]; exact stv_at HS.out (by omega)
    have f9 := hP.cpu.free (1 + a)
    refine wpAny_one (i := 18) none (by kernel_rfl) rfl rfl rfl (rn_st_29 (ev e1) (ev e2) c9 f9 ?_)
    refine wpAny_done (by kernel_rfl) ?_ _
    simp only [Act.put, mixA, mixL, zz9, zz0, zz4, zz6, zz5]
    generalize hW : World.setCell _ _ _ = V3
    replace hP : Pf CPT N B q S (s.to a (unv 1 (s.reg b)) s.pc) W w V3 := hW ▸ hP.set a _
    clear hW h e1 e2 c9 f9 rb ti x0 x2 hR bx
    have s0 : V3.cell? ⟨B, 0, none⟩ = some (.int .i64 s.pc) := hP.cpu.cell 0
    have sf := hP.cpu.free
    go_wp2
    go_ret
    exact ⟨rfl, hP.pc (s.pc + 1)⟩
set_option maxHeartbeats 4000000 in
theorem perf_5 (a b d : Nat) (ha : a < 8) (hb : b < 8) (hd : d < 8) (i n : Int) (N B q : Nat) (S : Nat → Prop) (s : St) (W : Wd) (w : World) (hcb : Blk B (stv s) CPT w) (hbus : Bus N w q W S) (hE : EnvN N w) (hs : s.Ok) (hl : W.cs.length ≤ 90000) (hN : N ≤ w.heap.size) (hNB : N ≤ B) (hp : -9223372036854775808 ≤ s.pc ∧ s.pc < 9223372036854775807) :
    Calls Tryd.prog 56 #[.pointer (some ⟨B, 0, none⟩), cdV ⟨5, a, b, d, i⟩, .int .i64 n, (.iface 47 (.pointer (some ⟨q, 0, none⟩)))] w fun e w' => e = .returned (.bool (perf ⟨5, a, b, d, i⟩ n s W).1) ∧ Pf CPT N B q S (perf ⟨5, a, b, d, i⟩ n s W).2.1 (perf ⟨5, a, b, d, i⟩ n s W).2.2 w w' := by
  rw [show perf ⟨5, a, b, d, i⟩ n s W = (true, s.to a (unv 2 (s.reg b)) (s.pc + 1), W) from rfl]
  have HS := Lib.hid hs
  have HL : Hid (W.cs.length ≤ 100000) := Lib.hid (by omega)
  have HN := Lib.hid hN
  have hP := Pf.start hcb hbus
  obtain ⟨p0, p1⟩ := hp
  have HE := Lib.hid hE
  have hBl := hcb.lt
  clear hs hl hN hcb hE hbus hNB
  go_enter Tryd.func56, Tryd.ntmps56
  go_wp2
  generalize hV : World.alloc _ _ = V
  have bx : Blk w.heap.size (cdv ⟨5, a, b, d, i⟩) 72 V := by subst hV; exact Blk.new w (cdv ⟨5, a, b, d, i⟩) _
  have hg : Grew w V := by subst hV; exact (Grew.refl _).alloc _
  clear hV
  replace hP := hP.grew hg
  replace HE := Lib.hid (HE.out.grew hg)
  clear hg
  have x1 : Atv ⟨w.heap.size, 1, none⟩ (.int .i64 (a : Int)) (V.drew) := (bx.grew (Grew.refl _).drw).atv 1 rfl
  refine wp_still [some 12, some 13, some 14, some 15, some 16, some 17, some 10] zD6 [fun v _ => v = .pointer (some ⟨B, 0, none⟩), fun v _ => v = .pointer (some ⟨w.heap.size, 1, none⟩), fun v _ => v = .int .i64 (((a : Nat) : Int)), fun v _ => v = .pointer (some ⟨B, 0, none⟩), fun v _ => v = .pointer (some ⟨B, 1, none⟩), fun v _ => v = .pointer (some ⟨B, 1 + a, none⟩), fun v _ => v = .pointer (some ⟨B, 1 + a, none⟩)] (by kernel_rfl) (by kernel_rfl) rfl ⟨?_, ?_, ?_, ?_, ?_, ?_, ?_, trivial⟩ ?_
  · intro u w hR hd; exact runs_mv (ev rfl) ⟨rfl, rfl⟩
  · intro u w hR hd; exact rn_fld_72_1 (ev rfl) ⟨rfl, rfl⟩
  · intro u w hR hd; exact rn_ld_3 (ev (hd.1 rfl)) (x1.kept hR) ⟨rfl, rfl⟩
  · intro u w hR hd; exact rn_nil (ev (hd.1 rfl)) ⟨rfl, rfl⟩
  · intro u w hR hd; exact rn_fld_43_1 (ev (hd.1 rfl)) ⟨rfl, rfl⟩
  · intro u w hR hd; exact rn_idxa_30 (a) (ev (hd.1 rfl)) (ev (hd.2.1 rfl)) (by omega) ⟨rfl, rfl⟩
  · intro u w hR hd; exact runs_mva (ev (hd.1 rfl)) ⟨rfl, rfl⟩
  intro u h
  have he : u 10 = .pointer (some ⟨B, 1 + a, none⟩) := h 6 (by decide)
  simp only [mixA, mixL, zz9, zz0]
  rw [he]
  clear h he x1
  generalize hV : V.drew = V2
  replace bx : Blk w.heap.size (cdv ⟨5, a, b, d, i⟩) 72 V2 := by subst hV; exact bx.grew (Grew.refl _).drw
  replace hP : Pf CPT N B q S s W w V2 := by subst hV; exact hP.grew (Grew.refl _).drw
  replace HE : Hid (EnvN N V2) := Lib.hid (by subst hV; exact HE.out.grew (Grew.refl _).drw)
  clear hV
  have x0 : V2.cell? ⟨w.heap.size, 0, none⟩ = some (.int .i64 5) := bx.cell 0
  have x1 : V2.cell? ⟨w.heap.size, 1, none⟩ = some (.int .i64 (a : Int)) := bx.cell 1
  have x2 : V2.cell? ⟨w.heap.size, 2, none⟩ = some (.int .i64 (b : Int)) := bx.cell 2
  have x3 : V2.cell? ⟨w.heap.size, 3, none⟩ = some (.int .i64 (d : Int)) := bx.cell 3
  have x4 : V2.cell? ⟨w.heap.size, 4, none⟩ = some (.int .i16 i) := bx.cell 4
  have s0 : V2.cell? ⟨B, 0, none⟩ = some (.int .i64 s.pc) := hP.cpu.cell 0
  have sf := hP.cpu.free
  go_upto_region 14 with fail
  clear x0 x1 x2 x3 x4 s0 sf
  have x0 : Atv ⟨w.heap.size, 0, none⟩ (.int .i64 5) (V2.drew) := (bx.grew (Grew.refl _).drw).atv 0 rfl
  have x2 : Atv ⟨w.heap.size, 2, none⟩ (.int .i64 (b : Int)) (V2.drew) := (bx.grew (Grew.refl _).drw).atv 2 rfl
  have rb : Atv ⟨B, 1 + b, none⟩ (.int .i16 (s.reg b)) (V2.drew) := (hP.cpu.grew (Grew.refl _).drw).atv (1 + b) (stv_at HS.out (by omega))
  have ti : Atv ⟨0, 11, none⟩ (.int .i64 2) V2.drew := (HE.out.grew (Grew.refl _).drw).ins.cell 5 (by decide) 1 rfl
  refine wp_sides [16] 18 [some 53, some 54, some 55, some 56, some 57, some 58, some 59, some 60, some 61, some 62, some 63, some 64, some 65, some 66, some 52, some 67, some 68, some 69] zD2 [fun v _ => v = .pointer (some ⟨B, 1 + a, none⟩), fun v _ => v = .pointer (some ⟨w.heap.size, 0, none⟩), fun v _ => v = .int .i64 (5), fun v _ => v = .pointer (some ⟨0, 10, none⟩), fun v _ => v = .pointer (some ⟨0, 11, none⟩), fun v _ => v = .int .i64 (2), fun v _ => v = .pointer (some ⟨B, 0, none⟩), fun v _ => v = .pointer (some ⟨w.heap.size, 2, none⟩), fun v _ => v = .int .i64 (((b : Nat) : Int)), fun v _ => v = .pointer (some ⟨B, 0, none⟩), fun v _ => v = .pointer (some ⟨B, 1, none⟩), fun v _ => v = .pointer (some ⟨B, 1 + b, none⟩), fun v _ => v = .int .i16 (s.reg b), fun v _ => v = .tuple #[.int .i16 (unv 2 (s.reg b)), .int .i64 (0)], fun v _ => v = .tuple #[.int .i16 (unv 2 (s.reg b)), .int .i64 (0)], fun v _ => v = .int .i16 (unv 2 (s.reg b)), fun v _ => v = .int .i64 (0), fun v _ => v = .pointer (some ⟨B, 1 + a, none⟩)] (by kernel_rfl) (by kernel_rfl) (by kernel_rfl) (by kernel_rfl) (by kernel_rfl) (fun d _ _ _ _ h => by cases d <;> exact h) rfl ?_ ⟨fun u w hR hd => ⟨.int .i64 (0), fun w1 => run_ext (ev (hd.1 rfl)) rfl, rfl⟩, trivial⟩ ⟨?_, ?_, ?_, ?_, ?_, ?_, ?_, ?_, ?_, ?_, ?_, ?_, ?_, ?_, ?_, ?_, ?_, ?_, trivial⟩ ?_
  · exact ⟨fun _ _ _ _ h => h, fun _ _ _ _ h => h, fun _ _ _ _ h => h, fun _ _ _ _ h => h, fun _ _ _ _ h => h, fun _ _ _ _ h => h, fun _ _ _ _ h => h, fun _ _ _ _ h => h, fun _ _ _ _ h => h, fun _ _ _ _ h => h, fun _ _ _ _ h => h, fun _ _ _ _ h => h, fun _ _ _ _ h => h, fun _ _ _ _ h => h, fun _ _ _ _ h => h, fun _ _ _ _ h => h, fun _ _ _ _ h => h, fun _ _ _ _ h => h, trivial⟩
  · intro u w hR hd; exact runs_mv (ev rfl) ⟨Grew.refl _, rfl⟩
  · intro u w hR hd; exact rn_fld_72_0 (ev rfl) ⟨Grew.refl _, rfl⟩
  · intro u w hR hd; exact rn_ld_3 (ev (hd.1 rfl)) (x0.kept hR) ⟨Grew.refl _, rfl⟩
  · intro u w hR hd; exact rn_idxa_109 (5) rfl (ev (hd.1 rfl)) (by omega) ⟨Grew.refl _, rfl⟩
  · intro u w hR hd; exact rn_fld_108_1 (ev (hd.1 rfl)) ⟨Grew.refl _, rfl⟩
  · intro u w hR hd; exact rn_ld_3 (ev (hd.1 rfl)) (ti.kept hR) ⟨Grew.refl _, rfl⟩
  · intro u w hR hd; exact runs_mv (ev rfl) ⟨Grew.refl _, rfl⟩
  · intro u w hR hd; exact rn_fld_72_2 (ev rfl) ⟨Grew.refl _, rfl⟩
  · intro u w hR hd; exact rn_ld_3 (ev (hd.1 rfl)) (x2.kept hR) ⟨Grew.refl _, rfl⟩
  · intro u w hR hd; exact rn_nil (ev (hd.1 rfl)) ⟨Grew.refl _, rfl⟩
  · intro u w hR hd; exact rn_fld_43_1 (ev (hd.1 rfl)) ⟨Grew.refl _, rfl⟩
  · intro u w hR hd; exact rn_idxa_30 (b) (ev (hd.1 rfl)) (ev (hd.2.1 rfl)) (by omega) ⟨Grew.refl _, rfl⟩
  · intro u w hR hd; exact rn_ld_29 (ev (hd.1 rfl)) (rb.kept hR) ⟨Grew.refl _, rfl⟩
  · intro u w hR hd; exact runs_c2 en_un (ev (hd.1 rfl)) (ev (hd.2.1 rfl)) (callp (fun _ e => e) (unary_g2 (s.reg b) _))
  · intro u w hR hd; exact runs_mv (ev (hd.1 rfl)) ⟨Grew.refl _, rfl⟩
  · intro u w hR hd; exact rn_ext (ev (hd.1 rfl)) rfl ⟨Grew.refl _, rfl⟩
  · intro u w hR hd; exact rn_ext (ev (hd.1 rfl)) rfl ⟨Grew.refl _, rfl⟩
  · intro u w hR hd; exact rn_nil (ev (hd.1 rfl)) ⟨Grew.refl _, rfl⟩
  · intro u w9 hR h
    have e1 : u 69 = .pointer (some ⟨B, 1 + a, none⟩) := h 17 (by decide)
    have e2 : u 67 = .int .i16 (unv 2 (s.reg b)) := h 15 (by decide)
    replace hP := hP.grew ((Grew.refl V2).drw.trans hR)
    replace bx : Blk w.heap.size (cdv ⟨5, a, b, d, i⟩) 72 (w9) := bx.grew ((Grew.refl V2).drw.trans hR)
    have c9 : (w9).cell? ⟨B, 1 + a, none⟩ = some (.int .i16 (s.reg a)) := by rw [hP.cpu.cell]; exact stv_at HS.out (by omega)
    have f9 := hP.cpu.free (1 + a)
    refine wpAny_one (i := 18) none (by kernel_rfl) rfl rfl rfl (rn_st_29 (ev e1) (ev e2) c9 f9 ?_)
    refine wpAny_done (by kernel_rfl) ?_ _
    simp only [Act.put, mixA, mixL, zz9, zz0, zz4, zz6, zz5]
    generalize hW : World.setCell _ _ _ = V3
    replace hP : Pf CPT N B q S (s.to a (unv 2 (s.reg b)) s.pc) W w V3 := hW ▸ hP.set a _
    clear hW h e1 e2 c9 f9 rb ti x0 x2 hR bx
    have s0 : V3.cell? ⟨B, 0, none⟩ = some (.int .i64 s.pc) := hP.cpu.cell 0
    have sf := hP.cpu.free
    go_wp2
    go_ret
    exact ⟨rfl, hP.pc (s.pc + 1)⟩
set_option maxHeartbeats 4000000 in
theorem perf_6 (a b d : Nat) (ha : a < 8) (hb : b < 8) (hd : d < 8) (i n : Int) (N B q : Nat) (S : Nat → Prop) (s : St) (W : Wd) (w : World) (hcb : Blk B (stv s) CPT w) (hbus : Bus N w q W S) (hE : EnvN N w) (hs : s.Ok) (hl : W.cs.length ≤ 90000) (hN : N ≤ w.heap.size) (hNB : N ≤ B) (hp : -9223372036854775808 ≤ s.pc ∧ s.pc < 9223372036854775807) :
    Calls Tryd.prog 56 #[.pointer (some ⟨B, 0, none⟩), cdV ⟨6, a, b, d, i⟩, .int .i64 n, (.iface 47 (.pointer (some ⟨q, 0, none⟩)))] w fun e w' => e = .returned (.bool (perf ⟨6, a, b, d, i⟩ n s W).1) ∧ Pf CPT N B q S (perf ⟨6, a, b, d, i⟩ n s W).2.1 (perf ⟨6, a, b, d, i⟩ n s W).2.2 w w' := by
  rw [show perf ⟨6, a, b, d, i⟩ n s W = (true, s.to a (binv 3 (s.reg b) (s.reg d)) (s.pc + 1), W) from rfl]
  have HS := Lib.hid hs
  have HL : Hid (W.cs.length ≤ 100000) := Lib.hid (by omega)
  have HN := Lib.hid hN
  have hP := Pf.start hcb hbus
  obtain ⟨p0, p1⟩ := hp
  have HE := Lib.hid hE
  have hBl := hcb.lt
  clear hs hl hN hcb hE hbus hNB
  go_enter Tryd.func56, Tryd.ntmps56
  go_wp2
  generalize hV : World.alloc _ _ = V
  have bx : Blk w.heap.size (cdv ⟨6, a, b, d, i⟩) 72 V := by subst hV; exact Blk.new w (cdv ⟨6, a, b, d, i⟩) _
  have hg : Grew w V := by subst hV; exact (Grew.refl _).alloc _
  clear hV
  replace hP := hP.grew hg
  replace HE := Lib.hid (HE.out.grew hg)
  clear hg
  have x1 : Atv ⟨w.heap.size, 1, none⟩ (.int .i64 (a : Int)) (V.drew) := (bx.grew (Grew.refl _).drw).atv 1 rfl
  refine wp_still [some 12, some 13, some 14, some 15, some 16, some 17, some 10] zD6 [fun v _ => v = .pointer (some ⟨B, 0, none⟩), fun v _ => v = .pointer (some ⟨w.heap.size, 1, none⟩), fun v _ => v = .int .i64 (((a : Nat) : Int)), fun v _ => v = .pointer (some ⟨B, 0, none⟩), fun v _ => v = .pointer (some ⟨B, 1, none⟩), fun v _ => v = .pointer (some ⟨B, 1 + a, none⟩), fun v _ => v = .pointer (some ⟨B, 1 + a, none⟩)] (by kernel_rfl) (by kernel_rfl) rfl ⟨?_, ?_, ?_, ?_, ?_, ?_, ?_, trivial⟩ ?_
  · intro u w hR hd; exact runs_mv (ev rfl) ⟨rfl, rfl⟩
  · intro u w hR hd; exact rn_fld_72_1 (ev rfl) ⟨rfl, rfl⟩
  · intro u w hR hd; exact rn_ld_3 (ev (hd.1 rfl)) (x1.kept hR) ⟨rfl, rfl⟩
  · intro u w hR hd; exact rn_nil (ev (hd.1 rfl)) ⟨rfl, rfl⟩
  · intro u w hR hd; exact rn_fld_43_1 (ev (hd.1 rfl)) ⟨rfl, rfl⟩
  · intro u w hR hd; exact rn_idxa_30 (a) (ev (hd.1 rfl)) (ev (hd.2.1 rfl)) (by omega) ⟨rfl, rfl⟩
  · intro u w hR hd; exact runs_mva (ev (hd.1 rfl)) ⟨rfl, rfl⟩
  intro u h
  have he : u 10 = .pointer (some ⟨B, 1 + a, none⟩) := h 6 (by decide)
  simp only [mixA, mixL, zz9, zz0]
  rw [he]
  clear h he x1
  generalize hV : V.drew = V2
  replace bx : Blk w.heap.size (cdv ⟨6, a, b, d, i⟩) 72 V2 := by subst hV; exact bx.grew (Grew.refl _).drw
  replace hP : Pf CPT N B q S s W w V2 := by subst hV; exact hP.grew (Grew.refl _).drw
  replace HE : Hid (EnvN N V2) := Lib.hid (by subst hV; exact HE.out.grew (Grew.refl _).drw)
  clear hV
  have x0 : V2.cell? ⟨w.heap.size, 0, none⟩ = some (.int .i64 6) := bx.cell 0
  have x1 : V2.cell? ⟨w.heap.size, 1, none⟩ = some (.int .i64 (a : Int)) := bx.cell 1
  have x2 : V2.cell? ⟨w.heap.size, 2, none⟩ = some (.int .i64 (b : Int)) := bx.cell 2
  have x3 : V2.cell? ⟨w.heap.size, 3, none⟩ = some (.int .i64 (d : Int)) := bx.cell 3
  have x4 : V2.cell? ⟨w.heap.size, 4, none⟩ = some (.int .i16 i) := bx.cell 4
  have s0 : V2.cell? ⟨B, 0, none⟩ = some (.int .i64 s.pc) := hP.cpu.cell 0
  have sf := hP.cpu.free
  go_upto_region 23 with fail
  clear x0 x1 x2 x3 x4 s0 sf
  have x0 : Atv ⟨w.heap.size, 0, none⟩ (.int .i64 6) (V2.drew) := (bx.grew (Grew.refl _).drw).atv 0 rfl
  have x2 : Atv ⟨w.heap.size, 2, none⟩ (.int .i64 (b : Int)) (V2.drew) := (bx.grew (Grew.refl _).drw).atv 2 rfl
  have x3 : Atv ⟨w.heap.size, 3, none⟩ (.int .i64 (d : Int)) (V2.drew) := (bx.grew (Grew.refl _).drw).atv 3 rfl
  have rb : Atv ⟨B, 1 + b, none⟩ (.int .i16 (s.reg b)) (V2.drew) := (hP.cpu.grew (Grew.refl _).drw).atv (1 + b) (stv_at HS.out (by omega))
  have rd : Atv ⟨B, 1 + d, none⟩ (.int .i16 (s.reg d)) (V2.drew) := (hP.cpu.grew (Grew.refl _).drw).atv (1 + d) (stv_at HS.out (by omega))
  have ti : Atv ⟨0, 13, none⟩ (.int .i64 3) V2.drew := (HE.out.grew (Grew.refl _).drw).ins.cell 6 (by decide) 1 rfl
  refine wp_sides [23] 25 [some 80, some 81, some 82, some 83, some 84, some 85, some 86, some 87, some 88, some 89, some 90, some 91, some 92, some 93, some 94, some 95, some 96, some 97, some 98, some 99, some 100, some 79, some 101, some 102, some 103] zD1 [fun v _ => v = .pointer (some ⟨B, 1 + a, none⟩), fun v _ => v = .pointer (some ⟨w.heap.size, 0, none⟩), fun v _ => v = .int .i64 (6), fun v _ => v = .pointer (some ⟨0, 12, none⟩), fun v _ => v = .pointer (some ⟨0, 13, none⟩), fun v _ => v = .int .i64 (3), fun v _ => v = .pointer (some ⟨B, 0, none⟩), fun v _ => v = .pointer (some ⟨w.heap.size, 2, none⟩), fun v _ => v = .int .i64 (((b : Nat) : Int)), fun v _ => v = .pointer (some ⟨B, 0, none⟩), fun v _ => v = .pointer (some ⟨B, 1, none⟩), fun v _ => v = .pointer (some ⟨B, 1 + b, none⟩), fun v _ => v = .int .i16 (s.reg b), fun v _ => v = .pointer (some ⟨B, 0, none⟩), fun v _ => v = .pointer (some ⟨w.heap.size, 3, none⟩), fun v _ => v = .int .i64 (((d : Nat) : Int)), fun v _ => v = .pointer (some ⟨B, 0, none⟩), fun v _ => v = .pointer (some ⟨B, 1, none⟩), fun v _ => v = .pointer (some ⟨B, 1 + d, none⟩), fun v _ => v = .int .i16 (s.reg d), fun v _ => v = .tuple #[.int .i16 (binv 3 (s.reg b) (s.reg d)), .int .i64 (0)], fun v _ => v = .tuple #[.int .i16 (binv 3 (s.reg b) (s.reg d)), .int .i64 (0)], fun v _ => v = .int .i16 (binv 3 (s.reg b) (s.reg d)), fun v _ => v = .int .i64 (0), fun v _ => v = .pointer (some ⟨B, 1 + a, none⟩)] (by kernel_rfl) (by kernel_rfl) (by kernel_rfl) (by kernel_rfl) (by kernel_rfl) (fun d _ _ _ _ h => by cases d <;> exact h) rfl ?_ ⟨fun u w hR hd => ⟨.int .i64 (0), fun w1 => run_ext (ev (hd.1 rfl)) rfl, rfl⟩, trivial⟩ ⟨?_, ?_, ?_, ?_, ?_, ?_, ?_, ?_, ?_, ?_, ?_, ?_, ?_, ?_, ?_, ?_, ?_, ?_, ?_, ?_, ?_, ?_, ?_, ?_, ?_, trivial⟩ ?_
  · exact ⟨fun _ _ _ _ h => h, fun _ _ _ _ h => h, fun _ _ _ _ h => h, fun _ _ _ _ h => h, fun _ _ _ _ h => h, fun _ _ _ _ h => h, fun _ _ _ _ h => h, fun _ _ _ _ h => h, fun _ _ _ _ h => h, fun _ _ _ _ h => h, fun _ _ _ _ h => h, fun _ _ _ _ h => h, fun _ _ _ _ h => h, fun _ _ _ _ h => h, fun _ _ _ _ h => h, fun _ _ _ _ h => h, fun _ _ _ _ h => h, fun _ _ _ _ h => h, fun _ _ _ _ h => h, fun _ _ _ _ h => h, fun _ _ _ _ h => h, fun _ _ _ _ h => h, fun _ _ _ _ h => h, fun _ _ _ _ h => h, fun _ _ _ _ h => h, trivial⟩
  · intro u w hR hd; exact runs_mv (ev rfl) ⟨Grew.refl _, rfl⟩
  · intro u w hR hd; exact rn_fld_72_0 (ev rfl) ⟨Grew.refl _, rfl⟩
  · intro u w hR hd; exact rn_ld_3 (ev (hd.1 rfl)) (x0.kept hR) ⟨Grew.refl _, rfl⟩
  · intro u w hR hd; exact rn_idxa_109 (6) rfl (ev (hd.1 rfl)) (by omega) ⟨Grew.refl _, rfl⟩
  · intro u w hR hd; exact rn_fld_108_1 (ev (hd.1 rfl)) ⟨Grew.refl _, rfl⟩
  · intro u w hR hd; exact rn_ld_3 (ev (hd.1 rfl)) (ti.kept hR) ⟨Grew.refl _, rfl⟩
  · intro u w hR hd; exact runs_mv (ev rfl) ⟨Grew.refl _, rfl⟩
  · intro u w hR hd; exact rn_fld_72_2 (ev rfl) ⟨Grew.refl _, rfl⟩
  · intro u w hR hd; exact rn_ld_3 (ev (hd.1 rfl)) (x2.kept hR) ⟨Grew.refl _, rfl⟩
  · intro u w hR hd; exact rn_nil (ev (hd.1 rfl)) ⟨Grew.refl _, rfl⟩
  · intro u w hR hd; exact rn_fld_43_1 (ev (hd.1 rfl)) ⟨Grew.refl _, rfl⟩
  · intro u w hR hd; exact rn_idxa_30 (b) (ev (hd.1 rfl)) (ev (hd.2.1 rfl)) (by omega) ⟨Grew.refl _, rfl⟩
  · intro u w hR hd; exact rn_ld_29 (ev (hd.1 rfl)) (rb.kept hR) ⟨Grew.refl _, rfl⟩
  · intro u w hR hd; exact runs_mv (ev rfl) ⟨Grew.refl _, rfl⟩
  · intro u w hR hd; exact rn_fld_72_3 (ev rfl) ⟨Grew.refl _, rfl⟩
  · intro u w hR hd; exact rn_ld_3 (ev (hd.1 rfl)) (x3.kept hR) ⟨Grew.refl _, rfl⟩
  · intro u w hR hd; exact rn_nil (ev (hd.1 rfl)) ⟨Grew.refl _, rfl⟩
  · intro u w hR hd; exact rn_fld_43_1 (ev (hd.1 rfl)) ⟨Grew.refl _, rfl⟩
  · intro u w hR hd; exact rn_idxa_30 (d) (ev (hd.1 rfl)) (ev (hd.2.1 rfl)) (by omega) ⟨Grew.refl _, rfl⟩
  · intro u w hR hd; exact rn_ld_29 (ev (hd.1 rfl)) (rd.kept hR) ⟨Grew.refl _, rfl⟩
  · intro u w hR hd; exact runs_c3 en_bi (ev (hd.1 rfl)) (ev (hd.2.1 rfl)) (ev (hd.2.2.1 rfl)) (callp (fun _ e => e) (binary_g3 (s.reg b) (s.reg d) _))
  · intro u w hR hd; exact runs_mv (ev (hd.1 rfl)) ⟨Grew.refl _, rfl⟩
  · intro u w hR hd; exact rn_ext (ev (hd.1 rfl)) rfl ⟨Grew.refl _, rfl⟩
  · intro u w hR hd; exact rn_ext (ev (hd.1 rfl)) rfl ⟨Grew.refl _, rfl⟩
  · intro u w hR hd; exact rn_nil (ev (hd.1 rfl)) ⟨Grew.refl _, rfl⟩
  · intro u w9 hR h
    have e1 : u 103 = .pointer (some ⟨B, 1 + a, none⟩) := h 24 (by decide)
    have e2 : u 101 = .int .i16 (binv 3 (s.reg b) (s.reg d)) := h 22 (by decide)
    replace hP := hP.grew ((Grew.refl V2).drw.trans hR)
    replace bx : Blk w.heap.size (cdv ⟨6, a, b, d, i⟩) 72 (w9) := bx.grew ((Grew.refl V2).drw.trans hR)
    have c9 : (w9).cell? ⟨B, 1 + a, none⟩ = some (.int .i16 (s.reg a)) := by rw [hP.cpu.cell]; exact stv_at HS.out (by omega)
    have f9 := hP.cpu.free (1 + a)
    refine wpAny_one (i := 25) none (by kernel_rfl) rfl rfl rfl (rn_st_29 (ev e1) (ev e2) c9 f9 ?_)
    refine wpAny_done (by kernel_rfl) ?_ _
    simp only [Act.put, mixA, mixL, zz9, zz0, zz4, zz6, zz5]
    generalize hW : World.setCell _ _ _ = V3
    replace hP : Pf CPT N B q S (s.to a (binv 3 (s.reg b) (s.reg d)) s.pc) W w V3 := hW ▸ hP.set a _
    clear hW h e1 e2 c9 f9 rb rd ti x0 x2 x3 hR bx
    have s0 : V3.cell? ⟨B, 0, none⟩ = some (.int .i64 s.pc) := hP.cpu.cell 0
    have sf := hP.cpu.free
    go_wp2
    go_ret
    exact ⟨rfl, hP.pc (s.pc + 1)⟩
set_option maxHeartbeats 4000000 in
theorem perf_7 (a b d : Nat) (ha : a < 8) (hb : b < 8) (hd : d < 8) (i n : Int) (N B q : Nat) (S : Nat → Prop) (s : St) (W : Wd) (w : World) (hcb : Blk B (stv s) CPT w) (hbus : Bus N w q W S) (hE : EnvN N w) (hs : s.Ok) (hl : W.cs.length ≤ 90000) (hN : N ≤ w.heap.size) (hNB : N ≤ B) (hp : -9223372036854775808 ≤ s.pc ∧ s.pc < 9223372036854775807) :
    Calls Tryd.prog 56 #[.pointer (some ⟨B, 0, none⟩), cdV ⟨7, a, b, d, i⟩, .int .i64 n, (.iface 47 (.pointer (some ⟨q, 0, none⟩)))] w fun e w' => e = .returned (.bool (perf ⟨7, a, b, d, i⟩ n s W).1) ∧ Pf CPT N B q S (perf ⟨7, a, b, d, i⟩ n s W).2.1 (perf ⟨7, a, b, d, i⟩ n s W).2.2 w w' := by
  rw [show perf ⟨7, a, b, d, i⟩ n s W = (true, s.to a (binv 4 (s.reg b) (s.reg d)) (s.pc + 1), W) from rfl]
  have HS := Lib.hid hs
  have HL : Hid (W.cs.length ≤ 100000) := Lib.hid (by omega)
  have HN := Lib.hid hN
  have hP := Pf.start hcb hbus
  obtain ⟨p0, p1⟩ := hp
  have HE := Lib.hid hE
  have hBl := hcb.lt
  clear hs hl hN hcb hE hbus hNB
  go_enter Tryd.func56, Tryd.ntmps56
  go_wp2
  generalize hV : World.alloc _ _ = V
  have bx : Blk w.heap.size (cdv ⟨7, a, b, d, i⟩) 72 V := by subst hV; exact Blk.new w (cdv ⟨7, a, b, d, i⟩) _
  have hg : Grew w V := by subst hV; exact (Grew.refl _).alloc _
  clear hV
  replace hP := hP.grew hg
  replace HE := Lib.hid (HE.out.grew hg)
  clear hg
  have x1 : Atv ⟨w.heap.size, 1, none⟩ (.int .i64 (a : Int)) (V.drew) := (bx.grew (Grew.refl _).drw).atv 1 rfl
  refine wp_still [some 12, some 13, some 14, some 15, some 16, some 17, some 10] zD6 [fun v _ => v = .pointer (some ⟨B, 0, none⟩), fun v _ => v = .pointer (some ⟨w.heap.size, 1, none⟩), fun v _ => v = .int .i64 (((a : Nat) : Int)), fun v _ => v = .pointer (some ⟨B, 0, none⟩), fun v _ => v = .pointer (some ⟨B, 1, none⟩), fun v _ => v = .pointer (some ⟨B, 1 + a, none⟩), fun v _ => v = .pointer (some ⟨B, 1 + a, none⟩)] (by kernel_rfl) (by kernel_rfl) rfl ⟨?_, ?_, ?_, ?_, ?_, ?_, ?_, trivial⟩ ?_
  · intro u w hR hd; exact runs_mv (ev rfl) ⟨rfl, rfl⟩
  · intro u w hR hd; exact rn_fld_72_1 (ev rfl) ⟨rfl, rfl⟩
  · intro u w hR hd; exact rn_ld_3 (ev (hd.1 rfl)) (x1.kept hR) ⟨rfl, rfl⟩
  · intro u w hR hd; exact rn_nil (ev (hd.1 rfl)) ⟨rfl, rfl⟩
  · intro u w hR hd; exact rn_fld_43_1 (ev (hd.1 rfl)) ⟨rfl, rfl⟩
  · intro u w hR hd; exact rn_idxa_30 (a) (ev (hd.1 rfl)) (ev (hd.2.1 rfl)) (by omega) ⟨rfl, rfl⟩
  · intro u w hR hd; exact runs_mva (ev (hd.1 rfl)) ⟨rfl, rfl⟩
  intro u h
  have he : u 10 = .pointer (some ⟨B, 1 + a, none⟩) := h 6 (by decide)
  simp only [mixA, mixL, zz9, zz0]
  rw [he]
  clear h he x1
  generalize hV : V.drew = V2
  replace bx : Blk w.heap.size (cdv ⟨7, a, b, d, i⟩) 72 V2 := by subst hV; exact bx.grew (Grew.refl _).drw
  replace hP : Pf CPT N B q S s W w V2 := by subst hV; exact hP.grew (Grew.refl _).drw
  replace HE : Hid (EnvN N V2) := Lib.hid (by subst hV; exact HE.out.grew (Grew.refl _).drw)
  clear hV
  have x0 : V2.cell? ⟨w.heap.size, 0, none⟩ = some (.int .i64 7) := bx.cell 0
  have x1 : V2.cell? ⟨w.heap.size, 1, none⟩ = some (.int .i64 (a : Int)) := bx.cell 1
  have x2 : V2.cell? ⟨w.heap.size, 2, none⟩ = some (.int .i64 (b : Int)) := bx.cell 2
  have x3 : V2.cell? ⟨w.heap.size, 3, none⟩ = some (.int .i64 (d : Int)) := bx.cell 3
  have x4 : V2.cell? ⟨w.heap.size, 4, none⟩ = some (.int .i16 i) := bx.cell 4
  have s0 : V2.cell? ⟨B, 0, none⟩ = some (.int .i64 s.pc) := hP.cpu.cell 0
  have sf := hP.cpu.free
  go_upto_region 23 with fail
  clear x0 x1 x2 x3 x4 s0 sf
  have x0 : Atv ⟨w.heap.size, 0, none⟩ (.int .i64 7) (V2.drew) := (bx.grew (Grew.refl _).drw).atv 0 rfl
  have x2 : Atv ⟨w.heap.size, 2, none⟩ (.int .i64 (b : Int)) (V2.drew) := (bx.grew (Grew.refl _).drw).atv 2 rfl
  have x3 : Atv ⟨w.heap.size, 3, none⟩ (.int .i64 (d : Int)) (V2.drew) := (bx.grew (Grew.refl _).drw).atv 3 rfl
  have rb : Atv ⟨B, 1 + b, none⟩ (.int .i16 (s.reg b)) (V2.drew) := (hP.cpu.grew (Grew.refl _).drw).atv (1 + b) (stv_at HS.out (by omega))
  have rd : Atv ⟨B, 1 + d, none⟩ (.int .i16 (s.reg d)) (V2.drew) := (hP.cpu.grew (Grew.refl _).drw).atv (1 + d) (stv_at HS.out (by omega))
  have ti : Atv ⟨0, 15, none⟩ (.int .i64 4) V2.drew := (HE.out.grew (Grew.refl _).drw).ins.cell 7 (by decide) 1 rfl
  refine wp_sides [23] 25 [some 80, some 81, some 82, some 83, some 84, some 85, some 86, some 87, some 88, some 89, some 90, some 91, some 92, some 93, some 94, some 95, some 96, some 97, some 98, some 99, some 100, some 79, some 101, some 102, some 103] zD1 [fun v _ => v = .pointer (some ⟨B, 1 + a, none⟩), fun v _ => v = .pointer (some ⟨w.heap.size, 0, none⟩), fun v _ => v = .int .i64 (7), fun v _ => v = .pointer (some ⟨0, 14, none⟩), fun v _ => v = .pointer (some ⟨0, 15, none⟩), fun v _ => v = .int .i64 (4), fun v _ => v = .pointer (some ⟨B, 0, none⟩), fun v _ => v = .pointer (some ⟨w.heap.size, 2, none⟩), fun v _ => v = .int .i64 (((b : Nat) : Int)), fun v _ => v = .pointer (some ⟨B, 0, none⟩), fun v _ => v = .pointer (some ⟨B, 1, none⟩), fun v _ => v = .pointer (some ⟨B, 1 + b, none⟩), fun v _ => v = .int .i16 (s.reg b), fun v _ => v = .pointer (some ⟨B, 0, none⟩), fun v _ => v = .pointer (some ⟨w.heap.size, 3, none⟩), fun v _ => v = .int .i64 (((d : Nat) : Int)), fun v _ => v = .pointer (some ⟨B, 0, none⟩), fun v _ => v = .pointer (some ⟨B, 1, none⟩), fun v _ => v = .pointer (some ⟨B, 1 + d, none⟩), fun v _ => v = .int .i16 (s.reg d), fun v _ => v = .tuple #[.int .i16 (binv 4 (s.reg b) (s.reg d)), .int .i64 (0)], fun v _ => v = .tuple #[.int .i16 (binv 4 (s.reg b) (s.reg d)), .int .i64 (0)], fun v _ => v = .int .i16 (binv 4 (s.reg b) (s.reg d)), fun v _ => v = .int .i64 (0), fun v _ => v = .pointer (some ⟨B, 1 + a, none⟩)] (by kernel_rfl) (by kernel_rfl) (by kernel_rfl) (by kernel_rfl) (by kernel_rfl) (fun d _ _ _ _ h => by cases d <;> exact h) rfl ?_ ⟨fun u w hR hd => ⟨.int .i64 (0), fun w1 => run_ext (ev (hd.1 rfl)) rfl, rfl⟩, trivial⟩ ⟨?_, ?_, ?_, ?_, ?_, ?_, ?_, ?_, ?_, ?_, ?_, ?_, ?_, ?_, ?_, ?_, ?_, ?_, ?_, ?_, ?_, ?_, ?_, ?_, ?_, trivial⟩ ?_
  · exact ⟨fun _ _ _ _ h => h, fun _ _ _ _ h => h, fun _ _ _ _ h => h, fun _ _ _ _ h => h, fun _ _ _ _ h => h, fun _ _ _ _ h => h, fun _ _ _ _ h => h, fun _ _ _ _ h => h, fun _ _ _ _ h => h, fun _ _ _ _ h => h, fun _ _ _ _ h => h, fun _ _ _ _ h => h, fun _ _ _ _ h => h, fun _ _ _ _ h => h, fun _ _ _ _ h => h, fun _ _ _ _ h => h, fun _ _ _ _ h => h, fun _ _ _ _ h => h, fun _ _ _ _ h => h, fun _ _ _ _ h => h, fun _ _ _ _ h => h, fun _ _ _ _ h => h, fun _ _ _ _ h => h, fun _ _ _ _ h => h, fun _ _ _ _ h => h, trivial⟩
  · intro u w hR hd; exact runs_mv (ev rfl) ⟨Grew.refl _, rfl⟩
  · intro u w hR hd; exact rn_fld_72_0 (ev rfl) ⟨Grew.refl _, rfl⟩
  · intro u w hR hd; exact rn_ld_3 (ev (hd.1 rfl)) (x0.kept hR) ⟨Grew.refl _, rfl⟩
  · intro u w hR hd; exact rn_idxa_109 (7) rfl (ev (hd.1 rfl)) (by omega) ⟨Grew.refl _, rfl⟩
  · intro u w hR hd; exact rn_fld_108_1 (ev (hd.1 rfl)) ⟨Grew.refl _, rfl⟩
  · intro u w hR hd; exact rn_ld_3 (ev (hd.1 rfl)) (ti.kept hR) ⟨Grew.refl _, rfl⟩
  · intro u w hR hd; exact runs_mv (ev rfl) ⟨Grew.refl _, rfl⟩
  · intro u w hR hd; exact rn_fld_72_2 (ev rfl) ⟨Grew.refl _, rfl⟩
  · intro u w hR hd; exact rn_ld_3 (ev (hd.1 rfl)) (x2.kept hR) ⟨Grew.refl _, rfl⟩
  · intro u w hR hd; exact rn_nil (ev (hd.1 rfl)) ⟨Grew.refl _, rfl⟩
  · intro u w hR hd; exact rn_fld_43_1 (ev (hd.1 rfl)) ⟨Grew.refl _, rfl⟩
  · intro u w hR hd; exact rn_idxa_30 (b) (ev (hd.1 rfl)) (ev (hd.2.1 rfl)) (by omega) ⟨Grew.refl _, rfl⟩
  · intro u w hR hd; exact rn_ld_29 (ev (hd.1 rfl)) (rb.kept hR) ⟨Grew.refl _, rfl⟩
  · intro u w hR hd; exact runs_mv (ev rfl) ⟨Grew.refl _, rfl⟩
  · intro u w hR hd; exact rn_fld_72_3 (ev rfl) ⟨Grew.refl _, rfl⟩
  · intro u w hR hd; exact rn_ld_3 (ev (hd.1 rfl)) (x3.kept hR) ⟨Grew.refl _, rfl⟩
  · intro u w hR hd; exact rn_nil (ev (hd.1 rfl)) ⟨Grew.refl _, rfl⟩
  · intro u w hR hd; exact rn_fld_43_1 (ev (hd.1 rfl)) ⟨Grew.refl _, rfl⟩
  · intro u w hR hd; exact rn_idxa_30 (d) (ev (hd.1 rfl)) (ev (hd.2.1 rfl)) (by omega) ⟨Grew.refl _, rfl⟩
  · intro u w hR hd; exact rn_ld_29 (ev (hd.1 rfl)) (rd.kept hR) ⟨Grew.refl _, rfl⟩
  · intro u w hR hd; exact runs_c3 en_bi (ev (hd.1 rfl)) (ev (hd.2.1 rfl)) (ev (hd.2.2.1 rfl)) (callp (fun _ e => e) (binary_g4 (s.reg b) (s.reg d) _))
  · intro u w hR hd; exact runs_mv (ev (hd.1 rfl)) ⟨Grew.refl _, rfl⟩
  · intro u w hR hd; exact rn_ext (ev (hd.1 rfl)) rfl ⟨Grew.refl _, rfl⟩
  · intro u w hR hd; exact rn_ext (ev (hd.1 rfl)) rfl ⟨Grew.refl _, rfl⟩
  · intro u w hR hd; exact rn_nil (ev (hd.1 rfl)) ⟨Grew.refl _, rfl⟩
  · intro u w9 hR h
    have e1 : u 103 = .pointer (some ⟨B, 1 + a, none⟩) := h 24 (by decide)
    have e2 : u 101 = .int .i16 (binv 4 (s.reg b) (s.reg d)) := h 22 (by decide)
    replace hP := hP.grew ((Grew.refl V2).drw.trans hR)
    replace bx : Blk w.heap.size (cdv ⟨7, a, b, d, i⟩) 72 (w9) := bx.grew ((Grew.refl V2).drw.trans hR)
    have c9 : (w9).cell? ⟨B, 1 + a, none⟩ = some (.int .i16 (s.reg a)) := by rw [hP.cpu.cell]; exact stv_at HS.out (by omega)
    have f9 := hP.cpu.free (1 + a)
    refine wpAny_one (i := 25) none (by kernel_rfl) rfl rfl rfl (rn_st_29 (ev e1) (ev e2) c9 f9 ?_)
    refine wpAny_done (by kernel_rfl) ?_ _
    simp only [Act.put, mixA, mixL, zz9, zz0, zz4, zz6, zz5]
    generalize hW : World.setCell _ _ _ = V3
    replace hP : Pf CPT N B q S (s.to a (binv 4 (s.reg b) (s.reg d)) s.pc) W w V3 := hW ▸ hP.set a _
    clear hW h e1 e2 c9 f9 rb rd ti x0 x2 x3 hR bx
    have s0 : V3.cell? ⟨B, 0, none⟩ = some (.int .i64 s.pc) := hP.cpu.cell 0
    have sf := hP.cpu.free
    go_wp2
    go_ret
    exact ⟨rfl, hP.pc (s.pc + 1)⟩
set_option maxHeartbeats 4000000 in
theorem perf_8 (a b d : Nat) (ha : a < 8) (hb : b < 8) (hd : d < 8) (i n : Int) (N B q : Nat) (S : Nat → Prop) (s : St) (W : Wd) (w : World) (hcb : Blk B (stv s) CPT w) (hbus : Bus N w q W S) (hE : EnvN N w) (hs : s.Ok) (hl : W.cs.length ≤ 90000) (hN : N ≤ w.heap.size) (hNB : N ≤ B) (hp : -9223372036854775808 ≤ s.pc ∧ s.pc < 9223372036854775807) :
    Calls Tryd.prog 56 #[.pointer (some ⟨B, 0, none⟩), cdV ⟨8, a, b, d, i⟩, .int .i64 n, (.iface 47 (.pointer (some ⟨q, 0, none⟩)))] w fun e w' => e = .returned (.bool (perf ⟨8, a, b, d, i⟩ n s W).1) ∧ Pf CPT N B q S (perf ⟨8, a, b, d, i⟩ n s W).2.1 (perf ⟨8, a, b, d, i⟩ n s W).2.2 w w' := by
  rw [show perf ⟨8, a, b, d, i⟩ n s W = (true, s.to a (binv 5 (s.reg b) (s.reg d)) (s.pc + 1), W) from rfl]
  have HS := Lib.hid hs
  have HL : Hid (W.cs.length ≤ 100000) := Lib.hid (by omega)
  have HN := Lib.hid hN
  have hP := Pf.start hcb hbus
  obtain ⟨p0, p1⟩ := hp
  have HE := Lib.hid hE
  have hBl := hcb.lt
  clear hs hl hN hcb hE hbus hNB
  go_enter Tryd.func56, Tryd.ntmps56
  go_wp2
  generalize hV : World.alloc _ _ = V
  have bx : Blk w.heap.size (cdv ⟨8, a, b, d, i⟩) 72 V := by subst hV; exact Blk.new w (cdv ⟨8, a, b, d, i⟩) _
  have hg : Grew w V := by subst hV; exact (Grew.refl _).alloc _
  clear hV
  replace hP := hP.grew hg
  replace HE := Lib.hid (HE.out.grew hg)
  clear hg
  have x1 : Atv ⟨w.heap.size, 1, none⟩ (.int .i64 (a : Int)) (V.drew) := (bx.grew (Grew.refl _).drw).atv 1 rfl
  refine wp_still [some 12, some 13, some 14, some 15, some 16, some 17, some 10] zD6 [fun v _ => v = .pointer (some ⟨B, 0, none⟩), fun v _ => v = .pointer (some ⟨w.heap.size, 1, none⟩), fun v _ => v = .int .i64 (((a : Nat) : Int)), fun v _ => v = .pointer (some ⟨B, 0, none⟩), fun v _ => v = .pointer (some ⟨B, 1, none⟩), fun v _ => v = .pointer (some ⟨B, 1 + a, none⟩), fun v _ => v = .pointer (some ⟨B, 1 + a, none⟩)] (by kernel_rfl) (by kernel_rfl) rfl ⟨?_, ?_, ?_, ?_, ?_, ?_, ?_, trivial⟩ ?_
  · intro u w hR hd; exact runs_mv (ev rfl) ⟨rfl, rfl⟩
  · intro u w hR hd; exact rn_fld_72_1 (ev rfl) ⟨rfl, rfl⟩
  · intro u w hR hd; exact rn_ld_3 (ev (hd.1 rfl)) (x1.kept hR) ⟨rfl, rfl⟩
  · intro u w hR hd; exact rn_nil (ev (hd.1 rfl)) ⟨rfl, rfl⟩
  · intro u w hR hd; exact rn_fld_43_1 (ev (hd.1 rfl)) ⟨rfl, rfl⟩
  · intro u w hR hd; exact rn_idxa_30 (a) (ev (hd.1 rfl)) (ev (hd.2.1 rfl)) (by omega) ⟨rfl, rfl⟩
  · intro u w hR hd; exact runs_mva (ev (hd.1 rfl)) ⟨rfl, rfl⟩
  intro u h
  have he : u 10 = .pointer (some ⟨B, 1 + a, none⟩) := h 6 (by decide)
  simp only [mixA, mixL, zz9, zz0]
  rw [he]
  clear h he x1
  generalize hV : V.drew = V2
  replace bx : Blk w.heap.size (cdv ⟨8, a, b, d, i⟩) 72 V2 := by subst hV; exact bx.grew (Grew.refl _).drw
  replace hP : Pf CPT N B q S s W w V2 := by subst hV; exact hP.grew (Grew.refl _).drw
  replace HE : Hid (EnvN N V2) := Lib.hid (by subst hV; exact HE.out.grew (Grew.refl _).drw)
  clear hV
  have x0 : V2.cell? ⟨w.heap.size, 0, none⟩ = some (.int .i64 8) := bx.cell 0
  have x1 : V2.cell? ⟨w.heap.size, 1, none⟩ = some (.int .i64 (a : Int)) := bx.cell 1
  have x2 : V2.cell? ⟨w.heap.size, 2, none⟩ = some (.int .i64 (b : Int)) := bx.cell 2
  have x3 : V2.cell? ⟨w.heap.size, 3, none⟩ = some (.int .i64 (d : Int)) := bx.cell 3
  have x4 : V2.cell? ⟨w.heap.size, 4, none⟩ = some (.int .i16 i) := bx.cell 4
  have s0 : V2.cell? ⟨B, 0, none⟩ = some (.int .i64 s.pc) := hP.cpu.cell 0
  have sf := hP.cpu.free
  go_upto_region 23 with fail
  clear x0 x1 x2 x3 x4 s0 sf
  have x0 : Atv ⟨w.heap.size, 0, none⟩ (.int .i64 8) (V2.drew) := (bx.grew (Grew.refl _).drw).atv 0 rfl
  have x2 : Atv ⟨w.heap.size, 2, none⟩ (.int .i64 (b : Int)) (V2.drew) := (bx.grew (Grew.refl _).drw).atv 2 rfl
  have x3 : Atv ⟨w.heap.size, 3, none⟩ (.int .i64 (d : Int)) (V2.drew) := (bx.grew (Grew.refl _).drw).atv 3 rfl
  have rb : Atv ⟨B, 1 + b, none⟩ (.int .i16 (s.reg b)) (V2.drew) := (hP.cpu.grew (Grew.refl _).drw).atv (1 + b) (stv_at HS.out (by omega))
  have rd : Atv ⟨B, 1 + d, none⟩ (.int .i16 (s.reg d)) (V2.drew) := (hP.cpu.grew (Grew.refl _).drw).atv (1 + d) (stv_at HS.out (by omega))
  have ti : Atv ⟨0, 17, none⟩ (.int .i64 5) V2.drew := (HE.out.grew (Grew.refl _).drw).ins.cell 8 (by decide) 1 rfl
  refine wp_sides [23] 25 [some 80, some 81, some 82, some 83, some 84, some 85, some 86, some 87, some 88, some 89, some 90, some 91, some 92, some 93, some 94, some 95, some 96, some 97, some 98, some 99, some 100, some 79, some 101, some 102, some 103] zD1 [fun v _ => v = .pointer (some ⟨B, 1 + a, none⟩), fun v _ => v = .pointer (some ⟨w.heap.size, 0, none⟩), fun v _ => v = .int .i64 (8), fun v _ => v = .pointer (some ⟨0, 16, none⟩), fun v _ => v = .pointer (some ⟨0, 17, none⟩), fun v _ => v = .int .i64 (5), fun v _ => v = .pointer (some ⟨B, 0, none⟩), fun v _ => v = .pointer (some ⟨w.heap.size, 2, none⟩), fun v _ => v = .int .i64 (((b : Nat) : Int)), fun v _ => v = .pointer (some ⟨B, 0, none⟩), fun v _ => v = .pointer (some ⟨B, 1, none⟩), fun v _ => v = .pointer (some ⟨B, 1 + b, none⟩), fun v _ => v = .int .i16 (s.reg b), fun v _ => v = .pointer (some ⟨B, 0, none⟩), fun v _ => v = .pointer (some ⟨w.heap.size, 3, none⟩), fun v _ => v = .int .i64 (((d : Nat) : Int)), fun v _ => v = .pointer (some ⟨B, 0, none⟩), fun v _ => v = .pointer (some ⟨B, 1, none⟩), fun v _ => v = .pointer (some ⟨B, 1 + d, none⟩), fun v _ => v = .int .i16 (s.reg d), fun v _ => v = .tuple #[.int .i16 (binv 5 (s.reg b) (s.reg d)), .int .i64 (0)], fun v _ => v = .tuple #[.int .i16 (binv 5 (s.reg b) (s.reg d)), .int .i64 (0)], fun v _ => v = .int .i16 (binv 5 (s.reg b) (s.reg d)), fun v _ => v = .int .i64 (0), fun v _ => v = .pointer (some ⟨B, 1 + a, none⟩)] (by kernel_rfl) (by kernel_rfl) (by kernel_rfl) (by kernel_rfl) (by kernel_rfl) (fun d _ _ _ _ h => by cases d <;> exact h) rfl ?_ ⟨fun u w hR hd => ⟨.int .i64 (0), fun w1 => run_ext (ev (hd.1 rfl)) rfl, rfl⟩, trivial⟩ ⟨?_, ?_, ?_, ?_, ?_, ?_, ?_, ?_, ?_, ?_, ?_, ?_, ?_, ?_, ?_, ?_, ?_, ?_, ?_, ?_, ?_, ?_, ?_, ?_, ?_, trivial⟩ ?_
  · exact ⟨fun _ _ _ _ h => h, fun _ _ _ _ h => h, fun _ _ _ _ h => h, fun _ _ _ _ h => h, fun _ _ _ _ h => h, fun _ _ _ _ h => h, fun _ _ _ _ h => h, fun _ _ _ _ h => h, fun _ _ _ _ h => h, fun _ _ _ _ h => h, fun _ _ _ _ h => h, fun _ _ _ _ h => h, fun _ _ _ _ h => h, fun _ _ _ _ h => h, fun _ _ _ _ h => h, fun _ _ _ _ h => h, fun _ _ _ _ h => h, fun _ _ _ _ h => h, fun _ _ _ _ h => h, fun _ _ _ _ h => h, fun _ _ _ _ h => h, fun _ _ _ _ h => h, fun _ _ _ _ h => h, fun _ _ _ _ h => h, fun _ _ _ _ h => h, trivial⟩
  · intro u w hR hd; exact runs_mv (ev rfl) ⟨Grew.refl _, rfl⟩
  · intro u w hR hd; exact rn_fld_72_0 (ev rfl) ⟨Grew.refl _, rfl⟩
  · intro u w hR hd; exact rn_ld_3 (ev (hd.1 rfl)) (x0.kept hR) ⟨Grew.refl _, rfl⟩
  · intro u w hR hd; exact rn_idxa_109 (8) rfl (ev (hd.1 rfl)) (by omega) ⟨Grew.refl _, rfl⟩
  · intro u w hR hd; exact rn_fld_108_1 (ev (hd.1 rfl)) ⟨Grew.refl _, rfl⟩
  · intro u w hR hd; exact rn_ld_3 (ev (hd.1 rfl)) (ti.kept hR) ⟨Grew.refl _, rfl⟩
  · intro u w hR hd; exact runs_mv (ev rfl) ⟨Grew.refl _, rfl⟩
  · intro u w hR hd; exact rn_fld_72_2 (ev rfl) ⟨Grew.refl _, rfl⟩
  · intro u w hR hd; exact rn_ld_3 (ev (hd.1 rfl)) (x2.kept hR) ⟨Grew.refl _, rfl⟩
  · intro u w hR hd; exact rn_nil (ev (hd.1 rfl)) ⟨Grew.refl _, rfl⟩
  · intro u w hR hd; exact rn_fld_43_1 (ev (hd.1 rfl)) ⟨Grew.refl _, rfl⟩
  · intro u w hR hd; exact rn_idxa_30 (b) (ev (hd.1 rfl)) (ev (hd.2.1 rfl)) (by omega) ⟨Grew.refl _, rfl⟩
  · intro u w hR hd; exact rn_ld_29 (ev (hd.1 rfl)) (rb.kept hR) ⟨Grew.refl _, rfl⟩
  · intro u w hR hd; exact runs_mv (ev rfl) ⟨Grew.refl _, rfl⟩
  · intro u w hR hd; exact rn_fld_72_3 (ev rfl) ⟨Grew.refl _, rfl⟩
  · intro u w hR hd; exact rn_ld_3 (ev (hd.1 rfl)) (x3.kept hR) ⟨Grew.refl _, rfl⟩
  · intro u w hR hd; exact rn_nil (ev (hd.1 rfl)) ⟨Grew.refl _, rfl⟩
  · intro u w hR hd; exact rn_fld_43_1 (ev (hd.1 rfl)) ⟨Grew.refl _, rfl⟩
  · intro u w hR hd; exact rn_idxa_30 (d) (ev (hd.1 rfl)) (ev (hd.2.1 rfl)) (by omega) ⟨Grew.refl _, rfl⟩
  · intro u w hR hd; exact rn_ld_29 (ev (hd.1 rfl)) (rd.kept hR) ⟨Grew.refl _, rfl⟩
  · intro u w hR hd; exact runs_c3 en_bi (ev (hd.1 rfl)) (ev (hd.2.1 rfl)) (ev (hd.2.2.1 rfl)) (callp (fun _ e => e) (binary_g5 (s.reg b) (s.reg d) _))
  · intro u w hR hd; exact runs_mv (ev (hd.1 rfl)) ⟨Grew.refl _, rfl⟩
  · intro u w hR hd; exact rn_ext (ev (hd.1 rfl)) rfl ⟨Grew.refl _, rfl⟩
  · intro u w hR hd; exact rn_ext (ev (hd.1 rfl)) rfl ⟨Grew.refl _, rfl⟩
  · intro u w hR hd; exact rn_nil (ev (hd.1 rfl)) ⟨Grew.refl _, rfl⟩
  · intro u w9 hR h
    have e1 : u 103 = .pointer (some ⟨B, 1 + a, none⟩) := h 24 (by decide)
    have e2 : u 101 = .int .i16 (binv 5 (s.reg b) (s.reg d)) := h 22 (by decide)
    replace hP := hP.grew ((Grew.refl V2).drw.trans hR)
    replace bx : Blk w.heap.size (cdv ⟨8, a, b, d, i⟩) 72 (w9) := bx.grew ((Grew.refl V2).drw.trans hR)
    have c9 : (w9).cell? ⟨B, 1 + a, none⟩ = some (.int .i16 (s.reg a)) := by rw [hP.cpu.cell]; exact stv_at HS.out (by omega)
    have f9 := hP.cpu.free (1 + a)
    refine wpAny_one (i := 25) none (by kernel_rfl) rfl rfl rfl (rn_st_29 (ev e1) (ev e2) c9 f9 ?_)
    refine wpAny_done (by kernel_rfl) ?_ _
    simp only [Act.put, mixA, mixL, zz9, zz0, zz4, zz6, zz5]
    generalize hW : World.setCell _ _ _ = V3
    replace hP : Pf CPT N B q S (s.to a (binv 5 (s.reg b) (s.reg d)) s.pc) W w V3 := hW ▸ hP.set a _
    clear hW h e1 e2 c9 f9 rb rd ti x0 x2 x3 hR bx
    have s0 : V3.cell? ⟨B, 0, none⟩ = some (.int .i64 s.pc) := hP.cpu.cell 0
    have sf := hP.cpu.free
    go_wp2
    go_ret
    exact ⟨rfl, hP.pc (s.pc + 1)⟩
end Go.Proofs.YtbhglpiiabpdjaaDoor
