/-
  LAYER 12 (cpu): perform, one theorem for each operation.
-/
import Derived.Test.YtbhglpiiabpdjaaDoorShort
import Derived.Test.YtbhglpiiabpdjaaDoorCpuPerfOps
namespace Go.Proofs.YtbhglpiiabpdjaaDoor
open Go Go.RowKit Go.IntWalk Go.WideShapes
set_option linter.unusedSimpArgs false
set_option linter.unusedVariables false
set_option maxRecDepth 8000
set_option maxHeartbeats 4000000 in
theorem perf_1 (a b d : Nat) (ha : a < 8) (hb : b < 8) (hd : d < 8) (i n : Int) (N B q : Nat) (S : Nat → Prop) (s : St) (W : Wd) (w : World) (hcb : Blk B (stv s) CPT w) (hbus : Bus N w q W S) (hE : EnvN N w) (hs : s.Ok) (hl : W.cs.length ≤ 90000) (hN : N ≤ w.heap.size) (hNB : N ≤ B) (hp : -9223372036854775808 ≤ s.pc ∧ s.pc < 9223372036854775807) :
    Calls Tryd.prog 56 #[.pointer (some ⟨B, 0, none⟩), cdV ⟨1, a, b, d, i⟩, .int .i64 n, (.iface 47 (.pointer (some ⟨q, 0, none⟩)))] w fun e w' => e = .returned (.bool (perf ⟨1, a, b, d, i⟩ n s W).1) ∧ Pf CPT N B q S (perf ⟨1, a, b, d, i⟩ n s W).2.1 (perf ⟨1, a, b, d, i⟩ n s W).2.2 w w' := by
  rw [show perf ⟨1, a, b, d, i⟩ n s W = (true, s, W) from rfl]
  have HS := Lib.hid hs
  have HL : Hid (W.cs.length ≤ 100000) := Lib.hid (by omega)
  have HN := Lib.hid hN
  have hP := Pf.start hcb hbus
  obtain ⟨p0, p1⟩ := hp
  have HE := Lib.hid hE
  have hBl := hcb.lt
  clear hs hl hN hcb hE hbus hNB
  go_enter Tryd.func56, Tryd.ntmps56
  go_wp2
  generalize hV : World.alloc _ _ = V
  have bx : Blk w.heap.size (cdv ⟨1, a, b, d, i⟩) 72 V := by subst hV; exact Blk.new w (cdv ⟨1, a, b, d, i⟩) _
  have hg : Grew w V := by subst hV; exact (Grew.refl _).alloc _
  clear hV
  replace hP := hP.grew hg
  replace HE := Lib.hid (HE.out.grew hg)
  clear hg
  have x1 : Atv ⟨w.heap.size, 1, none⟩ (.int .i64 (a : Int)) (V.drew) := (bx.grew (Grew.refl _).drw).atv 1 rfl
  refine wp_still [some 12, some 13, some 14, some 15, some 16, some 17, some 10] zD6 [fun v _ => v = .pointer (some ⟨B, 0, none⟩), fun v _ => v = .pointer (some ⟨w.heap.size, 1, none⟩), fun v _ => v = .int .i64 (((a : Nat) : Int)), fun v _ => v = .pointer (some ⟨B, 0, none⟩), fun v _ => v = .pointer (some ⟨B, 1, none⟩), fun v _ => v = .pointer (some ⟨B, 1 + a, none⟩), fun v _ => v = .pointer (some ⟨B, 1 + a, none⟩)] (by kernel_rfl) (by kernel_rfl) rfl ⟨?_, ?_, ?_, ?_, ?_, ?_, ?_, trivial⟩ ?_
  · intro u w hR hd; exact runs_mv (ev rfl) ⟨rfl, rfl⟩
  · intro u w hR hd; exact rn_fld_72_1 (ev rfl) ⟨rfl, rfl⟩
  · intro u w hR hd; exact rn_ld_3 (ev (hd.1 rfl)) (x1.kept hR) ⟨rfl, rfl⟩
  · intro u w hR hd; exact rn_nil (ev (hd.1 rfl)) ⟨rfl, rfl⟩
  · intro u w hR hd; exact rn_fld_43_1 (ev (hd.1 rfl)) ⟨rfl, rfl⟩
  · intro u w hR hd; exact rn_idxa_30 (a) (ev (hd.1 rfl)) (ev (hd.2.1 rfl)) (by omega) ⟨rfl, rfl⟩
  · intro u w hR hd; exact runs_mva (ev (hd.1 rfl)) ⟨rfl, rfl⟩
  intro u h
  have he : u 10 = .pointer (some ⟨B, 1 + a, none⟩) := h 6 (by decide)
  simp only [mixA, mixL, zz9, zz0]
  rw [he]
  clear h he x1
  generalize hV : V.drew = V2
  replace bx : Blk w.heap.size (cdv ⟨1, a, b, d, i⟩) 72 V2 := by subst hV; exact bx.grew (Grew.refl _).drw
  replace hP : Pf CPT N B q S s W w V2 := by subst hV; exact hP.grew (Grew.refl _).drw
  replace HE : Hid (EnvN N V2) := Lib.hid (by subst hV; exact HE.out.grew (Grew.refl _).drw)
  clear hV
  have x0 : V2.cell? ⟨w.heap.size, 0, none⟩ = some (.int .i64 1) := bx.cell 0
  have x1 : V2.cell? ⟨w.heap.size, 1, none⟩ = some (.int .i64 (a : Int)) := bx.cell 1
  have x2 : V2.cell? ⟨w.heap.size, 2, none⟩ = some (.int .i64 (b : Int)) := bx.cell 2
  have x3 : V2.cell? ⟨w.heap.size, 3, none⟩ = some (.int .i64 (d : Int)) := bx.cell 3
  have x4 : V2.cell? ⟨w.heap.size, 4, none⟩ = some (.int .i16 i) := bx.cell 4
  have s0 : V2.cell? ⟨B, 0, none⟩ = some (.int .i64 s.pc) := hP.cpu.cell 0
  have sf := hP.cpu.free
  go_wp2
  go_ret
  exact ⟨rfl, hP.pc s.pc⟩
set_option maxHeartbeats 4000000 in
theorem perf_2 (a b d : Nat) (ha : a < 8) (hb : b < 8) (hd : d < 8) (i n : Int) (N B q : Nat) (S : Nat → Prop) (s : St) (W : Wd) (w : World) (hcb : Blk B (stv s) CPT w) (hbus : Bus N w q W S) (hE : EnvN N w) (hs : s.Ok) (hl : W.cs.length ≤ 90000) (hN : N ≤ w.heap.size) (hNB : N ≤ B) (hp : -9223372036854775808 ≤ s.pc ∧ s.pc < 9223372036854775807) :
    Calls Tryd.prog 56 #[.pointer (some ⟨B, 0, none⟩), cdV ⟨2, a, b, d, i⟩, .int .i64 n, (.iface 47 (.pointer (some ⟨q, 0, none⟩)))] w fun e w' => e = .returned (.bool (perf ⟨2, a, b, d, i⟩ n s W).1) ∧ Pf CPT N B q S (perf ⟨2, a, b, d, i⟩ n s W).2.1 (perf ⟨2, a, b, d, i⟩ n s W).2.2 w w' := by
  rw [show perf ⟨2, a, b, d, i⟩ n s W = (true, s.to a (w16 n) (s.pc + 1), W) from rfl]
  have HS := Lib.hid hs
  have HL : Hid (W.cs.length ≤ 100000) := Lib.hid (by omega)
  have HN := Lib.hid hN
  have hP := Pf.start hcb hbus
  obtain ⟨p0, p1⟩ := hp
  have HE := Lib.hid hE
  have hBl := hcb.lt
  clear hs hl hN hcb hE hbus hNB
  go_enter Tryd.func56, Tryd.ntmps56
  go_wp2
  generalize hV : World.alloc _ _ = V
  have bx : Blk w.heap.size (cdv ⟨2, a, b, d, i⟩) 72 V := by subst hV; exact Blk.new w (cdv ⟨2, a, b, d, i⟩) _
  have hg : Grew w V := by subst hV; exact (Grew.refl _).alloc _
  clear hV
  replace hP := hP.grew hg
  replace HE := Lib.hid (HE.out.grew hg)
  clear hg
  have x1 : Atv ⟨w.heap.size, 1, none⟩ (.int .i64 (a : Int)) (V.drew) := (bx.grew (Grew.refl _).drw).atv 1 rfl
  refine wp_still [some 12, some 13, some 14, some 15, some 16, some 17, some 10] zD6 [fun v _ => v = .pointer (some ⟨B, 0, none⟩), fun v _ => v = .pointer (some ⟨w.heap.size, 1, none⟩), fun v _ => v = .int .i64 (((a : Nat) : Int)), fun v _ => v = .pointer (some ⟨B, 0, none⟩), fun v _ => v = .pointer (some ⟨B, 1, none⟩), fun v _ => v = .pointer (some ⟨B, 1 + a, none⟩), fun v _ => v = .pointer (some ⟨B, 1 + a, none⟩)] (by kernel_rfl) (by kernel_rfl) rfl ⟨?_, ?_, ?_, ?_, ?_, ?_, ?_, trivial⟩ ?_
  · intro u w hR hd; exact runs_mv (ev rfl) ⟨rfl, rfl⟩
  · intro u w hR hd; exact rn_fld_72_1 (ev rfl) ⟨rfl, rfl⟩
  · intro u w hR hd; exact rn_ld_3 (ev (hd.1 rfl)) (x1.kept hR) ⟨rfl, rfl⟩
  · intro u w hR hd; exact rn_nil (ev (hd.1 rfl)) ⟨rfl, rfl⟩
  · intro u w hR hd; exact rn_fld_43_1 (ev (hd.1 rfl)) ⟨rfl, rfl⟩
  · intro u w hR hd; exact rn_idxa_30 (a) (ev (hd.1 rfl)) (ev (hd.2.1 rfl)) (by omega) ⟨rfl, rfl⟩
  · intro u w hR hd; exact runs_mva (ev (hd.1 rfl)) ⟨rfl, rfl⟩
  intro u h
  have he : u 10 = .pointer (some ⟨B, 1 + a, none⟩) := h 6 (by decide)
  simp only [mixA, mixL, zz9, zz0]
  rw [he]
  clear h he x1
  generalize hV : V.drew = V2
  replace bx : Blk w.heap.size (cdv ⟨2, a, b, d, i⟩) 72 V2 := by subst hV; exact bx.grew (Grew.refl _).drw
  replace hP : Pf CPT N B q S s W w V2 := by subst hV; exact hP.grew (Grew.refl _).drw
  replace HE : Hid (EnvN N V2) := Lib.hid (by subst hV; exact HE.out.grew (Grew.refl _).drw)
  clear hV
  have x0 : V2.cell? ⟨w.heap.size, 0, none⟩ = some (.int .i64 2) := bx.cell 0
  have x1 : V2.cell? ⟨w.heap.size, 1, none⟩ = some (.int .i64 (a : Int)) := bx.cell 1
  have x2 : V2.cell? ⟨w.heap.size, 2, none⟩ = some (.int .i64 (b : Int)) := bx.cell 2
  have x3 : V2.cell? ⟨w.heap.size, 3, none⟩ = some (.int .i64 (d : Int)) := bx.cell 3
  have x4 : V2.cell? ⟨w.heap.size, 4, none⟩ = some (.int .i16 i) := bx.cell 4
  have s0 : V2.cell? ⟨B, 0, none⟩ = some (.int .i64 s.pc) := hP.cpu.cell 0
  have sf := hP.cpu.free
  have sa : V2.cell? ⟨B, 1 + a, none⟩ = some (.int .i16 (s.reg a)) := by rw [hP.cpu.cell]; exact stv_at HS.out (by omega)
  go_wp2
  go_ret
  exact ⟨rfl, by rw [← wrap_i16]; exact (hP.set a _).pc (s.pc + 1)⟩
set_option maxHeartbeats 4000000 in
theorem perf_18 (a b d : Nat) (ha : a < 8) (hb : b < 8) (hd : d < 8) (i n : Int) (N B q : Nat) (S : Nat → Prop) (s : St) (W : Wd) (w : World) (hcb : Blk B (stv s) CPT w) (hbus : Bus N w q W S) (hE : EnvN N w) (hs : s.Ok) (hl : W.cs.length ≤ 90000) (hN : N ≤ w.heap.size) (hNB : N ≤ B) (hp : -9223372036854775808 ≤ s.pc ∧ s.pc < 9223372036854775807) :
    Calls Tryd.prog 56 #[.pointer (some ⟨B, 0, none⟩), cdV ⟨18, a, b, d, i⟩, .int .i64 n, (.iface 47 (.pointer (some ⟨q, 0, none⟩)))] w fun e w' => e = .returned (.bool (perf ⟨18, a, b, d, i⟩ n s W).1) ∧ Pf CPT N B q S (perf ⟨18, a, b, d, i⟩ n s W).2.1 (perf ⟨18, a, b, d, i⟩ n s W).2.2 w w' := by
  rw [show perf ⟨18, a, b, d, i⟩ n s W = (true, s.to a (w16 n) (s.pc + 1), W) from rfl]
  have HS := Lib.hid hs
  have HL : Hid (W.cs.length ≤ 100000) := Lib.hid (by omega)
  have HN := Lib.hid hN
  have hP := Pf.start hcb hbus
  obtain ⟨p0, p1⟩ := hp
  have HE := Lib.hid hE
  have hBl := hcb.lt
  clear hs hl hN hcb hE hbus hNB
  go_enter Tryd.func56, Tryd.ntmps56
  go_wp2
  generalize hV : World.alloc _ _ = V
  have bx : Blk w.heap.size (cdv ⟨18, a, b, d, i⟩) 72 V := by subst hV; exact Blk.new w (cdv ⟨18, a, b, d, i⟩) _
  have hg : Grew w V := by subst hV; exact (Grew.refl _).alloc _
  clear hV
  replace hP := hP.grew hg
  replace HE := Lib.hid (HE.out.grew hg)
  clear hg
  have x1 : Atv ⟨w.heap.size, 1, none⟩ (.int .i64 (a : Int)) (V.drew) := (bx.grew (Grew.refl _).drw).atv 1 rfl
  refine wp_still [some 12, some 13, some 14, some 15, some 16, some 17, some 10] zD6 [fun v _ => v = .pointer (some ⟨B, 0, none⟩), fun v _ => v = .pointer (some ⟨w.heap.size, 1, none⟩), fun v _ => v = .int .i64 (((a : Nat) : Int)), fun v _ => v = .pointer (some ⟨B, 0, none⟩), fun v _ => v = .pointer (some ⟨B, 1, none⟩), fun v _ => v = .pointer (some ⟨B, 1 + a, none⟩), fun v _ => v = .pointer (some ⟨B, 1 + a, none⟩)] (by kernel_rfl) (by kernel_rfl) rfl ⟨?_, ?_, ?_, ?_, ?_, ?_, ?_, trivial⟩ ?_
  · intro u w hR hd; exact runs_mv (ev rfl) ⟨rfl, rfl⟩
  · intro u w hR hd; exact rn_fld_72_1 (ev rfl) ⟨rfl, rfl⟩
  · intro u w hR hd; exact rn_ld_3 (ev (hd.1 rfl)) (x1.kept hR) ⟨rfl, rfl⟩
  · intro u w hR hd; exact rn_nil (ev (hd.1 rfl)) ⟨rfl, rfl⟩
  · intro u w hR hd; exact rn_fld_43_1 (ev (hd.1 rfl)) ⟨rfl, rfl⟩
  · intro u w hR hd; exact rn_idxa_30 (a) (ev (hd.1 rfl)) (ev (hd.2.1 rfl)) (by omega) ⟨rfl, rfl⟩
  · intro u w hR hd; exact runs_mva (ev (hd.1 rfl)) ⟨rfl, rfl⟩
  intro u h
  have he : u 10 = .pointer (some ⟨B, 1 + a, none⟩) := h 6 (by decide)
  simp only [mixA, mixL, zz9, zz0]
  rw [he]
  clear h he x1
  generalize hV : V.drew = V2
  replace bx : Blk w.heap.size (cdv ⟨18, a, b, d, i⟩) 72 V2 := by subst hV; exact bx.grew (Grew.refl _).drw
  replace hP : Pf CPT N B q S s W w V2 := by subst hV; exact hP.grew (Grew.refl _).drw
  replace HE : Hid (EnvN N V2) := Lib.hid (by subst hV; exact HE.out.grew (Grew.refl _).drw)
  clear hV
  have x0 : V2.cell? ⟨w.heap.size, 0, none⟩ = some (.int .i64 18) := bx.cell 0
  have x1 : V2.cell? ⟨w.heap.size, 1, none⟩ = some (.int .i64 (a : Int)) := bx.cell 1
  have x2 : V2.cell? ⟨w.heap.size, 2, none⟩ = some (.int .i64 (b : Int)) := bx.cell 2
  have x3 : V2.cell? ⟨w.heap.size, 3, none⟩ = some (.int .i64 (d : Int)) := bx.cell 3
  have x4 : V2.cell? ⟨w.heap.size, 4, none⟩ = some (.int .i16 i) := bx.cell 4
  have s0 : V2.cell? ⟨B, 0, none⟩ = some (.int .i64 s.pc) := hP.cpu.cell 0
  have sf := hP.cpu.free
  have sa : V2.cell? ⟨B, 1 + a, none⟩ = some (.int .i16 (s.reg a)) := by rw [hP.cpu.cell]; exact stv_at HS.out (by omega)
  go_wp2
  go_ret
  exact ⟨rfl, by rw [← wrap_i16]; exact (hP.set a _).pc (s.pc + 1)⟩
set_option maxHeartbeats 4000000 in
theorem perf_29 (a b d : Nat) (ha : a < 8) (hb : b < 8) (hd : d < 8) (i n : Int) (N B q : Nat) (S : Nat → Prop) (s : St) (W : Wd) (w : World) (hcb : Blk B (stv s) CPT w) (hbus : Bus N w q W S) (hE : EnvN N w) (hs : s.Ok) (hl : W.cs.length ≤ 90000) (hN : N ≤ w.heap.size) (hNB : N ≤ B) (hp : -9223372036854775808 ≤ s.pc ∧ s.pc < 9223372036854775807) :
    Calls Tryd.prog 56 #[.pointer (some ⟨B, 0, none⟩), cdV ⟨29, a, b, d, i⟩, .int .i64 n, (.iface 47 (.pointer (some ⟨q, 0, none⟩)))] w fun e w' => e = .returned (.bool (perf ⟨29, a, b, d, i⟩ n s W).1) ∧ Pf CPT N B q S (perf ⟨29, a, b, d, i⟩ n s W).2.1 (perf ⟨29, a, b, d, i⟩ n s W).2.2 w w' := by
  rw [show perf ⟨29, a, b, d, i⟩ n s W = (true, ⟨s.pc + 1, s.xs⟩, W) from rfl]
  have HS := Lib.hid hs
  have HL : Hid (W.cs.length ≤ 100000) := Lib.hid (by omega)
  have HN := Lib.hid hN
  have hP := Pf.start hcb hbus
  obtain ⟨p0, p1⟩ := hp
  have HE := Lib.hid hE
  have hBl := hcb.lt
  clear hs hl hN hcb hE hbus hNB
  go_enter Tryd.func56, Tryd.ntmps56
  go_wp2
  generalize hV : World.alloc _ _ = V
  have bx : Blk w.heap.size (cdv ⟨29, a, b, d, i⟩) 72 V := by subst hV; exact Blk.new w (cdv ⟨29, a, b, d, i⟩) _
  have hg : Grew w V := by subst hV; exact (Grew.refl _).alloc _
  clear hV
  replace hP := hP.grew hg
  replace HE := Lib.hid (HE.out.grew hg)
  clear hg
  have x1 : Atv ⟨w.heap.size, 1, none⟩ (.int .i64 (a : Int)) (V.drew) := (bx.grew (Grew.refl _).drw).atv 1 rfl
  refine wp_still [some 12, some 13, some 14, some 15, some 16, some 17, some 10] zD6 [fun v _ => v = .pointer (some ⟨B, 0, none⟩), fun v _ => v = .pointer (some ⟨w.heap.size, 1, none⟩), fun v _ => v = .int .i64 (((a : Nat) : Int)), fun v _ => v = .pointer (some ⟨B, 0, none⟩), fun v _ => v = .pointer (some ⟨B, 1, none⟩), fun v _ => v = .pointer (some ⟨B, 1 + a, none⟩), fun v _ => v = .pointer (some ⟨B, 1 + a, none⟩)] (by kernel_rfl) (by kernel_rfl) rfl ⟨?_, ?_, ?_, ?_, ?_, ?_, ?_, trivial⟩ ?_
  · intro u w hR hd; exact runs_mv (ev rfl) ⟨rfl, rfl⟩
  · intro u w hR hd; exact rn_fld_72_1 (ev rfl) ⟨rfl, rfl⟩
  · intro u w hR hd; exact rn_ld_3 (ev (hd.1 rfl)) (x1.kept hR) ⟨rfl, rfl⟩
  · intro u w hR hd; exact rn_nil (ev (hd.1 rfl)) ⟨rfl, rfl⟩
  · intro u w hR hd; exact rn_fld_43_1 (ev (hd.1 rfl)) ⟨rfl, rfl⟩
  · intro u w hR hd; exact rn_idxa_30 (a) (ev (hd.1 rfl)) (ev (hd.2.1 rfl)) (by omega) ⟨rfl, rfl⟩
  · intro u w hR hd; exact runs_mva (ev (hd.1 rfl)) ⟨rfl, rfl⟩
  intro u h
  have he : u 10 = .pointer (some ⟨B, 1 + a, none⟩) := h 6 (by decide)
  simp only [mixA, mixL, zz9, zz0]
  rw [he]
  clear h he x1
  generalize hV : V.drew = V2
  replace bx : Blk w.heap.size (cdv ⟨29, a, b, d, i⟩) 72 V2 := by subst hV; exact bx.grew (Grew.refl _).drw
  replace hP : Pf CPT N B q S s W w V2 := by subst hV; exact hP.grew (Grew.refl _).drw
  replace HE : Hid (EnvN N V2) := Lib.hid (by subst hV; exact HE.out.grew (Grew.refl _).drw)
  clear hV
  have x0 : V2.cell? ⟨w.heap.size, 0, none⟩ = some (.int .i64 29) := bx.cell 0
  have x1 : V2.cell? ⟨w.heap.size, 1, none⟩ = some (.int .i64 (a : Int)) := bx.cell 1
  have x2 : V2.cell? ⟨w.heap.size, 2, none⟩ = some (.int .i64 (b : Int)) := bx.cell 2
  have x3 : V2.cell? ⟨w.heap.size, 3, none⟩ = some (.int .i64 (d : Int)) := bx.cell 3
  have x4 : V2.cell? ⟨w.heap.size, 4, none⟩ = some (.int .i16 i) := bx.cell 4
  have s0 : V2.cell? ⟨B, 0, none⟩ = some (.int .i64 s.pc) := hP.cpu.cell 0
  have sf := hP.cpu.free
  go_wp2
  go_ret
  exact ⟨rfl, hP.pc (s.pc + 1)⟩
set_option maxHeartbeats 4000000 in
theorem perf_30 (a b d : Nat) (ha : a < 8) (hb : b < 8) (hd : d < 8) (i n : Int) (N B q : Nat) (S : Nat → Prop) (s : St) (W : Wd) (w : World) (hcb : Blk B (stv s) CPT w) (hbus : Bus N w q W S) (hE : EnvN N w) (hs : s.Ok) (hl : W.cs.length ≤ 90000) (hN : N ≤ w.heap.size) (hNB : N ≤ B) (hp : -9223372036854775808 ≤ s.pc ∧ s.pc < 9223372036854775807) :
    Calls Tryd.prog 56 #[.pointer (some ⟨B, 0, none⟩), cdV ⟨30, a, b, d, i⟩, .int .i64 n, (.iface 47 (.pointer (some ⟨q, 0, none⟩)))] w fun e w' => e = .returned (.bool (perf ⟨30, a, b, d, i⟩ n s W).1) ∧ Pf CPT N B q S (perf ⟨30, a, b, d, i⟩ n s W).2.1 (perf ⟨30, a, b, d, i⟩ n s W).2.2 w w' := by
  rw [show perf ⟨30, a, b, d, i⟩ n s W = (true, ⟨s.pc + 1, s.xs⟩, W) from rfl]
  have HS := Lib.hid hs
  have HL : Hid (W.cs.length ≤ 100000) := Lib.hid (by omega)
  have HN := Lib.hid hN
  have hP := Pf.start hcb hbus
  obtain ⟨p0, p1⟩ := hp
  have HE := Lib.hid hE
  have hBl := hcb.lt
  clear hs hl hN hcb hE hbus hNB
  go_enter Tryd.func56, Tryd.ntmps56
  go_wp2
  generalize hV : World.alloc _ _ = V
  have bx : Blk w.heap.size (cdv ⟨30, a, b, d, i⟩) 72 V := by subst hV; exact Blk.new w (cdv ⟨30, a, b, d, i⟩) _
  have hg : Grew w V := by subst hV; exact (Grew.refl _).alloc _
  clear hV
  replace hP := hP.grew hg
  replace HE := Lib.hid (HE.out.grew hg)
  clear hg
  have x1 : Atv ⟨w.heap.size, 1, none⟩ (.int .i64 (a : Int)) (V.drew) := (bx.grew (Grew.refl _).drw).atv 1 rfl
  refine wp_still [some 12, some 13, some 14, some 15, some 16, some 17, some 10] zD6 [fun v _ => v = .pointer (some ⟨B, 0, none⟩), fun v _ => v = .pointer (some ⟨w.heap.size, 1, none⟩), fun v _ => v = .int .i64 (((a : Nat) : Int)), fun v _ => v = .pointer (some ⟨B, 0, none⟩), fun v _ => v = .pointer (some ⟨B, 1, none⟩), fun v _ => v = .pointer (some ⟨B, 1 + a, none⟩), fun v _ => v = .pointer (some ⟨B, 1 + a, none⟩)] (by kernel_rfl) (by kernel_rfl) rfl ⟨?_, ?_, ?_, ?_, ?_, ?_, ?_, trivial⟩ ?_
  · intro u w hR hd; exact runs_mv (ev rfl) ⟨rfl, rfl⟩
  · intro u w hR hd; exact rn_fld_72_1 (ev rfl) ⟨rfl, rfl⟩
  · intro u w hR hd; exact rn_ld_3 (ev (hd.1 rfl)) (x1.kept hR) ⟨rfl, rfl⟩
  · intro u w hR hd; exact rn_nil (ev (hd.1 rfl)) ⟨rfl, rfl⟩
  · intro u w hR hd; exact rn_fld_43_1 (ev (hd.1 rfl)) ⟨rfl, rfl⟩
  · intro u w hR hd; exact rn_idxa_30 (a) (ev (hd.1 rfl)) (ev (hd.2.1 rfl)) (by omega) ⟨rfl, rfl⟩
  · intro u w hR hd; exact runs_mva (ev (hd.1 rfl)) ⟨rfl, rfl⟩
  intro u h
  have he : u 10 = .pointer (some ⟨B, 1 + a, none⟩) := h 6 (by decide)
  simp only [mixA, mixL, zz9, zz0]
  rw [he]
  clear h he x1
  generalize hV : V.drew = V2
  replace bx : Blk w.heap.size (cdv ⟨30, a, b, d, i⟩) 72 V2 := by subst hV; exact bx.grew (Grew.refl _).drw
  replace hP : Pf CPT N B q S s W w V2 := by subst hV; exact hP.grew (Grew.refl _).drw
  replace HE : Hid (EnvN N V2) := Lib.hid (by subst hV; exact HE.out.grew (Grew.refl _).drw)
  clear hV
  have x0 : V2.cell? ⟨w.heap.size, 0, none⟩ = some (.int .i64 30) := bx.cell 0
  have x1 : V2.cell? ⟨w.heap.size, 1, none⟩ = some (.int .i64 (a : Int)) := bx.cell 1
  have x2 : V2.cell? ⟨w.heap.size, 2, none⟩ = some (.int .i64 (b : Int)) := bx.cell 2
  have x3 : V2.cell? ⟨w.heap.size, 3, none⟩ = some (.int .i64 (d : Int)) := bx.cell 3
  have x4 : V2.cell? ⟨w.heap.size, 4, none⟩ = some (.int .i16 i) := bx.cell 4
  have s0 : V2.cell? ⟨B, 0, none⟩ = some (.int .i64 s.pc) := hP.cpu.cell 0
  have sf := hP.cpu.free
  go_wp2
  go_ret
  exact ⟨rfl, hP.pc (s.pc + 1)⟩
set_option maxHeartbeats 4000000 in
theorem perf_21 (a b d : Nat) (ha : a < 8) (hb : b < 8) (hd : d < 8) (i n : Int) (N B q : Nat) (S : Nat → Prop) (s : St) (W : Wd) (w : World) (hcb : Blk B (stv s) CPT w) (hbus : Bus N w q W S) (hE : EnvN N w) (hs : s.Ok) (hl : W.cs.length ≤ 90000) (hN : N ≤ w.heap.size) (hNB : N ≤ B) (hp : -9223372036854775808 ≤ s.pc ∧ s.pc < 9223372036854775807) :
    Calls Tryd.prog 56 #[.pointer (some ⟨B, 0, none⟩), cdV ⟨21, a, b, d, i⟩, .int .i64 n, (.iface 47 (.pointer (some ⟨q, 0, none⟩)))] w fun e w' => e = .returned (.bool (perf ⟨21, a, b, d, i⟩ n s W).1) ∧ Pf CPT N B q S (perf ⟨21, a, b, d, i⟩ n s W).2.1 (perf ⟨21, a, b, d, i⟩ n s W).2.2 w w' := by
  rw [show perf ⟨21, a, b, d, i⟩ n s W = (true, ⟨n, s.xs⟩, W) from rfl]
  have HS := Lib.hid hs
  have HL : Hid (W.cs.length ≤ 100000) := Lib.hid (by omega)
  have HN := Lib.hid hN
  have hP := Pf.start hcb hbus
  obtain ⟨p0, p1⟩ := hp
  have HE := Lib.hid hE
  have hBl := hcb.lt
  clear hs hl hN hcb hE hbus hNB
  go_enter Tryd.func56, Tryd.ntmps56
  go_wp2
  generalize hV : World.alloc _ _ = V
  have bx : Blk w.heap.size (cdv ⟨21, a, b, d, i⟩) 72 V := by subst hV; exact Blk.new w (cdv ⟨21, a, b, d, i⟩) _
  have hg : Grew w V := by subst hV; exact (Grew.refl _).alloc _
  clear hV
  replace hP := hP.grew hg
  replace HE := Lib.hid (HE.out.grew hg)
  clear hg
  have x1 : Atv ⟨w.heap.size, 1, none⟩ (.int .i64 (a : Int)) (V.drew) := (bx.grew (Grew.refl _).drw).atv 1 rfl
  refine wp_still [some 12, some 13, some 14, some 15, some 16, some 17, some 10] zD6 [fun v _ => v = .pointer (some ⟨B, 0, none⟩), fun v _ => v = .pointer (some ⟨w.heap.size, 1, none⟩), fun v _ => v = .int .i64 (((a : Nat) : Int)), fun v _ => v = .pointer (some ⟨B, 0, none⟩), fun v _ => v = .pointer (some ⟨B, 1, none⟩), fun v _ => v = .pointer (some ⟨B, 1 + a, none⟩), fun v _ => v = .pointer (some ⟨B, 1 + a, none⟩)] (by kernel_rfl) (by kernel_rfl) rfl ⟨?_, ?_, ?_, ?_, ?_, ?_, ?_, trivial⟩ ?_
  · intro u w hR hd; exact runs_mv (ev rfl) ⟨rfl, rfl⟩
  · intro u w hR hd; exact rn_fld_72_1 (ev rfl) ⟨rfl, rfl⟩
  · intro u w hR hd; exact rn_ld_3 (ev (hd.1 rfl)) (x1.kept hR) ⟨rfl, rfl⟩
  · intro u w hR hd; exact rn_nil (ev (hd.1 rfl)) ⟨rfl, rfl⟩
  · intro u w hR hd; exact rn_fld_43_1 (ev (hd.1 rfl)) ⟨rfl, rfl⟩
  · intro u w hR hd; exact rn_idxa_30 (a) (ev (hd.1 rfl)) (ev (hd.2.1 rfl)) (by omega) ⟨rfl, rfl⟩
  · intro u w hR hd; exact runs_mva (ev (hd.1 rfl)) ⟨rfl, rfl⟩
  intro u h
  have he : u 10 = .pointer (some ⟨B, 1 + a, none⟩) := h 6 (by decide)
  simp only [mixA, mixL, zz9, zz0]
  rw [he]
  clear h he x1
  generalize hV : V.drew = V2
  replace bx : Blk w.heap.size (cdv ⟨21, a, b, d, i⟩) 72 V2 := by subst hV; exact bx.grew (Grew.refl _).drw
  replace hP : Pf CPT N B q S s W w V2 := by subst hV; exact hP.grew (Grew.refl _).drw
  replace HE : Hid (EnvN N V2) := Lib.hid (by subst hV; exact HE.out.grew (Grew.refl _).drw)
  clear hV
  have x0 : V2.cell? ⟨w.heap.size, 0, none⟩ = some (.int .i64 21) := bx.cell 0
  have x1 : V2.cell? ⟨w.heap.size, 1, none⟩ = some (.int .i64 (a : Int)) := bx.cell 1
  have x2 : V2.cell? ⟨w.heap.size, 2, none⟩ = some (.int .i64 (b : Int)) := bx.cell 2
  have x3 : V2.cell? ⟨w.heap.size, 3, none⟩ = some (.int .i64 (d : Int)) := bx.cell 3
  have x4 : V2.cell? ⟨w.heap.size, 4, none⟩ = some (.int .i16 i) := bx.cell 4
  have s0 : V2.cell? ⟨B, 0, none⟩ = some (.int .i64 s.pc) := hP.cpu.cell 0
  have sf := hP.cpu.free
  go_wp2
  go_ret
  exact ⟨rfl, hP.pc n⟩
set_option maxHeartbeats 4000000 in
theorem perf_3 (a b d : Nat) (ha : a < 8) (hb : b < 8) (hd : d < 8) (i n : Int) (N B q : Nat) (S : Nat → Prop) (s : St) (W : Wd) (w : World) (hcb : Blk B (stv s) CPT w) (hbus : Bus N w q W S) (hE : EnvN N w) (hs : s.Ok) (hl : W.cs.length ≤ 90000) (hN : N ≤ w.heap.size) (hNB : N ≤ B) (hp : -9223372036854775808 ≤ s.pc ∧ s.pc < 9223372036854775807) :
    Calls Tryd.prog 56 #[.pointer (some ⟨B, 0, none⟩), cdV ⟨3, a, b, d, i⟩, .int .i64 n, (.iface 47 (.pointer (some ⟨q, 0, none⟩)))] w fun e w' => e = .returned (.bool (perf ⟨3, a, b, d, i⟩ n s W).1) ∧ Pf CPT N B q S (perf ⟨3, a, b, d, i⟩ n s W).2.1 (perf ⟨3, a, b, d, i⟩ n s W).2.2 w w' := by
  rw [show perf ⟨3, a, b, d, i⟩ n s W = (true, s.to a (s.reg b) (s.pc + 1), W) from rfl]
  have HS := Lib.hid hs
  have HL : Hid (W.cs.length ≤ 100000) := Lib.hid (by omega)
  have HN := Lib.hid hN
  have hP := Pf.start hcb hbus
  obtain ⟨p0, p1⟩ := hp
  have HE := Lib.hid hE
  have hBl := hcb.lt
  clear hs hl hN hcb hE hbus hNB
  go_enter Tryd.func56, Tryd.ntmps56
  go_wp2
  generalize hV : World.alloc _ _ = V
  have bx : Blk w.heap.size (cdv ⟨3, a, b, d, i⟩) 72 V := by subst hV; exact Blk.new w (cdv ⟨3, a, b, d, i⟩) _
  have hg : Grew w V := by subst hV; exact (Grew.refl _).alloc _
  clear hV
  replace hP := hP.grew hg
  replace HE := Lib.hid (HE.out.grew hg)
  clear hg
  have x1 : Atv ⟨w.heap.size, 1, none⟩ (.int .i64 (a : Int)) (V.drew) := (bx.grew (Grew.refl _).drw).atv 1 rfl
  refine wp_still [some 12, some 13, some 14, some 15, some 16, some 17, some 10] zD6 [fun v _ => v = .pointer (some ⟨B, 0, none⟩), fun v _ => v = .pointer (some ⟨w.heap.size, 1, none⟩), fun v _ => v = .int .i64 (((a : Nat) : Int)), fun v _ => v = .pointer (some ⟨B, 0, none⟩), fun v _ => v = .pointer (some ⟨B, 1, none⟩), fun v _ => v = .pointer (some ⟨B, 1 + a, none⟩), fun v _ => v = .pointer (some ⟨B, 1 + a, none⟩)] (by kernel_rfl) (by kernel_rfl) rfl ⟨?_, ?_, ?_, ?_, ?_, ?_, ?_, trivial⟩ ?_
  · intro u w hR hd; exact runs_mv (ev rfl) ⟨rfl, rfl⟩
  · intro u w hR hd; exact rn_fld_72_1 (ev rfl) ⟨rfl, rfl⟩
  · intro u w hR hd; exact rn_ld_3 (ev (hd.1 rfl)) (x1.kept hR) ⟨rfl, rfl⟩
  · intro u w hR hd; exact rn_nil (ev (hd.1 rfl)) ⟨rfl, rfl⟩
  · intro u w hR hd; exact rn_fld_43_1 (ev (hd.1 rfl)) ⟨rfl, rfl⟩
  · intro u w hR hd; exact rn_idxa_30 (a) (ev (hd.1 rfl)) (ev (hd.2.1 rfl)) (by omega) ⟨rfl, rfl⟩
  · intro u w hR hd; exact runs_mva (ev (hd.1 rfl)) ⟨rfl, rfl⟩
  intro u h
  have he : u 10 = .pointer (some ⟨B, 1 + a, none⟩) := h 6 (by decide)
  simp only [mixA, mixL, zz9, zz0]
  rw [he]
  clear h he x1
  generalize hV : V.drew = V2
  replace bx : Blk w.heap.size (cdv ⟨3, a, b, d, i⟩) 72 V2 := by subst hV; exact bx.grew (Grew.refl _).drw
  replace hP : Pf CPT N B q S s W w V2 := by subst hV; exact hP.grew (Grew.refl _).drw
  replace HE : Hid (EnvN N V2) := Lib.hid (by subst hV; exact HE.out.grew (Grew.refl _).drw)
  clear hV
  have x0 : V2.cell? ⟨w.heap.size, 0, none⟩ = some (.int .i64 3) := bx.cell 0
  have x1 : V2.cell? ⟨w.heap.size, 1, none⟩ = some (.int .i64 (a : Int)) := bx.cell 1
  have x2 : V2.cell? ⟨w.heap.size, 2, none⟩ = some (.int .i64 (b : Int)) := bx.cell 2
  have x3 : V2.cell? ⟨w.heap.size, 3, none⟩ = some (.int .i64 (d : Int)) := bx.cell 3
  have x4 : V2.cell? ⟨w.heap.size, 4, none⟩ = some (.int .i16 i) := bx.cell 4
  have s0 : V2.cell? ⟨B, 0, none⟩ = some (.int .i64 s.pc) := hP.cpu.cell 0
  have sf := hP.cpu.free
  go_upto_region 11 with fail
  clear x0 x1 x2 x3 x4 s0 sf
  have x2 : Atv ⟨w.heap.size, 2, none⟩ (.int .i64 (b : Int)) (V2.drew) := (bx.grew (Grew.refl _).drw).atv 2 rfl
  have rb : Atv ⟨B, 1 + b, none⟩ (.int .i16 (s.reg b)) (V2.drew) := (hP.cpu.grew (Grew.refl _).drw).atv (1 + b) (stv_at HS.out (by omega))
  refine wp_still_tail 9 [some 40, some 41, some 42, some 43, some 44, some 45, some 46, some 47, some 48] [false, false, false, false, false, false, false, false, false, false, false, false, false, false, false, false, false, false, false, false, false, false, false, false, false, false, false, false, false, false, false, false, false, false, false, false, false, false, false, false, true, true, true, true, true, true, true, true, true, false, false, false, false, false, false, false, false, false, false, false, false, false, false, false, false, false, false, false, false, false, false, false, false, false, false, false, false, false, false, false, false, false, false, false, false, false, false, false, false, false, false, false, false, false, false, false, false, false, false, false, false, false, false, false, false, false, false, false, false, false, false, false, false, false, false, false, false, false, false, false, false, false, false, false, false, false, false, false, false, false, false, false, false, false, false, false, false, false, false, false, false, false, false, false, false, false, false, false, false, false, false, false, false, false, false, false, false, false, false, false, false, false, false, false, false, false, false, false, false, false, false, false, false, false, false, false, false, false, false, false, false, false, false, false, false, false, false, false, false, false, false, false, false, false, false, false, false, false, false, false, false, false, false, false, false, false, false, false, false, false] [fun v _ => v = .pointer (some ⟨B, 1 + a, none⟩), fun v _ => v = .pointer (some ⟨B, 0, none⟩), fun v _ => v = .pointer (some ⟨w.heap.size, 2, none⟩), fun v _ => v = .int .i64 (((b : Nat) : Int)), fun v _ => v = .pointer (some ⟨B, 0, none⟩), fun v _ => v = .pointer (some ⟨B, 1, none⟩), fun v _ => v = .pointer (some ⟨B, 1 + b, none⟩), fun v _ => v = .int .i16 (s.reg b), fun v _ => v = .pointer (some ⟨B, 1 + a, none⟩)] (by kernel_rfl) (by kernel_rfl) (by kernel_rfl) rfl ⟨?_, ?_, ?_, ?_, ?_, ?_, ?_, ?_, ?_, trivial⟩ ?_
  · intro u w hR hd; exact runs_mv (ev rfl) ⟨rfl, rfl⟩
  · intro u w hR hd; exact runs_mv (ev rfl) ⟨rfl, rfl⟩
  · intro u w hR hd; exact rn_fld_72_2 (ev rfl) ⟨rfl, rfl⟩
  · intro u w hR hd; exact rn_ld_3 (ev (hd.1 rfl)) (x2.kept hR) ⟨rfl, rfl⟩
  · intro u w hR hd; exact rn_nil (ev (hd.1 rfl)) ⟨rfl, rfl⟩
  · intro u w hR hd; exact rn_fld_43_1 (ev (hd.1 rfl)) ⟨rfl, rfl⟩
  · intro u w hR hd; exact rn_idxa_30 (b) (ev (hd.1 rfl)) (ev (hd.2.1 rfl)) (by omega) ⟨rfl, rfl⟩
  · intro u w hR hd; exact rn_ld_29 (ev (hd.1 rfl)) (rb.kept hR) ⟨rfl, rfl⟩
  · intro u w hR hd; exact rn_nil (ev (hd.1 rfl)) ⟨rfl, rfl⟩
  intro u h
  have e1 : u 48 = .pointer (some ⟨B, 1 + a, none⟩) := h 8 (by decide)
  have e2 : u 47 = .int .i16 (s.reg b) := h 7 (by decide)
  replace hP := hP.grew (Grew.refl _).drw
  replace bx : Blk w.heap.size (cdv ⟨3, a, b, d, i⟩) 72 (V2.drew) := bx.grew (Grew.refl V2).drw
  have c9 : (V2.drew).cell? ⟨B, 1 + a, none⟩ = some (.int .i16 (s.reg a)) := by rw [hP.cpu.cell]; exact stv_at HS.out (by omega)
  have f9 := hP.cpu.free (1 + a)
  refine wpAny_one (i := 9) none (by kernel_rfl) rfl rfl rfl (rn_st_29 (ev e1) (ev e2) c9 f9 ?_)
  refine wpAny_done (by kernel_rfl) ?_ _
  simp only [Act.put, mixA, mixL, zz9, zz0, zz4, zz6, zz5]
  generalize hW : World.setCell _ _ _ = V3
  replace hP : Pf CPT N B q S (s.to a (s.reg b) s.pc) W w V3 := hW ▸ hP.set a _
  clear hW h e1 e2 c9 f9 rb x2 bx
  have s0 : V3.cell? ⟨B, 0, none⟩ = some (.int .i64 s.pc) := hP.cpu.cell 0
  have sf := hP.cpu.free
  go_wp2
  go_ret
  exact ⟨rfl, hP.pc (s.pc + 1)⟩
end Go.Proofs.YtbhglpiiabpdjaaDoor
