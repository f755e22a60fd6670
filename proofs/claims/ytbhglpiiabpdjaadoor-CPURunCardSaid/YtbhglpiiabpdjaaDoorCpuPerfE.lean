/-
  LAYER 12 (cpu): perform, one theorem for each operation.
-/
import Derived.Test.YtbhglpiiabpdjaaDoorShort
import Derived.Test.YtbhglpiiabpdjaaDoorCpuPerfOps
namespace Go.Proofs.YtbhglpiiabpdjaaDoor
open Go Go.RowKit Go.IntWalk Go.WideShapes
set_option linter.unusedSimpArgs false
set_option linter.unusedVariables false
set_option maxRecDepth 8000
set_option maxHeartbeats 4000000 in
theorem perf_27 (a b d : Nat) (ha : a < 8) (hb : b < 8) (hd : d < 8) (i n : Int) (N B q : Nat) (S : Nat → Prop) (s : St) (W : Wd) (w : World) (hcb : Blk B (stv s) CPT w) (hbus : Bus N w q W S) (hE : EnvN N w) (hs : s.Ok) (hl : W.cs.length ≤ 90000) (hN : N ≤ w.heap.size) (hNB : N ≤ B) (hp : -9223372036854775808 ≤ s.pc ∧ s.pc < 9223372036854775807) :
    Calls Tryd.prog 56 #[.pointer (some ⟨B, 0, none⟩), cdV ⟨27, a, b, d, i⟩, .int .i64 n, (.iface 47 (.pointer (some ⟨q, 0, none⟩)))] w fun e w' => e = .returned (.bool (perf ⟨27, a, b, d, i⟩ n s W).1) ∧ Pf CPT N B q S (perf ⟨27, a, b, d, i⟩ n s W).2.1 (perf ⟨27, a, b, d, i⟩ n s W).2.2 w w' := by
  rw [show perf ⟨27, a, b, d, i⟩ n s W = ((W.call 7 n 0).okb, ⟨s.pc + 1, s.xs⟩, W.call 7 n 0) from rfl]
  have HS := Lib.hid hs
  have HL : Hid (W.cs.length ≤ 100000) := Lib.hid (by omega)
  have HN := Lib.hid hN
  have hP := Pf.start hcb hbus
  obtain ⟨p0, p1⟩ := hp
  have HE := Lib.hid hE
  have hBl := hcb.lt
  clear hs hl hN hcb hE hbus hNB
  go_enter Tryd.func56, Tryd.ntmps56
  go_wp2
  generalize hV : World.alloc _ _ = V
  have bx : Blk w.heap.size (cdv ⟨27, a, b, d, i⟩) 72 V := by subst hV; exact Blk.new w (cdv ⟨27, a, b, d, i⟩) _
  have hg : Grew w V := by subst hV; exact (Grew.refl _).alloc _
  clear hV
  replace hP := hP.grew hg
  replace HE := Lib.hid (HE.out.grew hg)
  clear hg
  have x1 : Atv ⟨w.heap.size, 1, none⟩ (.int .i64 (a : Int)) (V.drew) := (bx.grew (Grew.refl _).drw).atv 1 rfl
  refine wp_still [some 12, some 13, some 14, some 15, some 16, some 17, some 10] zD6 [fun v _ => v = .pointer (some ⟨B, 0, none⟩), fun v _ => v = .pointer (some ⟨w.heap.size, 1, none⟩), fun v _ => v = .int .i64 (((a : Nat) : Int)), fun v _ => v = .pointer (some ⟨B, 0, none⟩), fun v _ => v = .pointer (some ⟨B, 1, none⟩), fun v _ => v = .pointer (some ⟨B, 1 + a, none⟩), fun v _ => v = .pointer (some ⟨B, 1 + a, none⟩)] (by kernel_rfl) (by kernel_rfl) rfl ⟨?_, ?_, ?_, ?_, ?_, ?_, ?_, trivial⟩ ?_
  · intro u w hR hd; exact runs_mv (ev rfl) ⟨rfl, rfl⟩
  · intro u w hR hd; exact rn_fld_72_1 (ev rfl) ⟨rfl, rfl⟩
  · intro u w hR hd; exact rn_ld_3 (ev (hd.1 rfl)) (x1.kept hR) ⟨rfl, rfl⟩
  · intro u w hR hd; exact rn_nil (ev (hd.1 rfl)) ⟨rfl, rfl⟩
  · intro u w hR hd; exact rn_fld_43_1 (ev (hd.1 rfl)) ⟨rfl, rfl⟩
  · intro u w hR hd; exact rn_idxa_30 (a) (ev (hd.1 rfl)) (ev (hd.2.1 rfl)) (by omega) ⟨rfl, rfl⟩
  · intro u w hR hd; exact runs_mva (ev (hd.1 rfl)) ⟨rfl, rfl⟩
  intro u h
  have he : u 10 = .pointer (some ⟨B, 1 + a, none⟩) := h 6 (by decide)
  simp only [mixA, mixL, zz9, zz0]
  rw [he]
  clear h he x1
  generalize hV : V.drew = V2
  replace bx : Blk w.heap.size (cdv ⟨27, a, b, d, i⟩) 72 V2 := by subst hV; exact bx.grew (Grew.refl _).drw
  replace hP : Pf CPT N B q S s W w V2 := by subst hV; exact hP.grew (Grew.refl _).drw
  replace HE : Hid (EnvN N V2) := Lib.hid (by subst hV; exact HE.out.grew (Grew.refl _).drw)
  clear hV
  have x0 : V2.cell? ⟨w.heap.size, 0, none⟩ = some (.int .i64 27) := bx.cell 0
  have x1 : V2.cell? ⟨w.heap.size, 1, none⟩ = some (.int .i64 (a : Int)) := bx.cell 1
  have x2 : V2.cell? ⟨w.heap.size, 2, none⟩ = some (.int .i64 (b : Int)) := bx.cell 2
  have x3 : V2.cell? ⟨w.heap.size, 3, none⟩ = some (.int .i64 (d : Int)) := bx.cell 3
  have x4 : V2.cell? ⟨w.heap.size, 4, none⟩ = some (.int .i16 i) := bx.cell 4
  have s0 : V2.cell? ⟨B, 0, none⟩ = some (.int .i64 s.pc) := hP.cpu.cell 0
  have sf := hP.cpu.free
  have hm_Log : ∀ w, (method (153 + Made.depth) 47 (.pointer (some ⟨q, 0, none⟩)) "Log").run Tryd.prog w = .ok (41, .pointer (some ⟨q, 0, none⟩)) w := fun _ => by kernel_rfl
  go_wp2_with (go_at_call 41; (with_reducible refine (logw_pf hP n HL.out HN.out).mono ?_); rintro r w5 ⟨rfl, hP5⟩; clear s0 sf; have s0 : w5.cell? ⟨B, 0, none⟩ = some (.int .i64 s.pc) := hP5.cpu.cell 0; have sf := hP5.cpu.free; have HP5 := Lib.hid hP5; clear hP5)
  go_ret
  exact ⟨rfl, HP5.out.pc (s.pc + 1)⟩
set_option maxHeartbeats 4000000 in
theorem perf_28 (a b d : Nat) (ha : a < 8) (hb : b < 8) (hd : d < 8) (i n : Int) (N B q : Nat) (S : Nat → Prop) (s : St) (W : Wd) (w : World) (hcb : Blk B (stv s) CPT w) (hbus : Bus N w q W S) (hE : EnvN N w) (hs : s.Ok) (hl : W.cs.length ≤ 90000) (hN : N ≤ w.heap.size) (hNB : N ≤ B) (hp : -9223372036854775808 ≤ s.pc ∧ s.pc < 9223372036854775807) :
    Calls Tryd.prog 56 #[.pointer (some ⟨B, 0, none⟩), cdV ⟨28, a, b, d, i⟩, .int .i64 n, (.iface 47 (.pointer (some ⟨q, 0, none⟩)))] w fun e w' => e = .returned (.bool (perf ⟨28, a, b, d, i⟩ n s W).1) ∧ Pf CPT N B q S (perf ⟨28, a, b, d, i⟩ n s W).2.1 (perf ⟨28, a, b, d, i⟩ n s W).2.2 w w' := by
  rw [show perf ⟨28, a, b, d, i⟩ n s W = ((W.call 7 n 0).okb, ⟨s.pc + 1, s.xs⟩, W.call 7 n 0) from rfl]
  have HS := Lib.hid hs
  have HL : Hid (W.cs.length ≤ 100000) := Lib.hid (by omega)
  have HN := Lib.hid hN
  have hP := Pf.start hcb hbus
  obtain ⟨p0, p1⟩ := hp
  have HE := Lib.hid hE
  have hBl := hcb.lt
  clear hs hl hN hcb hE hbus hNB
  go_enter Tryd.func56, Tryd.ntmps56
  go_wp2
  generalize hV : World.alloc _ _ = V
  have bx : Blk w.heap.size (cdv ⟨28, a, b, d, i⟩) 72 V := by subst hV; exact Blk.new w (cdv ⟨28, a, b, d, i⟩) _
  have hg : Grew w V := by subst hV; exact (Grew.refl _).alloc _
  clear hV
  replace hP := hP.grew hg
  replace HE := Lib.hid (HE.out.grew hg)
  clear hg
  have x1 : Atv ⟨w.heap.size, 1, none⟩ (.int .i64 (a : Int)) (V.drew) := (bx.grew (Grew.refl _).drw).atv 1 rfl
  refine wp_still [some 12, some 13, some 14, some 15, some 16, some 17, some 10] zD6 [fun v _ => v = .pointer (some ⟨B, 0, none⟩), fun v _ => v = .pointer (some ⟨w.heap.size, 1, none⟩), fun v _ => v = .int .i64 (((a : Nat) : Int)), fun v _ => v = .pointer (some ⟨B, 0, none⟩), fun v _ => v = .pointer (some ⟨B, 1, none⟩), fun v _ => v = .pointer (some ⟨B, 1 + a, none⟩), fun v _ => v = .pointer (some ⟨B, 1 + a, none⟩)] (by kernel_rfl) (by kernel_rfl) rfl ⟨?_, ?_, ?_, ?_, ?_, ?_, ?_, trivial⟩ ?_
  · intro u w hR hd; exact runs_mv (ev rfl) ⟨rfl, rfl⟩
  · intro u w hR hd; exact rn_fld_72_1 (ev rfl) ⟨rfl, rfl⟩
  · intro u w hR hd; exact rn_ld_3 (ev (hd.1 rfl)) (x1.kept hR) ⟨rfl, rfl⟩
  · intro u w hR hd; exact rn_nil (ev (hd.1 rfl)) ⟨rfl, rfl⟩
  · intro u w hR hd; exact rn_fld_43_1 (ev (hd.1 rfl)) ⟨rfl, rfl⟩
  · intro u w hR hd; exact rn_idxa_30 (a) (ev (hd.1 rfl)) (ev (hd.2.1 rfl)) (by omega) ⟨rfl, rfl⟩
  · intro u w hR hd; exact runs_mva (ev (hd.1 rfl)) ⟨rfl, rfl⟩
  intro u h
  have he : u 10 = .pointer (some ⟨B, 1 + a, none⟩) := h 6 (by decide)
  simp only [mixA, mixL, zz9, zz0]
  rw [he]
  clear h he x1
  generalize hV : V.drew = V2
  replace bx : Blk w.heap.size (cdv ⟨28, a, b, d, i⟩) 72 V2 := by subst hV; exact bx.grew (Grew.refl _).drw
  replace hP : Pf CPT N B q S s W w V2 := by subst hV; exact hP.grew (Grew.refl _).drw
  replace HE : Hid (EnvN N V2) := Lib.hid (by subst hV; exact HE.out.grew (Grew.refl _).drw)
  clear hV
  have x0 : V2.cell? ⟨w.heap.size, 0, none⟩ = some (.int .i64 28) := bx.cell 0
  have x1 : V2.cell? ⟨w.heap.size, 1, none⟩ = some (.int .i64 (a : Int)) := bx.cell 1
  have x2 : V2.cell? ⟨w.heap.size, 2, none⟩ = some (.int .i64 (b : Int)) := bx.cell 2
  have x3 : V2.cell? ⟨w.heap.size, 3, none⟩ = some (.int .i64 (d : Int)) := bx.cell 3
  have x4 : V2.cell? ⟨w.heap.size, 4, none⟩ = some (.int .i16 i) := bx.cell 4
  have s0 : V2.cell? ⟨B, 0, none⟩ = some (.int .i64 s.pc) := hP.cpu.cell 0
  have sf := hP.cpu.free
  have hm_Log : ∀ w, (method (153 + Made.depth) 47 (.pointer (some ⟨q, 0, none⟩)) "Log").run Tryd.prog w = .ok (41, .pointer (some ⟨q, 0, none⟩)) w := fun _ => by kernel_rfl
  go_wp2_with (go_at_call 41; (with_reducible refine (logw_pf hP n HL.out HN.out).mono ?_); rintro r w5 ⟨rfl, hP5⟩; clear s0 sf; have s0 : w5.cell? ⟨B, 0, none⟩ = some (.int .i64 s.pc) := hP5.cpu.cell 0; have sf := hP5.cpu.free; have HP5 := Lib.hid hP5; clear hP5)
  go_ret
  exact ⟨rfl, HP5.out.pc (s.pc + 1)⟩
set_option maxHeartbeats 4000000 in
theorem perf_15 (a b d : Nat) (ha : a < 8) (hb : b < 8) (hd : d < 8) (i n : Int) (N B q : Nat) (S : Nat → Prop) (s : St) (W : Wd) (w : World) (hcb : Blk B (stv s) CPT w) (hbus : Bus N w q W S) (hE : EnvN N w) (hs : s.Ok) (hl : W.cs.length ≤ 90000) (hN : N ≤ w.heap.size) (hNB : N ≤ B) (hp : -9223372036854775808 ≤ s.pc ∧ s.pc < 9223372036854775807) (hdn : dat n = true) :
    Calls Tryd.prog 56 #[.pointer (some ⟨B, 0, none⟩), cdV ⟨15, a, b, d, i⟩, .int .i64 n, (.iface 47 (.pointer (some ⟨q, 0, none⟩)))] w fun e w' => e = .returned (.bool (perf ⟨15, a, b, d, i⟩ n s W).1) ∧ Pf CPT N B q S (perf ⟨15, a, b, d, i⟩ n s W).2.1 (perf ⟨15, a, b, d, i⟩ n s W).2.2 w w' := by
  rw [show perf ⟨15, a, b, d, i⟩ n s W = ((W.store n (s.reg a)).1, ⟨s.pc + 1, s.xs⟩, (W.store n (s.reg a)).2) from rfl]
  have HS := Lib.hid hs
  have HL : Hid (W.cs.length ≤ 100000) := Lib.hid (by omega)
  have HN := Lib.hid hN
  have hP := Pf.start hcb hbus
  obtain ⟨p0, p1⟩ := hp
  have HE := Lib.hid hE
  have hBl := hcb.lt
  have HD := Lib.hid hdn
  clear hdn
  clear hs hl hN hcb hE hbus hNB
  go_enter Tryd.func56, Tryd.ntmps56
  go_wp2
  generalize hV : World.alloc _ _ = V
  have bx : Blk w.heap.size (cdv ⟨15, a, b, d, i⟩) 72 V := by subst hV; exact Blk.new w (cdv ⟨15, a, b, d, i⟩) _
  have hg : Grew w V := by subst hV; exact (Grew.refl _).alloc _
  clear hV
  replace hP := hP.grew hg
  replace HE := Lib.hid (HE.out.grew hg)
  clear hg
  have x1 : Atv ⟨w.heap.size, 1, none⟩ (.int .i64 (a : Int)) (V.drew) := (bx.grew (Grew.refl _).drw).atv 1 rfl
  refine wp_still [some 12, some 13, some 14, some 15, some 16, some 17, some 10] zD6 [fun v _ => v = .pointer (some ⟨B, 0, none⟩), fun v _ => v = .pointer (some ⟨w.heap.size, 1, none⟩), fun v _ => v = .int .i64 (((a : Nat) : Int)), fun v _ => v = .pointer (some ⟨B, 0, none⟩), fun v _ => v = .pointer (some ⟨B, 1, none⟩), fun v _ => v = .pointer (some ⟨B, 1 + a, none⟩), fun v _ => v = .pointer (some ⟨B, 1 + a, none⟩)] (by kernel_rfl) (by kernel_rfl) rfl ⟨?_, ?_, ?_, ?_, ?_, ?_, ?_, trivial⟩ ?_
  · intro u w hR hd; exact runs_mv (ev rfl) ⟨rfl, rfl⟩
  · intro u w hR hd; exact rn_fld_72_1 (ev rfl) ⟨rfl, rfl⟩
  · intro u w hR hd; exact rn_ld_3 (ev (hd.1 rfl)) (x1.kept hR) ⟨rfl, rfl⟩
  · intro u w hR hd; exact rn_nil (ev (hd.1 rfl)) ⟨rfl, rfl⟩
  · intro u w hR hd; exact rn_fld_43_1 (ev (hd.1 rfl)) ⟨rfl, rfl⟩
  · intro u w hR hd; exact rn_idxa_30 (a) (ev (hd.1 rfl)) (ev (hd.2.1 rfl)) (by omega) ⟨rfl, rfl⟩
  · intro u w hR hd; exact runs_mva (ev (hd.1 rfl)) ⟨rfl, rfl⟩
  intro u h
  have he : u 10 = .pointer (some ⟨B, 1 + a, none⟩) := h 6 (by decide)
  simp only [mixA, mixL, zz9, zz0]
  rw [he]
  clear h he x1
  generalize hV : V.drew = V2
  replace bx : Blk w.heap.size (cdv ⟨15, a, b, d, i⟩) 72 V2 := by subst hV; exact bx.grew (Grew.refl _).drw
  replace hP : Pf CPT N B q S s W w V2 := by subst hV; exact hP.grew (Grew.refl _).drw
  replace HE : Hid (EnvN N V2) := Lib.hid (by subst hV; exact HE.out.grew (Grew.refl _).drw)
  clear hV
  have x0 : V2.cell? ⟨w.heap.size, 0, none⟩ = some (.int .i64 15) := bx.cell 0
  have x1 : V2.cell? ⟨w.heap.size, 1, none⟩ = some (.int .i64 (a : Int)) := bx.cell 1
  have x2 : V2.cell? ⟨w.heap.size, 2, none⟩ = some (.int .i64 (b : Int)) := bx.cell 2
  have x3 : V2.cell? ⟨w.heap.size, 3, none⟩ = some (.int .i64 (d : Int)) := bx.cell 3
  have x4 : V2.cell? ⟨w.heap.size, 4, none⟩ = some (.int .i16 i) := bx.cell 4
  have s0 : V2.cell? ⟨B, 0, none⟩ = some (.int .i64 s.pc) := hP.cpu.cell 0
  have sf := hP.cpu.free
  go_upto_region 29 with fail
  clear x0 x1 x2 x3 x4 s0 sf
  have hna : ∀ w, (nilAhead (153 + Made.depth) 47 (.pointer (some ⟨q, 0, none⟩)) "Store").run Tryd.prog w = .ok (some false) w := fun _ => by kernel_rfl
  have hm_Store : ∀ w, (method (153 + Made.depth) 47 (.pointer (some ⟨q, 0, none⟩)) "Store").run Tryd.prog w = .ok (35, .pointer (some ⟨q, 0, none⟩)) w := fun _ => by kernel_rfl
  have ra : Atv ⟨B, 1 + a, none⟩ (.int .i16 (s.reg a)) (V2.drew) := (hP.cpu.grew (Grew.refl _).drw).atv (1 + a) (stv_at HS.out (by omega))
  refine wp_still_tail 8 [some 118, some 119, some 120, some 121, some 122, some 123, some 124, some 125] zD0 [fun v _ => v = (.iface 47 (.pointer (some ⟨q, 0, none⟩))), fun v _ => v = .int .i64 (n), fun v _ => v = .pointer (some ⟨B, 1 + a, none⟩), fun v _ => v = .pointer (some ⟨B, 1 + a, none⟩), fun v _ => v = .int .i16 (s.reg a), fun v _ => v = .func (.method "Store") #[(.iface 47 (.pointer (some ⟨q, 0, none⟩)))] #[], fun v _ => v = .func (.method "Store") #[(.iface 47 (.pointer (some ⟨q, 0, none⟩)))] #[], fun v _ => v = (.iface 47 (.pointer (some ⟨q, 0, none⟩)))] (by kernel_rfl) (by kernel_rfl) (by kernel_rfl) rfl ⟨?_, ?_, ?_, ?_, ?_, ?_, ?_, ?_, trivial⟩ ?_
  · intro u w hR hd; exact runs_mv (ev rfl) ⟨rfl, rfl⟩
  · intro u w hR hd; exact runs_mv (ev rfl) ⟨rfl, rfl⟩
  · intro u w hR hd; exact runs_mv (ev rfl) ⟨rfl, rfl⟩
  · intro u w hR hd; exact rn_nil (ev (hd.1 rfl)) ⟨rfl, rfl⟩
  · intro u w hR hd; exact rn_ld_29 (ev (hd.1 rfl)) (ra.kept hR) ⟨rfl, rfl⟩
  · intro u w hR hd; exact rn_mkm (ev (hd.1 rfl)) ⟨rfl, rfl⟩
  · intro u w hR hd; exact rn_nilm (ev (hd.1 rfl)) hna ⟨rfl, rfl⟩
  · intro u w hR hd; exact runs_mv (ev (hd.1 rfl)) ⟨rfl, rfl⟩
  intro u h
  have e0 : u 125 = (.iface 47 (.pointer (some ⟨q, 0, none⟩))) := h 7 (by decide)
  have e1 : u 119 = .int .i64 n := h 1 (by decide)
  have e2 : u 122 = .int .i16 (s.reg a) := h 4 (by decide)
  replace hP := hP.grew (Grew.refl _).drw
  refine wpAny_one (i := 8) (some 126) (by kernel_rfl) rfl rfl rfl (rn_inv2 en_st hm_Store (ev e0) (ev e1) (ev e2) ((store_pf hP n (s.reg a) HD.out (HS.out.reg a) HL.out HN.out).mono ?_))
  rintro r w5 ⟨rfl, hP5⟩
  refine ⟨_, rfl, ?_⟩
  refine wpAny_one (i := 9) (some 9) (by kernel_rfl) rfl rfl rfl (runs_mva (ev rfl) ?_)
  refine wpAny_done (by kernel_rfl) ?_ _
  simp only [Act.put, mixA, mixL, zz9, zz0, zz4, zz6, zz5]
  clear h e0 e1 e2 ra bx hna hm_Store hP
  have s0 : w5.cell? ⟨B, 0, none⟩ = some (.int .i64 s.pc) := hP5.cpu.cell 0
  have sf := hP5.cpu.free
  have HP5 := Lib.hid hP5
  clear hP5
  go_wp2
  go_ret
  exact ⟨rfl, HP5.out.pc (s.pc + 1)⟩
set_option maxHeartbeats 4000000 in
theorem perf_17 (a b d : Nat) (ha : a < 8) (hb : b < 8) (hd : d < 8) (i n : Int) (N B q : Nat) (S : Nat → Prop) (s : St) (W : Wd) (w : World) (hcb : Blk B (stv s) CPT w) (hbus : Bus N w q W S) (hE : EnvN N w) (hs : s.Ok) (hl : W.cs.length ≤ 90000) (hN : N ≤ w.heap.size) (hNB : N ≤ B) (hp : -9223372036854775808 ≤ s.pc ∧ s.pc < 9223372036854775807) (hdn : dat n = true) :
    Calls Tryd.prog 56 #[.pointer (some ⟨B, 0, none⟩), cdV ⟨17, a, b, d, i⟩, .int .i64 n, (.iface 47 (.pointer (some ⟨q, 0, none⟩)))] w fun e w' => e = .returned (.bool (perf ⟨17, a, b, d, i⟩ n s W).1) ∧ Pf CPT N B q S (perf ⟨17, a, b, d, i⟩ n s W).2.1 (perf ⟨17, a, b, d, i⟩ n s W).2.2 w w' := by
  rw [show perf ⟨17, a, b, d, i⟩ n s W = ((W.store n (s.reg a)).1, ⟨s.pc + 1, s.xs⟩, (W.store n (s.reg a)).2) from rfl]
  have HS := Lib.hid hs
  have HL : Hid (W.cs.length ≤ 100000) := Lib.hid (by omega)
  have HN := Lib.hid hN
  have hP := Pf.start hcb hbus
  obtain ⟨p0, p1⟩ := hp
  have HE := Lib.hid hE
  have hBl := hcb.lt
  have HD := Lib.hid hdn
  clear hdn
  clear hs hl hN hcb hE hbus hNB
  go_enter Tryd.func56, Tryd.ntmps56
  go_wp2
  generalize hV : World.alloc _ _ = V
  have bx : Blk w.heap.size (cdv ⟨17, a, b, d, i⟩) 72 V := by subst hV; exact Blk.new w (cdv ⟨17, a, b, d, i⟩) _
  have hg : Grew w V := by subst hV; exact (Grew.refl _).alloc _
  clear hV
  replace hP := hP.grew hg
  replace HE := Lib.hid (HE.out.grew hg)
  clear hg
  have x1 : Atv ⟨w.heap.size, 1, none⟩ (.int .i64 (a : Int)) (V.drew) := (bx.grew (Grew.refl _).drw).atv 1 rfl
  refine wp_still [some 12, some 13, some 14, some 15, some 16, some 17, some 10] zD6 [fun v _ => v = .pointer (some ⟨B, 0, none⟩), fun v _ => v = .pointer (some ⟨w.heap.size, 1, none⟩), fun v _ => v = .int .i64 (((a : Nat) : Int)), fun v _ => v = .pointer (some ⟨B, 0, none⟩), fun v _ => v = .pointer (some ⟨B, 1, none⟩), fun v _ => v = .pointer (some ⟨B, 1 + a, none⟩), fun v _ => v = .pointer (some ⟨B, 1 + a, none⟩)] (by kernel_rfl) (by kernel_rfl) rfl ⟨?_, ?_, ?_, ?_, ?_, ?_, ?_, trivial⟩ ?_
  · intro u w hR hd; exact runs_mv (ev rfl) ⟨rfl, rfl⟩
  · intro u w hR hd; exact rn_fld_72_1 (ev rfl) ⟨rfl, rfl⟩
  · intro u w hR hd; exact rn_ld_3 (ev (hd.1 rfl)) (x1.kept hR) ⟨rfl, rfl⟩
  · intro u w hR hd; exact rn_nil (ev (hd.1 rfl)) ⟨rfl, rfl⟩
  · intro u w hR hd; exact rn_fld_43_1 (ev (hd.1 rfl)) ⟨rfl, rfl⟩
  · intro u w hR hd; exact rn_idxa_30 (a) (ev (hd.1 rfl)) (ev (hd.2.1 rfl)) (by omega) ⟨rfl, rfl⟩
  · intro u w hR hd; exact runs_mva (ev (hd.1 rfl)) ⟨rfl, rfl⟩
  intro u h
  have he : u 10 = .pointer (some ⟨B, 1 + a, none⟩) := h 6 (by decide)
  simp only [mixA, mixL, zz9, zz0]
  rw [he]
  clear h he x1
  generalize hV : V.drew = V2
  replace bx : Blk w.heap.size (cdv ⟨17, a, b, d, i⟩) 72 V2 := by subst hV; exact bx.grew (Grew.refl _).drw
  replace hP : Pf CPT N B q S s W w V2 := by subst hV; exact hP.grew (Grew.refl _).drw
  replace HE : Hid (EnvN N V2) := Lib.hid (by subst hV; exact HE.out.grew (Grew.refl _).drw)
  clear hV
  have x0 : V2.cell? ⟨w.heap.size, 0, none⟩ = some (.int .i64 17) := bx.cell 0
  have x1 : V2.cell? ⟨w.heap.size, 1, none⟩ = some (.int .i64 (a : Int)) := bx.cell 1
  have x2 : V2.cell? ⟨w.heap.size, 2, none⟩ = some (.int .i64 (b : Int)) := bx.cell 2
  have x3 : V2.cell? ⟨w.heap.size, 3, none⟩ = some (.int .i64 (d : Int)) := bx.cell 3
  have x4 : V2.cell? ⟨w.heap.size, 4, none⟩ = some (.int .i16 i) := bx.cell 4
  have s0 : V2.cell? ⟨B, 0, none⟩ = some (.int .i64 s.pc) := hP.cpu.cell 0
  have sf := hP.cpu.free
  go_upto_region 29 with fail
  clear x0 x1 x2 x3 x4 s0 sf
  have hna : ∀ w, (nilAhead (153 + Made.depth) 47 (.pointer (some ⟨q, 0, none⟩)) "Store").run Tryd.prog w = .ok (some false) w := fun _ => by kernel_rfl
  have hm_Store : ∀ w, (method (153 + Made.depth) 47 (.pointer (some ⟨q, 0, none⟩)) "Store").run Tryd.prog w = .ok (35, .pointer (some ⟨q, 0, none⟩)) w := fun _ => by kernel_rfl
  have ra : Atv ⟨B, 1 + a, none⟩ (.int .i16 (s.reg a)) (V2.drew) := (hP.cpu.grew (Grew.refl _).drw).atv (1 + a) (stv_at HS.out (by omega))
  refine wp_still_tail 8 [some 118, some 119, some 120, some 121, some 122, some 123, some 124, some 125] zD0 [fun v _ => v = (.iface 47 (.pointer (some ⟨q, 0, none⟩))), fun v _ => v = .int .i64 (n), fun v _ => v = .pointer (some ⟨B, 1 + a, none⟩), fun v _ => v = .pointer (some ⟨B, 1 + a, none⟩), fun v _ => v = .int .i16 (s.reg a), fun v _ => v = .func (.method "Store") #[(.iface 47 (.pointer (some ⟨q, 0, none⟩)))] #[], fun v _ => v = .func (.method "Store") #[(.iface 47 (.pointer (some ⟨q, 0, none⟩)))] #[], fun v _ => v = (.iface 47 (.pointer (some ⟨q, 0, none⟩)))] (by kernel_rfl) (by kernel_rfl) (by kernel_rfl) rfl ⟨?_, ?_, ?_, ?_, ?_, ?_, ?_, ?_, trivial⟩ ?_
  · intro u w hR hd; exact runs_mv (ev rfl) ⟨rfl, rfl⟩
  · intro u w hR hd; exact runs_mv (ev rfl) ⟨rfl, rfl⟩
  · intro u w hR hd; exact runs_mv (ev rfl) ⟨rfl, rfl⟩
  · intro u w hR hd; exact rn_nil (ev (hd.1 rfl)) ⟨rfl, rfl⟩
  · intro u w hR hd; exact rn_ld_29 (ev (hd.1 rfl)) (ra.kept hR) ⟨rfl, rfl⟩
  · intro u w hR hd; exact rn_mkm (ev (hd.1 rfl)) ⟨rfl, rfl⟩
  · intro u w hR hd; exact rn_nilm (ev (hd.1 rfl)) hna ⟨rfl, rfl⟩
  · intro u w hR hd; exact runs_mv (ev (hd.1 rfl)) ⟨rfl, rfl⟩
  intro u h
  have e0 : u 125 = (.iface 47 (.pointer (some ⟨q, 0, none⟩))) := h 7 (by decide)
  have e1 : u 119 = .int .i64 n := h 1 (by decide)
  have e2 : u 122 = .int .i16 (s.reg a) := h 4 (by decide)
  replace hP := hP.grew (Grew.refl _).drw
  refine wpAny_one (i := 8) (some 126) (by kernel_rfl) rfl rfl rfl (rn_inv2 en_st hm_Store (ev e0) (ev e1) (ev e2) ((store_pf hP n (s.reg a) HD.out (HS.out.reg a) HL.out HN.out).mono ?_))
  rintro r w5 ⟨rfl, hP5⟩
  refine ⟨_, rfl, ?_⟩
  refine wpAny_one (i := 9) (some 9) (by kernel_rfl) rfl rfl rfl (runs_mva (ev rfl) ?_)
  refine wpAny_done (by kernel_rfl) ?_ _
  simp only [Act.put, mixA, mixL, zz9, zz0, zz4, zz6, zz5]
  clear h e0 e1 e2 ra bx hna hm_Store hP
  have s0 : w5.cell? ⟨B, 0, none⟩ = some (.int .i64 s.pc) := hP5.cpu.cell 0
  have sf := hP5.cpu.free
  have HP5 := Lib.hid hP5
  clear hP5
  go_wp2
  go_ret
  exact ⟨rfl, HP5.out.pc (s.pc + 1)⟩
set_option maxHeartbeats 4000000 in
theorem perf_24 (a b d : Nat) (ha : a < 8) (hb : b < 8) (hd : d < 8) (i n : Int) (N B q : Nat) (S : Nat → Prop) (s : St) (W : Wd) (w : World) (hcb : Blk B (stv s) CPT w) (hbus : Bus N w q W S) (hE : EnvN N w) (hs : s.Ok) (hl : W.cs.length ≤ 90000) (hN : N ≤ w.heap.size) (hNB : N ≤ B) (hp : -9223372036854775808 ≤ s.pc ∧ s.pc < 9223372036854775807) :
    Calls Tryd.prog 56 #[.pointer (some ⟨B, 0, none⟩), cdV ⟨24, a, b, d, i⟩, .int .i64 n, (.iface 47 (.pointer (some ⟨q, 0, none⟩)))] w fun e w' => e = .returned (.bool (perf ⟨24, a, b, d, i⟩ n s W).1) ∧ Pf CPT N B q S (perf ⟨24, a, b, d, i⟩ n s W).2.1 (perf ⟨24, a, b, d, i⟩ n s W).2.2 w w' := by
  rw [show perf ⟨24, a, b, d, i⟩ n s W = ((W.call 4 n (s.reg a)).okb, ⟨s.pc + 1, s.xs⟩, W.call 4 n (s.reg a)) from rfl]
  have HS := Lib.hid hs
  have HL : Hid (W.cs.length ≤ 100000) := Lib.hid (by omega)
  have HN := Lib.hid hN
  have hP := Pf.start hcb hbus
  obtain ⟨p0, p1⟩ := hp
  have HE := Lib.hid hE
  have hBl := hcb.lt
  clear hs hl hN hcb hE hbus hNB
  go_enter Tryd.func56, Tryd.ntmps56
  go_wp2
  generalize hV : World.alloc _ _ = V
  have bx : Blk w.heap.size (cdv ⟨24, a, b, d, i⟩) 72 V := by subst hV; exact Blk.new w (cdv ⟨24, a, b, d, i⟩) _
  have hg : Grew w V := by subst hV; exact (Grew.refl _).alloc _
  clear hV
  replace hP := hP.grew hg
  replace HE := Lib.hid (HE.out.grew hg)
  clear hg
  have x1 : Atv ⟨w.heap.size, 1, none⟩ (.int .i64 (a : Int)) (V.drew) := (bx.grew (Grew.refl _).drw).atv 1 rfl
  refine wp_still [some 12, some 13, some 14, some 15, some 16, some 17, some 10] zD6 [fun v _ => v = .pointer (some ⟨B, 0, none⟩), fun v _ => v = .pointer (some ⟨w.heap.size, 1, none⟩), fun v _ => v = .int .i64 (((a : Nat) : Int)), fun v _ => v = .pointer (some ⟨B, 0, none⟩), fun v _ => v = .pointer (some ⟨B, 1, none⟩), fun v _ => v = .pointer (some ⟨B, 1 + a, none⟩), fun v _ => v = .pointer (some ⟨B, 1 + a, none⟩)] (by kernel_rfl) (by kernel_rfl) rfl ⟨?_, ?_, ?_, ?_, ?_, ?_, ?_, trivial⟩ ?_
  · intro u w hR hd; exact runs_mv (ev rfl) ⟨rfl, rfl⟩
  · intro u w hR hd; exact rn_fld_72_1 (ev rfl) ⟨rfl, rfl⟩
  · intro u w hR hd; exact rn_ld_3 (ev (hd.1 rfl)) (x1.kept hR) ⟨rfl, rfl⟩
  · intro u w hR hd; exact rn_nil (ev (hd.1 rfl)) ⟨rfl, rfl⟩
  · intro u w hR hd; exact rn_fld_43_1 (ev (hd.1 rfl)) ⟨rfl, rfl⟩
  · intro u w hR hd; exact rn_idxa_30 (a) (ev (hd.1 rfl)) (ev (hd.2.1 rfl)) (by omega) ⟨rfl, rfl⟩
  · intro u w hR hd; exact runs_mva (ev (hd.1 rfl)) ⟨rfl, rfl⟩
  intro u h
  have he : u 10 = .pointer (some ⟨B, 1 + a, none⟩) := h 6 (by decide)
  simp only [mixA, mixL, zz9, zz0]
  rw [he]
  clear h he x1
  generalize hV : V.drew = V2
  replace bx : Blk w.heap.size (cdv ⟨24, a, b, d, i⟩) 72 V2 := by subst hV; exact bx.grew (Grew.refl _).drw
  replace hP : Pf CPT N B q S s W w V2 := by subst hV; exact hP.grew (Grew.refl _).drw
  replace HE : Hid (EnvN N V2) := Lib.hid (by subst hV; exact HE.out.grew (Grew.refl _).drw)
  clear hV
  have x0 : V2.cell? ⟨w.heap.size, 0, none⟩ = some (.int .i64 24) := bx.cell 0
  have x1 : V2.cell? ⟨w.heap.size, 1, none⟩ = some (.int .i64 (a : Int)) := bx.cell 1
  have x2 : V2.cell? ⟨w.heap.size, 2, none⟩ = some (.int .i64 (b : Int)) := bx.cell 2
  have x3 : V2.cell? ⟨w.heap.size, 3, none⟩ = some (.int .i64 (d : Int)) := bx.cell 3
  have x4 : V2.cell? ⟨w.heap.size, 4, none⟩ = some (.int .i16 i) := bx.cell 4
  have s0 : V2.cell? ⟨B, 0, none⟩ = some (.int .i64 s.pc) := hP.cpu.cell 0
  have sf := hP.cpu.free
  go_upto_region 42 with fail
  clear x0 x1 x2 x3 x4 s0 sf
  have hna : ∀ w, (nilAhead (153 + Made.depth) 47 (.pointer (some ⟨q, 0, none⟩)) "Send").run Tryd.prog w = .ok (some false) w := fun _ => by kernel_rfl
  have hm_Send : ∀ w, (method (153 + Made.depth) 47 (.pointer (some ⟨q, 0, none⟩)) "Send").run Tryd.prog w = .ok (38, .pointer (some ⟨q, 0, none⟩)) w := fun _ => by kernel_rfl
  have ra : Atv ⟨B, 1 + a, none⟩ (.int .i16 (s.reg a)) (V2.drew) := (hP.cpu.grew (Grew.refl _).drw).atv (1 + a) (stv_at HS.out (by omega))
  refine wp_still_tail 8 [some 169, some 170, some 171, some 172, some 173, some 174, some 175, some 176] [false, false, false, false, false, false, false, false, false, false, false, false, false, false, false, false, false, false, false, false, false, false, false, false, false, false, false, false, false, false, false, false, false, false, false, false, false, false, false, false, false, false, false, false, false, false, false, false, false, false, false, false, false, false, false, false, false, false, false, false, false, false, false, false, false, false, false, false, false, false, false, false, false, false, false, false, false, false, false, false, false, false, false, false, false, false, false, false, false, false, false, false, false, false, false, false, false, false, false, false, false, false, false, false, false, false, false, false, false, false, false, false, false, false, false, false, false, false, false, false, false, false, false, false, false, false, false, false, false, false, false, false, false, false, false, false, false, false, false, false, false, false, false, false, false, false, false, false, false, false, false, false, false, false, false, false, false, false, false, false, false, false, false, false, false, false, false, false, false, true, true, true, true, true, true, true, true, false, false, false, false, false, false, false, false, false, false, false, false, false, false, false, false, false, false, false, false, false, false, false, false, false, false, false, false, false, false, false, false, false] [fun v _ => v = (.iface 47 (.pointer (some ⟨q, 0, none⟩))), fun v _ => v = .int .i64 (n), fun v _ => v = .pointer (some ⟨B, 1 + a, none⟩), fun v _ => v = .pointer (some ⟨B, 1 + a, none⟩), fun v _ => v = .int .i16 (s.reg a), fun v _ => v = .func (.method "Send") #[(.iface 47 (.pointer (some ⟨q, 0, none⟩)))] #[], fun v _ => v = .func (.method "Send") #[(.iface 47 (.pointer (some ⟨q, 0, none⟩)))] #[], fun v _ => v = (.iface 47 (.pointer (some ⟨q, 0, none⟩)))] (by kernel_rfl) (by kernel_rfl) (by kernel_rfl) rfl ⟨?_, ?_, ?_, ?_, ?_, ?_, ?_, ?_, trivial⟩ ?_
  · intro u w hR hd; exact runs_mv (ev rfl) ⟨rfl, rfl⟩
  · intro u w hR hd; exact runs_mv (ev rfl) ⟨rfl, rfl⟩
  · intro u w hR hd; exact runs_mv (ev rfl) ⟨rfl, rfl⟩
  · intro u w hR hd; exact rn_nil (ev (hd.1 rfl)) ⟨rfl, rfl⟩
  · intro u w hR hd; exact rn_ld_29 (ev (hd.1 rfl)) (ra.kept hR) ⟨rfl, rfl⟩
  · intro u w hR hd; exact rn_mkm (ev (hd.1 rfl)) ⟨rfl, rfl⟩
  · intro u w hR hd; exact rn_nilm (ev (hd.1 rfl)) hna ⟨rfl, rfl⟩
  · intro u w hR hd; exact runs_mv (ev (hd.1 rfl)) ⟨rfl, rfl⟩
  intro u h
  have e0 : u 176 = (.iface 47 (.pointer (some ⟨q, 0, none⟩))) := h 7 (by decide)
  have e1 : u 170 = .int .i64 n := h 1 (by decide)
  have e2 : u 173 = .int .i16 (s.reg a) := h 4 (by decide)
  replace hP := hP.grew (Grew.refl _).drw
  refine wpAny_one (i := 8) (some 177) (by kernel_rfl) rfl rfl rfl (rn_inv2 en_se hm_Send (ev e0) (ev e1) (ev e2) ((send_pf hP n (s.reg a) (HS.out.reg a) HL.out HN.out).mono ?_))
  rintro r w5 ⟨rfl, hP5⟩
  refine ⟨_, rfl, ?_⟩
  refine wpAny_one (i := 9) (some 9) (by kernel_rfl) rfl rfl rfl (runs_mva (ev rfl) ?_)
  refine wpAny_done (by kernel_rfl) ?_ _
  simp only [Act.put, mixA, mixL, zz9, zz0, zz4, zz6, zz5]
  clear h e0 e1 e2 ra bx hna hm_Send hP
  have s0 : w5.cell? ⟨B, 0, none⟩ = some (.int .i64 s.pc) := hP5.cpu.cell 0
  have sf := hP5.cpu.free
  have HP5 := Lib.hid hP5
  clear hP5
  go_wp2
  go_ret
  exact ⟨rfl, HP5.out.pc (s.pc + 1)⟩
set_option maxHeartbeats 4000000 in
theorem perf_25 (a b d : Nat) (ha : a < 8) (hb : b < 8) (hd : d < 8) (i n : Int) (N B q : Nat) (S : Nat → Prop) (s : St) (W : Wd) (w : World) (hcb : Blk B (stv s) CPT w) (hbus : Bus N w q W S) (hE : EnvN N w) (hs : s.Ok) (hl : W.cs.length ≤ 90000) (hN : N ≤ w.heap.size) (hNB : N ≤ B) (hp : -9223372036854775808 ≤ s.pc ∧ s.pc < 9223372036854775807) :
    Calls Tryd.prog 56 #[.pointer (some ⟨B, 0, none⟩), cdV ⟨25, a, b, d, i⟩, .int .i64 n, (.iface 47 (.pointer (some ⟨q, 0, none⟩)))] w fun e w' => e = .returned (.bool (perf ⟨25, a, b, d, i⟩ n s W).1) ∧ Pf CPT N B q S (perf ⟨25, a, b, d, i⟩ n s W).2.1 (perf ⟨25, a, b, d, i⟩ n s W).2.2 w w' := by
  rw [show perf ⟨25, a, b, d, i⟩ n s W = ((W.call 5 (s.reg a) 0).okb, ⟨s.pc + 1, s.xs⟩, W.call 5 (s.reg a) 0) from rfl]
  have HS := Lib.hid hs
  have HL : Hid (W.cs.length ≤ 100000) := Lib.hid (by omega)
  have HN := Lib.hid hN
  have hP := Pf.start hcb hbus
  obtain ⟨p0, p1⟩ := hp
  have HE := Lib.hid hE
  have hBl := hcb.lt
  clear hs hl hN hcb hE hbus hNB
  go_enter Tryd.func56, Tryd.ntmps56
  go_wp2
  generalize hV : World.alloc _ _ = V
  have bx : Blk w.heap.size (cdv ⟨25, a, b, d, i⟩) 72 V := by subst hV; exact Blk.new w (cdv ⟨25, a, b, d, i⟩) _
  have hg : Grew w V := by subst hV; exact (Grew.refl _).alloc _
  clear hV
  replace hP := hP.grew hg
  replace HE := Lib.hid (HE.out.grew hg)
  clear hg
  have x1 : Atv ⟨w.heap.size, 1, none⟩ (.int .i64 (a : Int)) (V.drew) := (bx.grew (Grew.refl _).drw).atv 1 rfl
  refine wp_still [some 12, some 13, some 14, some 15, some 16, some 17, some 10] zD6 [fun v _ => v = .pointer (some ⟨B, 0, none⟩), fun v _ => v = .pointer (some ⟨w.heap.size, 1, none⟩), fun v _ => v = .int .i64 (((a : Nat) : Int)), fun v _ => v = .pointer (some ⟨B, 0, none⟩), fun v _ => v = .pointer (some ⟨B, 1, none⟩), fun v _ => v = .pointer (some ⟨B, 1 + a, none⟩), fun v _ => v = .pointer (some ⟨B, 1 + a, none⟩)] (by kernel_rfl) (by kernel_rfl) rfl ⟨?_, ?_, ?_, ?_, ?_, ?_, ?_, trivial⟩ ?_
  · intro u w hR hd; exact runs_mv (ev rfl) ⟨rfl, rfl⟩
  · intro u w hR hd; exact rn_fld_72_1 (ev rfl) ⟨rfl, rfl⟩
  · intro u w hR hd; exact rn_ld_3 (ev (hd.1 rfl)) (x1.kept hR) ⟨rfl, rfl⟩
  · intro u w hR hd; exact rn_nil (ev (hd.1 rfl)) ⟨rfl, rfl⟩
  · intro u w hR hd; exact rn_fld_43_1 (ev (hd.1 rfl)) ⟨rfl, rfl⟩
  · intro u w hR hd; exact rn_idxa_30 (a) (ev (hd.1 rfl)) (ev (hd.2.1 rfl)) (by omega) ⟨rfl, rfl⟩
  · intro u w hR hd; exact runs_mva (ev (hd.1 rfl)) ⟨rfl, rfl⟩
  intro u h
  have he : u 10 = .pointer (some ⟨B, 1 + a, none⟩) := h 6 (by decide)
  simp only [mixA, mixL, zz9, zz0]
  rw [he]
  clear h he x1
  generalize hV : V.drew = V2
  replace bx : Blk w.heap.size (cdv ⟨25, a, b, d, i⟩) 72 V2 := by subst hV; exact bx.grew (Grew.refl _).drw
  replace hP : Pf CPT N B q S s W w V2 := by subst hV; exact hP.grew (Grew.refl _).drw
  replace HE : Hid (EnvN N V2) := Lib.hid (by subst hV; exact HE.out.grew (Grew.refl _).drw)
  clear hV
  have x0 : V2.cell? ⟨w.heap.size, 0, none⟩ = some (.int .i64 25) := bx.cell 0
  have x1 : V2.cell? ⟨w.heap.size, 1, none⟩ = some (.int .i64 (a : Int)) := bx.cell 1
  have x2 : V2.cell? ⟨w.heap.size, 2, none⟩ = some (.int .i64 (b : Int)) := bx.cell 2
  have x3 : V2.cell? ⟨w.heap.size, 3, none⟩ = some (.int .i64 (d : Int)) := bx.cell 3
  have x4 : V2.cell? ⟨w.heap.size, 4, none⟩ = some (.int .i16 i) := bx.cell 4
  have s0 : V2.cell? ⟨B, 0, none⟩ = some (.int .i64 s.pc) := hP.cpu.cell 0
  have sf := hP.cpu.free
  go_upto_region 44 with fail
  clear x0 x1 x2 x3 x4 s0 sf
  have hna : ∀ w, (nilAhead (153 + Made.depth) 47 (.pointer (some ⟨q, 0, none⟩)) "Emit").run Tryd.prog w = .ok (some false) w := fun _ => by kernel_rfl
  have hm_Emit : ∀ w, (method (153 + Made.depth) 47 (.pointer (some ⟨q, 0, none⟩)) "Emit").run Tryd.prog w = .ok (39, .pointer (some ⟨q, 0, none⟩)) w := fun _ => by kernel_rfl
  have ra : Atv ⟨B, 1 + a, none⟩ (.int .i16 (s.reg a)) (V2.drew) := (hP.cpu.grew (Grew.refl _).drw).atv (1 + a) (stv_at HS.out (by omega))
  refine wp_still_tail 7 [some 180, some 181, some 182, some 183, some 184, some 185, some 186] [false, false, false, false, false, false, false, false, false, false, false, false, false, false, false, false, false, false, false, false, false, false, false, false, false, false, false, false, false, false, false, false, false, false, false, false, false, false, false, false, false, false, false, false, false, false, false, false, false, false, false, false, false, false, false, false, false, false, false, false, false, false, false, false, false, false, false, false, false, false, false, false, false, false, false, false, false, false, false, false, false, false, false, false, false, false, false, false, false, false, false, false, false, false, false, false, false, false, false, false, false, false, false, false, false, false, false, false, false, false, false, false, false, false, false, false, false, false, false, false, false, false, false, false, false, false, false, false, false, false, false, false, false, false, false, false, false, false, false, false, false, false, false, false, false, false, false, false, false, false, false, false, false, false, false, false, false, false, false, false, false, false, false, false, false, false, false, false, false, false, false, false, false, false, false, false, false, false, false, false, true, true, true, true, true, true, true, false, false, false, false, false, false, false, false, false, false, false, false, false, false, false, false, false, false, false, false, false, false, false] [fun v _ => v = (.iface 47 (.pointer (some ⟨q, 0, none⟩))), fun v _ => v = .pointer (some ⟨B, 1 + a, none⟩), fun v _ => v = .pointer (some ⟨B, 1 + a, none⟩), fun v _ => v = .int .i16 (s.reg a), fun v _ => v = .func (.method "Emit") #[(.iface 47 (.pointer (some ⟨q, 0, none⟩)))] #[], fun v _ => v = .func (.method "Emit") #[(.iface 47 (.pointer (some ⟨q, 0, none⟩)))] #[], fun v _ => v = (.iface 47 (.pointer (some ⟨q, 0, none⟩)))] (by kernel_rfl) (by kernel_rfl) (by kernel_rfl) rfl ⟨?_, ?_, ?_, ?_, ?_, ?_, ?_, trivial⟩ ?_
  · intro u w hR hd; exact runs_mv (ev rfl) ⟨rfl, rfl⟩
  · intro u w hR hd; exact runs_mv (ev rfl) ⟨rfl, rfl⟩
  · intro u w hR hd; exact rn_nil (ev (hd.1 rfl)) ⟨rfl, rfl⟩
  · intro u w hR hd; exact rn_ld_29 (ev (hd.1 rfl)) (ra.kept hR) ⟨rfl, rfl⟩
  · intro u w hR hd; exact rn_mkm (ev (hd.1 rfl)) ⟨rfl, rfl⟩
  · intro u w hR hd; exact rn_nilm (ev (hd.1 rfl)) hna ⟨rfl, rfl⟩
  · intro u w hR hd; exact runs_mv (ev (hd.1 rfl)) ⟨rfl, rfl⟩
  intro u h
  have e0 : u 186 = (.iface 47 (.pointer (some ⟨q, 0, none⟩))) := h 6 (by decide)
  have e1 : u 183 = .int .i16 (s.reg a) := h 3 (by decide)
  replace hP := hP.grew (Grew.refl _).drw
  refine wpAny_one (i := 7) (some 187) (by kernel_rfl) rfl rfl rfl (rn_inv1 en_em hm_Emit (ev e0) (ev e1) ((emit_pf hP (s.reg a) (HS.out.reg a) HL.out HN.out).mono ?_))
  rintro r w5 ⟨rfl, hP5⟩
  refine ⟨_, rfl, ?_⟩
  refine wpAny_one (i := 8) (some 9) (by kernel_rfl) rfl rfl rfl (runs_mva (ev rfl) ?_)
  refine wpAny_done (by kernel_rfl) ?_ _
  simp only [Act.put, mixA, mixL, zz9, zz0, zz4, zz6, zz5]
  clear h e0 e1 ra bx hna hm_Emit hP
  have s0 : w5.cell? ⟨B, 0, none⟩ = some (.int .i64 s.pc) := hP5.cpu.cell 0
  have sf := hP5.cpu.free
  have HP5 := Lib.hid hP5
  clear hP5
  go_wp2
  go_ret
  exact ⟨rfl, HP5.out.pc (s.pc + 1)⟩
set_option maxHeartbeats 4000000 in
theorem perf_26 (a b d : Nat) (ha : a < 8) (hb : b < 8) (hd : d < 8) (i n : Int) (N B q : Nat) (S : Nat → Prop) (s : St) (W : Wd) (w : World) (hcb : Blk B (stv s) CPT w) (hbus : Bus N w q W S) (hE : EnvN N w) (hs : s.Ok) (hl : W.cs.length ≤ 90000) (hN : N ≤ w.heap.size) (hNB : N ≤ B) (hp : -9223372036854775808 ≤ s.pc ∧ s.pc < 9223372036854775807) :
    Calls Tryd.prog 56 #[.pointer (some ⟨B, 0, none⟩), cdV ⟨26, a, b, d, i⟩, .int .i64 n, (.iface 47 (.pointer (some ⟨q, 0, none⟩)))] w fun e w' => e = .returned (.bool (perf ⟨26, a, b, d, i⟩ n s W).1) ∧ Pf CPT N B q S (perf ⟨26, a, b, d, i⟩ n s W).2.1 (perf ⟨26, a, b, d, i⟩ n s W).2.2 w w' := by
  rw [show perf ⟨26, a, b, d, i⟩ n s W = ((W.call 6 n (s.reg a)).okb, ⟨s.pc + 1, s.xs⟩, W.call 6 n (s.reg a)) from rfl]
  have HS := Lib.hid hs
  have HL : Hid (W.cs.length ≤ 100000) := Lib.hid (by omega)
  have HN := Lib.hid hN
  have hP := Pf.start hcb hbus
  obtain ⟨p0, p1⟩ := hp
  have HE := Lib.hid hE
  have hBl := hcb.lt
  clear hs hl hN hcb hE hbus hNB
  go_enter Tryd.func56, Tryd.ntmps56
  go_wp2
  generalize hV : World.alloc _ _ = V
  have bx : Blk w.heap.size (cdv ⟨26, a, b, d, i⟩) 72 V := by subst hV; exact Blk.new w (cdv ⟨26, a, b, d, i⟩) _
  have hg : Grew w V := by subst hV; exact (Grew.refl _).alloc _
  clear hV
  replace hP := hP.grew hg
  replace HE := Lib.hid (HE.out.grew hg)
  clear hg
  have x1 : Atv ⟨w.heap.size, 1, none⟩ (.int .i64 (a : Int)) (V.drew) := (bx.grew (Grew.refl _).drw).atv 1 rfl
  refine wp_still [some 12, some 13, some 14, some 15, some 16, some 17, some 10] zD6 [fun v _ => v = .pointer (some ⟨B, 0, none⟩), fun v _ => v = .pointer (some ⟨w.heap.size, 1, none⟩), fun v _ => v = .int .i64 (((a : Nat) : Int)), fun v _ => v = .pointer (some ⟨B, 0, none⟩), fun v _ => v = .pointer (some ⟨B, 1, none⟩), fun v _ => v = .pointer (some ⟨B, 1 + a, none⟩), fun v _ => v = .pointer (some ⟨B, 1 + a, none⟩)] (by kernel_rfl) (by kernel_rfl) rfl ⟨?_, ?_, ?_, ?_, ?_, ?_, ?_, trivial⟩ ?_
  · intro u w hR hd; exact runs_mv (ev rfl) ⟨rfl, rfl⟩
  · intro u w hR hd; exact rn_fld_72_1 (ev rfl) ⟨rfl, rfl⟩
  · intro u w hR hd; exact rn_ld_3 (ev (hd.1 rfl)) (x1.kept hR) ⟨rfl, rfl⟩
  · intro u w hR hd; exact rn_nil (ev (hd.1 rfl)) ⟨rfl, rfl⟩
  · intro u w hR hd; exact rn_fld_43_1 (ev (hd.1 rfl)) ⟨rfl, rfl⟩
  · intro u w hR hd; exact rn_idxa_30 (a) (ev (hd.1 rfl)) (ev (hd.2.1 rfl)) (by omega) ⟨rfl, rfl⟩
  · intro u w hR hd; exact runs_mva (ev (hd.1 rfl)) ⟨rfl, rfl⟩
  intro u h
  have he : u 10 = .pointer (some ⟨B, 1 + a, none⟩) := h 6 (by decide)
  simp only [mixA, mixL, zz9, zz0]
  rw [he]
  clear h he x1
  generalize hV : V.drew = V2
  replace bx : Blk w.heap.size (cdv ⟨26, a, b, d, i⟩) 72 V2 := by subst hV; exact bx.grew (Grew.refl _).drw
  replace hP : Pf CPT N B q S s W w V2 := by subst hV; exact hP.grew (Grew.refl _).drw
  replace HE : Hid (EnvN N V2) := Lib.hid (by subst hV; exact HE.out.grew (Grew.refl _).drw)
  clear hV
  have x0 : V2.cell? ⟨w.heap.size, 0, none⟩ = some (.int .i64 26) := bx.cell 0
  have x1 : V2.cell? ⟨w.heap.size, 1, none⟩ = some (.int .i64 (a : Int)) := bx.cell 1
  have x2 : V2.cell? ⟨w.heap.size, 2, none⟩ = some (.int .i64 (b : Int)) := bx.cell 2
  have x3 : V2.cell? ⟨w.heap.size, 3, none⟩ = some (.int .i64 (d : Int)) := bx.cell 3
  have x4 : V2.cell? ⟨w.heap.size, 4, none⟩ = some (.int .i16 i) := bx.cell 4
  have s0 : V2.cell? ⟨B, 0, none⟩ = some (.int .i64 s.pc) := hP.cpu.cell 0
  have sf := hP.cpu.free
  go_upto_region 46 with fail
  clear x0 x1 x2 x3 x4 s0 sf
  have hna : ∀ w, (nilAhead (153 + Made.depth) 47 (.pointer (some ⟨q, 0, none⟩)) "Output").run Tryd.prog w = .ok (some false) w := fun _ => by kernel_rfl
  have hm_Output : ∀ w, (method (153 + Made.depth) 47 (.pointer (some ⟨q, 0, none⟩)) "Output").run Tryd.prog w = .ok (40, .pointer (some ⟨q, 0, none⟩)) w := fun _ => by kernel_rfl
  have ra : Atv ⟨B, 1 + a, none⟩ (.int .i16 (s.reg a)) (V2.drew) := (hP.cpu.grew (Grew.refl _).drw).atv (1 + a) (stv_at HS.out (by omega))
  refine wp_still_tail 8 [some 190, some 191, some 192, some 193, some 194, some 195, some 196, some 197] [false, false, false, false, false, false, false, false, false, false, false, false, false, false, false, false, false, false, false, false, false, false, false, false, false, false, false, false, false, false, false, false, false, false, false, false, false, false, false, false, false, false, false, false, false, false, false, false, false, false, false, false, false, false, false, false, false, false, false, false, false, false, false, false, false, false, false, false, false, false, false, false, false, false, false, false, false, false, false, false, false, false, false, false, false, false, false, false, false, false, false, false, false, false, false, false, false, false, false, false, false, false, false, false, false, false, false, false, false, false, false, false, false, false, false, false, false, false, false, false, false, false, false, false, false, false, false, false, false, false, false, false, false, false, false, false, false, false, false, false, false, false, false, false, false, false, false, false, false, false, false, false, false, false, false, false, false, false, false, false, false, false, false, false, false, false, false, false, false, false, false, false, false, false, false, false, false, false, false, false, false, false, false, false, false, false, false, false, false, false, true, true, true, true, true, true, true, true, false, false, false, false, false, false, false, false, false, false, false, false] [fun v _ => v = (.iface 47 (.pointer (some ⟨q, 0, none⟩))), fun v _ => v = .int .i64 (n), fun v _ => v = .pointer (some ⟨B, 1 + a, none⟩), fun v _ => v = .pointer (some ⟨B, 1 + a, none⟩), fun v _ => v = .int .i16 (s.reg a), fun v _ => v = .func (.method "Output") #[(.iface 47 (.pointer (some ⟨q, 0, none⟩)))] #[], fun v _ => v = .func (.method "Output") #[(.iface 47 (.pointer (some ⟨q, 0, none⟩)))] #[], fun v _ => v = (.iface 47 (.pointer (some ⟨q, 0, none⟩)))] (by kernel_rfl) (by kernel_rfl) (by kernel_rfl) rfl ⟨?_, ?_, ?_, ?_, ?_, ?_, ?_, ?_, trivial⟩ ?_
  · intro u w hR hd; exact runs_mv (ev rfl) ⟨rfl, rfl⟩
  · intro u w hR hd; exact runs_mv (ev rfl) ⟨rfl, rfl⟩
  · intro u w hR hd; exact runs_mv (ev rfl) ⟨rfl, rfl⟩
  · intro u w hR hd; exact rn_nil (ev (hd.1 rfl)) ⟨rfl, rfl⟩
  · intro u w hR hd; exact rn_ld_29 (ev (hd.1 rfl)) (ra.kept hR) ⟨rfl, rfl⟩
  · intro u w hR hd; exact rn_mkm (ev (hd.1 rfl)) ⟨rfl, rfl⟩
  · intro u w hR hd; exact rn_nilm (ev (hd.1 rfl)) hna ⟨rfl, rfl⟩
  · intro u w hR hd; exact runs_mv (ev (hd.1 rfl)) ⟨rfl, rfl⟩
  intro u h
  have e0 : u 197 = (.iface 47 (.pointer (some ⟨q, 0, none⟩))) := h 7 (by decide)
  have e1 : u 191 = .int .i64 n := h 1 (by decide)
  have e2 : u 194 = .int .i16 (s.reg a) := h 4 (by decide)
  replace hP := hP.grew (Grew.refl _).drw
  refine wpAny_one (i := 8) (some 198) (by kernel_rfl) rfl rfl rfl (rn_inv2 en_ou hm_Output (ev e0) (ev e1) (ev e2) ((outp_pf hP n (s.reg a) (HS.out.reg a) HL.out HN.out).mono ?_))
  rintro r w5 ⟨rfl, hP5⟩
  refine ⟨_, rfl, ?_⟩
  refine wpAny_one (i := 9) (some 9) (by kernel_rfl) rfl rfl rfl (runs_mva (ev rfl) ?_)
  refine wpAny_done (by kernel_rfl) ?_ _
  simp only [Act.put, mixA, mixL, zz9, zz0, zz4, zz6, zz5]
  clear h e0 e1 e2 ra bx hna hm_Output hP
  have s0 : w5.cell? ⟨B, 0, none⟩ = some (.int .i64 s.pc) := hP5.cpu.cell 0
  have sf := hP5.cpu.free
  have HP5 := Lib.hid hP5
  clear hP5
  go_wp2
  go_ret
  exact ⟨rfl, HP5.out.pc (s.pc + 1)⟩
end Go.Proofs.YtbhglpiiabpdjaaDoor
