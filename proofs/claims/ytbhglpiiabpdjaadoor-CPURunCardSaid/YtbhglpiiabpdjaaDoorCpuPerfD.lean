/-
  LAYER 12 (cpu): perform, one theorem for each operation.
-/
import Derived.Test.YtbhglpiiabpdjaaDoorShort
import Derived.Test.YtbhglpiiabpdjaaDoorCpuPerfOps
namespace Go.Proofs.YtbhglpiiabpdjaaDoor
open Go Go.RowKit Go.IntWalk Go.WideShapes
set_option linter.unusedSimpArgs false
set_option linter.unusedVariables false
set_option maxRecDepth 8000
set_option maxHeartbeats 4000000 in
theorem perf_14 (a b d : Nat) (ha : a < 8) (hb : b < 8) (hd : d < 8) (i n : Int) (N B q : Nat) (S : Nat → Prop) (s : St) (W : Wd) (w : World) (hcb : Blk B (stv s) CPT w) (hbus : Bus N w q W S) (hE : EnvN N w) (hs : s.Ok) (hl : W.cs.length ≤ 90000) (hN : N ≤ w.heap.size) (hNB : N ≤ B) (hp : -9223372036854775808 ≤ s.pc ∧ s.pc < 9223372036854775807) (hdn : dat n = true) :
    Calls Tryd.prog 56 #[.pointer (some ⟨B, 0, none⟩), cdV ⟨14, a, b, d, i⟩, .int .i64 n, (.iface 47 (.pointer (some ⟨q, 0, none⟩)))] w fun e w' => e = .returned (.bool (perf ⟨14, a, b, d, i⟩ n s W).1) ∧ Pf CPT N B q S (perf ⟨14, a, b, d, i⟩ n s W).2.1 (perf ⟨14, a, b, d, i⟩ n s W).2.2 w w' := by
  rw [show perf ⟨14, a, b, d, i⟩ n s W = ((W.load n).2.1, s.to a (W.load n).1 (s.pc + 1), (W.load n).2.2) from rfl]
  have HS := Lib.hid hs
  have HL : Hid (W.cs.length ≤ 100000) := Lib.hid (by omega)
  have HN := Lib.hid hN
  have hP := Pf.start hcb hbus
  obtain ⟨p0, p1⟩ := hp
  have HE := Lib.hid hE
  have hBl := hcb.lt
  have HD := Lib.hid hdn
  clear hdn
  clear hs hl hN hcb hE hbus hNB
  go_enter Tryd.func56, Tryd.ntmps56
  go_wp2
  generalize hV : World.alloc _ _ = V
  have bx : Blk w.heap.size (cdv ⟨14, a, b, d, i⟩) 72 V := by subst hV; exact Blk.new w (cdv ⟨14, a, b, d, i⟩) _
  have hg : Grew w V := by subst hV; exact (Grew.refl _).alloc _
  clear hV
  replace hP := hP.grew hg
  replace HE := Lib.hid (HE.out.grew hg)
  clear hg
  have x1 : Atv ⟨w.heap.size, 1, none⟩ (.int .i64 (a : Int)) (V.drew) := (bx.grew (Grew.refl _).drw).atv 1 rfl
  refine wp_still [some 12, some 13, some 14, some 15, some 16, some 17, some 10] zD6 [fun v _ => v = .pointer (some ⟨B, 0, none⟩), fun v _ => v = .pointer (some ⟨w.heap.size, 1, none⟩), fun v _ => v = .int .i64 (((a : Nat) : Int)), fun v _ => v = .pointer (some ⟨B, 0, none⟩), fun v _ => v = .pointer (some ⟨B, 1, none⟩), fun v _ => v = .pointer (some ⟨B, 1 + a, none⟩), fun v _ => v = .pointer (some ⟨B, 1 + a, none⟩)] (by kernel_rfl) (by kernel_rfl) rfl ⟨?_, ?_, ?_, ?_, ?_, ?_, ?_, trivial⟩ ?_
  · intro u w hR hd; exact runs_mv (ev rfl) ⟨rfl, rfl⟩
  · intro u w hR hd; exact rn_fld_72_1 (ev rfl) ⟨rfl, rfl⟩
  · intro u w hR hd; exact rn_ld_3 (ev (hd.1 rfl)) (x1.kept hR) ⟨rfl, rfl⟩
  · intro u w hR hd; exact rn_nil (ev (hd.1 rfl)) ⟨rfl, rfl⟩
  · intro u w hR hd; exact rn_fld_43_1 (ev (hd.1 rfl)) ⟨rfl, rfl⟩
  · intro u w hR hd; exact rn_idxa_30 (a) (ev (hd.1 rfl)) (ev (hd.2.1 rfl)) (by omega) ⟨rfl, rfl⟩
  · intro u w hR hd; exact runs_mva (ev (hd.1 rfl)) ⟨rfl, rfl⟩
  intro u h
  have he : u 10 = .pointer (some ⟨B, 1 + a, none⟩) := h 6 (by decide)
  simp only [mixA, mixL, zz9, zz0]
  rw [he]
  clear h he x1
  generalize hV : V.drew = V2
  replace bx : Blk w.heap.size (cdv ⟨14, a, b, d, i⟩) 72 V2 := by subst hV; exact bx.grew (Grew.refl _).drw
  replace hP : Pf CPT N B q S s W w V2 := by subst hV; exact hP.grew (Grew.refl _).drw
  replace HE : Hid (EnvN N V2) := Lib.hid (by subst hV; exact HE.out.grew (Grew.refl _).drw)
  clear hV
  have x0 : V2.cell? ⟨w.heap.size, 0, none⟩ = some (.int .i64 14) := bx.cell 0
  have x1 : V2.cell? ⟨w.heap.size, 1, none⟩ = some (.int .i64 (a : Int)) := bx.cell 1
  have x2 : V2.cell? ⟨w.heap.size, 2, none⟩ = some (.int .i64 (b : Int)) := bx.cell 2
  have x3 : V2.cell? ⟨w.heap.size, 3, none⟩ = some (.int .i64 (d : Int)) := bx.cell 3
  have x4 : V2.cell? ⟨w.heap.size, 4, none⟩ = some (.int .i16 i) := bx.cell 4
  have s0 : V2.cell? ⟨B, 0, none⟩ = some (.int .i64 s.pc) := hP.cpu.cell 0
  have sf := hP.cpu.free
  have sa : V2.cell? ⟨B, 1 + a, none⟩ = some (.int .i16 (s.reg a)) := by rw [hP.cpu.cell]; exact stv_at HS.out (by omega)
  have hm_Load : ∀ w, (method (153 + Made.depth) 47 (.pointer (some ⟨q, 0, none⟩)) "Load").run Tryd.prog w = .ok (34, .pointer (some ⟨q, 0, none⟩)) w := fun _ => by kernel_rfl
  go_wp2_with (go_at_call 34; (with_reducible refine (load_pf hP n HD.out HL.out HN.out).mono ?_); rintro r w5 ⟨rfl, hP5⟩; clear s0 sf sa; have s0 : w5.cell? ⟨B, 0, none⟩ = some (.int .i64 s.pc) := hP5.cpu.cell 0; have sf := hP5.cpu.free; have sa : w5.cell? ⟨B, 1 + a, none⟩ = some (.int .i16 (s.reg a)) := (by rw [hP5.cpu.cell]; exact stv_at HS.out (by omega)); have HP5 := Lib.hid hP5; clear hP5)
  go_ret
  exact ⟨rfl, (HP5.out.set a _).pc (s.pc + 1)⟩
set_option maxHeartbeats 4000000 in
theorem perf_16 (a b d : Nat) (ha : a < 8) (hb : b < 8) (hd : d < 8) (i n : Int) (N B q : Nat) (S : Nat → Prop) (s : St) (W : Wd) (w : World) (hcb : Blk B (stv s) CPT w) (hbus : Bus N w q W S) (hE : EnvN N w) (hs : s.Ok) (hl : W.cs.length ≤ 90000) (hN : N ≤ w.heap.size) (hNB : N ≤ B) (hp : -9223372036854775808 ≤ s.pc ∧ s.pc < 9223372036854775807) (hdn : dat n = true) :
    Calls Tryd.prog 56 #[.pointer (some ⟨B, 0, none⟩), cdV ⟨16, a, b, d, i⟩, .int .i64 n, (.iface 47 (.pointer (some ⟨q, 0, none⟩)))] w fun e w' => e = .returned (.bool (perf ⟨16, a, b, d, i⟩ n s W).1) ∧ Pf CPT N B q S (perf ⟨16, a, b, d, i⟩ n s W).2.1 (perf ⟨16, a, b, d, i⟩ n s W).2.2 w w' := by
  rw [show perf ⟨16, a, b, d, i⟩ n s W = ((W.load n).2.1, s.to a (W.load n).1 (s.pc + 1), (W.load n).2.2) from rfl]
  have HS := Lib.hid hs
  have HL : Hid (W.cs.length ≤ 100000) := Lib.hid (by omega)
  have HN := Lib.hid hN
  have hP := Pf.start hcb hbus
  obtain ⟨p0, p1⟩ := hp
  have HE := Lib.hid hE
  have hBl := hcb.lt
  have HD := Lib.hid hdn
  clear hdn
  clear hs hl hN hcb hE hbus hNB
  go_enter Tryd.func56, Tryd.ntmps56
  go_wp2
  generalize hV : World.alloc _ _ = V
  have bx : Blk w.heap.size (cdv ⟨16, a, b, d, i⟩) 72 V := by subst hV; exact Blk.new w (cdv ⟨16, a, b, d, i⟩) _
  have hg : Grew w V := by subst hV; exact (Grew.refl _).alloc _
  clear hV
  replace hP := hP.grew hg
  replace HE := Lib.hid (HE.out.grew hg)
  clear hg
  have x1 : Atv ⟨w.heap.size, 1, none⟩ (.int .i64 (a : Int)) (V.drew) := (bx.grew (Grew.refl _).drw).atv 1 rfl
  refine wp_still [some 12, some 13, some 14, some 15, some 16, some 17, some 10] zD6 [fun v _ => v = .pointer (some ⟨B, 0, none⟩), fun v _ => v = .pointer (some ⟨w.heap.size, 1, none⟩), fun v _ => v = .int .i64 (((a : Nat) : Int)), fun v _ => v = .pointer (some ⟨B, 0, none⟩), fun v _ => v = .pointer (some ⟨B, 1, none⟩), fun v _ => v = .pointer (some ⟨B, 1 + a, none⟩), fun v _ => v = .pointer (some ⟨B, 1 + a, none⟩)] (by kernel_rfl) (by kernel_rfl) rfl ⟨?_, ?_, ?_, ?_, ?_, ?_, ?_, trivial⟩ ?_
  · intro u w hR hd; exact runs_mv (ev rfl) ⟨rfl, rfl⟩
  · intro u w hR hd; exact rn_fld_72_1 (ev rfl) ⟨rfl, rfl⟩
  · intro u w hR hd; exact rn_ld_3 (ev (hd.1 rfl)) (x1.kept hR) ⟨rfl, rfl⟩
  · intro u w hR hd; exact rn_nil (ev (hd.1 rfl)) ⟨rfl, rfl⟩
  · intro u w hR hd; exact rn_fld_43_1 (ev (hd.1 rfl)) ⟨rfl, rfl⟩
  · intro u w hR hd; exact rn_idxa_30 (a) (ev (hd.1 rfl)) (ev (hd.2.1 rfl)) (by omega) ⟨rfl, rfl⟩
  · intro u w hR hd; exact runs_mva (ev (hd.1 rfl)) ⟨rfl, rfl⟩
  intro u h
  have he : u 10 = .pointer (some ⟨B, 1 + a, none⟩) := h 6 (by decide)
  simp only [mixA, mixL, zz9, zz0]
  rw [he]
  clear h he x1
  generalize hV : V.drew = V2
  replace bx : Blk w.heap.size (cdv ⟨16, a, b, d, i⟩) 72 V2 := by subst hV; exact bx.grew (Grew.refl _).drw
  replace hP : Pf CPT N B q S s W w V2 := by subst hV; exact hP.grew (Grew.refl _).drw
  replace HE : Hid (EnvN N V2) := Lib.hid (by subst hV; exact HE.out.grew (Grew.refl _).drw)
  clear hV
  have x0 : V2.cell? ⟨w.heap.size, 0, none⟩ = some (.int .i64 16) := bx.cell 0
  have x1 : V2.cell? ⟨w.heap.size, 1, none⟩ = some (.int .i64 (a : Int)) := bx.cell 1
  have x2 : V2.cell? ⟨w.heap.size, 2, none⟩ = some (.int .i64 (b : Int)) := bx.cell 2
  have x3 : V2.cell? ⟨w.heap.size, 3, none⟩ = some (.int .i64 (d : Int)) := bx.cell 3
  have x4 : V2.cell? ⟨w.heap.size, 4, none⟩ = some (.int .i16 i) := bx.cell 4
  have s0 : V2.cell? ⟨B, 0, none⟩ = some (.int .i64 s.pc) := hP.cpu.cell 0
  have sf := hP.cpu.free
  have sa : V2.cell? ⟨B, 1 + a, none⟩ = some (.int .i16 (s.reg a)) := by rw [hP.cpu.cell]; exact stv_at HS.out (by omega)
  have hm_Load : ∀ w, (method (153 + Made.depth) 47 (.pointer (some ⟨q, 0, none⟩)) "Load").run Tryd.prog w = .ok (34, .pointer (some ⟨q, 0, none⟩)) w := fun _ => by kernel_rfl
  go_wp2_with (go_at_call 34; (with_reducible refine (load_pf hP n HD.out HL.out HN.out).mono ?_); rintro r w5 ⟨rfl, hP5⟩; clear s0 sf sa; have s0 : w5.cell? ⟨B, 0, none⟩ = some (.int .i64 s.pc) := hP5.cpu.cell 0; have sf := hP5.cpu.free; have sa : w5.cell? ⟨B, 1 + a, none⟩ = some (.int .i16 (s.reg a)) := (by rw [hP5.cpu.cell]; exact stv_at HS.out (by omega)); have HP5 := Lib.hid hP5; clear hP5)
  go_ret
  exact ⟨rfl, (HP5.out.set a _).pc (s.pc + 1)⟩
set_option maxHeartbeats 4000000 in
theorem perf_19 (a b d : Nat) (ha : a < 8) (hb : b < 8) (hd : d < 8) (i : Int) (m : Nat) (hm : m < 64) (N B q : Nat) (S : Nat → Prop) (s : St) (W : Wd) (w : World) (hcb : Blk B (stv s) CPT w) (hbus : Bus N w q W S) (hE : EnvN N w) (hs : s.Ok) (hl : W.cs.length ≤ 90000) (hN : N ≤ w.heap.size) (hNB : N ≤ B) (hp : -9223372036854775808 ≤ s.pc ∧ s.pc < 9223372036854775807) :
    Calls Tryd.prog 56 #[.pointer (some ⟨B, 0, none⟩), cdV ⟨19, a, b, d, i⟩, .int .i64 ((m : Nat) : Int), (.iface 47 (.pointer (some ⟨q, 0, none⟩)))] w fun e w' => e = .returned (.bool (perf ⟨19, a, b, d, i⟩ ((m : Nat) : Int) s W).1) ∧ Pf CPT N B q S (perf ⟨19, a, b, d, i⟩ ((m : Nat) : Int) s W).2.1 (perf ⟨19, a, b, d, i⟩ ((m : Nat) : Int) s W).2.2 w w' := by
  rw [show perf ⟨19, a, b, d, i⟩ ((m : Nat) : Int) s W = (true, s.to (8 + ((m : Nat) : Int).toNat) (s.reg a) (s.pc + 1), W) from rfl]
  have HS := Lib.hid hs
  have HL : Hid (W.cs.length ≤ 100000) := Lib.hid (by omega)
  have HN := Lib.hid hN
  have hP := Pf.start hcb hbus
  obtain ⟨p0, p1⟩ := hp
  have HE := Lib.hid hE
  have hBl := hcb.lt
  clear hs hl hN hcb hE hbus hNB
  go_enter Tryd.func56, Tryd.ntmps56
  go_wp2
  generalize hV : World.alloc _ _ = V
  have bx : Blk w.heap.size (cdv ⟨19, a, b, d, i⟩) 72 V := by subst hV; exact Blk.new w (cdv ⟨19, a, b, d, i⟩) _
  have hg : Grew w V := by subst hV; exact (Grew.refl _).alloc _
  clear hV
  replace hP := hP.grew hg
  replace HE := Lib.hid (HE.out.grew hg)
  clear hg
  have x1 : Atv ⟨w.heap.size, 1, none⟩ (.int .i64 (a : Int)) (V.drew) := (bx.grew (Grew.refl _).drw).atv 1 rfl
  refine wp_still [some 12, some 13, some 14, some 15, some 16, some 17, some 10] zD6 [fun v _ => v = .pointer (some ⟨B, 0, none⟩), fun v _ => v = .pointer (some ⟨w.heap.size, 1, none⟩), fun v _ => v = .int .i64 (((a : Nat) : Int)), fun v _ => v = .pointer (some ⟨B, 0, none⟩), fun v _ => v = .pointer (some ⟨B, 1, none⟩), fun v _ => v = .pointer (some ⟨B, 1 + a, none⟩), fun v _ => v = .pointer (some ⟨B, 1 + a, none⟩)] (by kernel_rfl) (by kernel_rfl) rfl ⟨?_, ?_, ?_, ?_, ?_, ?_, ?_, trivial⟩ ?_
  · intro u w hR hd; exact runs_mv (ev rfl) ⟨rfl, rfl⟩
  · intro u w hR hd; exact rn_fld_72_1 (ev rfl) ⟨rfl, rfl⟩
  · intro u w hR hd; exact rn_ld_3 (ev (hd.1 rfl)) (x1.kept hR) ⟨rfl, rfl⟩
  · intro u w hR hd; exact rn_nil (ev (hd.1 rfl)) ⟨rfl, rfl⟩
  · intro u w hR hd; exact rn_fld_43_1 (ev (hd.1 rfl)) ⟨rfl, rfl⟩
  · intro u w hR hd; exact rn_idxa_30 (a) (ev (hd.1 rfl)) (ev (hd.2.1 rfl)) (by omega) ⟨rfl, rfl⟩
  · intro u w hR hd; exact runs_mva (ev (hd.1 rfl)) ⟨rfl, rfl⟩
  intro u h
  have he : u 10 = .pointer (some ⟨B, 1 + a, none⟩) := h 6 (by decide)
  simp only [mixA, mixL, zz9, zz0]
  rw [he]
  clear h he x1
  generalize hV : V.drew = V2
  replace bx : Blk w.heap.size (cdv ⟨19, a, b, d, i⟩) 72 V2 := by subst hV; exact bx.grew (Grew.refl _).drw
  replace hP : Pf CPT N B q S s W w V2 := by subst hV; exact hP.grew (Grew.refl _).drw
  replace HE : Hid (EnvN N V2) := Lib.hid (by subst hV; exact HE.out.grew (Grew.refl _).drw)
  clear hV
  have x0 : V2.cell? ⟨w.heap.size, 0, none⟩ = some (.int .i64 19) := bx.cell 0
  have x1 : V2.cell? ⟨w.heap.size, 1, none⟩ = some (.int .i64 (a : Int)) := bx.cell 1
  have x2 : V2.cell? ⟨w.heap.size, 2, none⟩ = some (.int .i64 (b : Int)) := bx.cell 2
  have x3 : V2.cell? ⟨w.heap.size, 3, none⟩ = some (.int .i64 (d : Int)) := bx.cell 3
  have x4 : V2.cell? ⟨w.heap.size, 4, none⟩ = some (.int .i16 i) := bx.cell 4
  have s0 : V2.cell? ⟨B, 0, none⟩ = some (.int .i64 s.pc) := hP.cpu.cell 0
  have sf := hP.cpu.free
  go_upto_region 31 with fail
  clear x0 x1 x2 x3 x4 s0 sf
  have ra : Atv ⟨B, 1 + a, none⟩ (.int .i16 (s.reg a)) (V2.drew) := (hP.cpu.grew (Grew.refl _).drw).atv (1 + a) (stv_at HS.out (by omega))
  refine wp_still_tail 8 [some 129, some 130, some 131, some 132, some 133, some 134, some 135, some 136] [false, false, false, false, false, false, false, false, false, false, false, false, false, false, false, false, false, false, false, false, false, false, false, false, false, false, false, false, false, false, false, false, false, false, false, false, false, false, false, false, false, false, false, false, false, false, false, false, false, false, false, false, false, false, false, false, false, false, false, false, false, false, false, false, false, false, false, false, false, false, false, false, false, false, false, false, false, false, false, false, false, false, false, false, false, false, false, false, false, false, false, false, false, false, false, false, false, false, false, false, false, false, false, false, false, false, false, false, false, false, false, false, false, false, false, false, false, false, false, false, false, false, false, false, false, false, false, false, false, true, true, true, true, true, true, true, true, false, false, false, false, false, false, false, false, false, false, false, false, false, false, false, false, false, false, false, false, false, false, false, false, false, false, false, false, false, false, false, false, false, false, false, false, false, false, false, false, false, false, false, false, false, false, false, false, false, false, false, false, false, false, false, false, false, false, false, false, false, false, false, false, false, false, false, false, false, false, false, false, false] [fun v _ => v = .pointer (some ⟨B, 0, none⟩), fun v _ => v = .int .i64 (((m : Nat) : Int)), fun v _ => v = .pointer (some ⟨B, 1 + a, none⟩), fun v _ => v = .pointer (some ⟨B, 1 + a, none⟩), fun v _ => v = .int .i16 (s.reg a), fun v _ => v = .pointer (some ⟨B, 0, none⟩), fun v _ => v = .pointer (some ⟨B, 9, none⟩), fun v _ => v = .pointer (some ⟨B, 9 + m, none⟩)] (by kernel_rfl) (by kernel_rfl) (by kernel_rfl) rfl ⟨?_, ?_, ?_, ?_, ?_, ?_, ?_, ?_, trivial⟩ ?_
  · intro u w hR hd; exact runs_mv (ev rfl) ⟨rfl, rfl⟩
  · intro u w hR hd; exact runs_mv (ev rfl) ⟨rfl, rfl⟩
  · intro u w hR hd; exact runs_mv (ev rfl) ⟨rfl, rfl⟩
  · intro u w hR hd; exact rn_nil (ev (hd.1 rfl)) ⟨rfl, rfl⟩
  · intro u w hR hd; exact rn_ld_29 (ev (hd.1 rfl)) (ra.kept hR) ⟨rfl, rfl⟩
  · intro u w hR hd; exact rn_nil (ev (hd.1 rfl)) ⟨rfl, rfl⟩
  · intro u w hR hd; exact rn_fld_43_2 (ev (hd.1 rfl)) ⟨rfl, rfl⟩
  · intro u w hR hd; exact rn_idxa_31 (m) (ev (hd.1 rfl)) (ev (hd.2.1 rfl)) (by omega) ⟨rfl, rfl⟩
  intro u h
  have e1 : u 136 = .pointer (some ⟨B, 9 + m, none⟩) := h 7 (by decide)
  have e2 : u 133 = .int .i16 (s.reg a) := h 4 (by decide)
  replace hP := hP.grew (Grew.refl _).drw
  replace bx : Blk w.heap.size (cdv ⟨19, a, b, d, i⟩) 72 (V2.drew) := bx.grew (Grew.refl V2).drw
  have c9 : (V2.drew).cell? ⟨B, 9 + m, none⟩ = some (.int .i16 (s.reg (8 + m))) := by rw [hP.cpu.cell, show 9 + m = 1 + (8 + m) by omega]; exact stv_at HS.out (by omega)
  have f9 := hP.cpu.free (9 + m)
  refine wpAny_one (i := 8) none (by kernel_rfl) rfl rfl rfl (rn_st_29 (ev e1) (ev e2) c9 f9 ?_)
  refine wpAny_done (by kernel_rfl) ?_ _
  simp only [Act.put, mixA, mixL, zz9, zz0, zz4, zz6, zz5]
  generalize hW : World.setCell _ _ _ = V3
  replace hP : Pf CPT N B q S (s.to (8 + m) (s.reg a) s.pc) W w V3 := by rw [show 9 + m = 1 + (8 + m) by omega] at hW; exact hW ▸ hP.set (8 + m) _
  clear hW h e1 e2 c9 f9 ra bx
  have s0 : V3.cell? ⟨B, 0, none⟩ = some (.int .i64 s.pc) := hP.cpu.cell 0
  have sf := hP.cpu.free
  go_wp2
  go_ret
  exact ⟨rfl, hP.pc (s.pc + 1)⟩
set_option maxHeartbeats 4000000 in
theorem perf_20 (a b d : Nat) (ha : a < 8) (hb : b < 8) (hd : d < 8) (i : Int) (m : Nat) (hm : m < 64) (N B q : Nat) (S : Nat → Prop) (s : St) (W : Wd) (w : World) (hcb : Blk B (stv s) CPT w) (hbus : Bus N w q W S) (hE : EnvN N w) (hs : s.Ok) (hl : W.cs.length ≤ 90000) (hN : N ≤ w.heap.size) (hNB : N ≤ B) (hp : -9223372036854775808 ≤ s.pc ∧ s.pc < 9223372036854775807) :
    Calls Tryd.prog 56 #[.pointer (some ⟨B, 0, none⟩), cdV ⟨20, a, b, d, i⟩, .int .i64 ((m : Nat) : Int), (.iface 47 (.pointer (some ⟨q, 0, none⟩)))] w fun e w' => e = .returned (.bool (perf ⟨20, a, b, d, i⟩ ((m : Nat) : Int) s W).1) ∧ Pf CPT N B q S (perf ⟨20, a, b, d, i⟩ ((m : Nat) : Int) s W).2.1 (perf ⟨20, a, b, d, i⟩ ((m : Nat) : Int) s W).2.2 w w' := by
  rw [show perf ⟨20, a, b, d, i⟩ ((m : Nat) : Int) s W = (true, s.to a (s.reg (8 + ((m : Nat) : Int).toNat)) (s.pc + 1), W) from rfl]
  have HS := Lib.hid hs
  have HL : Hid (W.cs.length ≤ 100000) := Lib.hid (by omega)
  have HN := Lib.hid hN
  have hP := Pf.start hcb hbus
  obtain ⟨p0, p1⟩ := hp
  have HE := Lib.hid hE
  have hBl := hcb.lt
  clear hs hl hN hcb hE hbus hNB
  go_enter Tryd.func56, Tryd.ntmps56
  go_wp2
  generalize hV : World.alloc _ _ = V
  have bx : Blk w.heap.size (cdv ⟨20, a, b, d, i⟩) 72 V := by subst hV; exact Blk.new w (cdv ⟨20, a, b, d, i⟩) _
  have hg : Grew w V := by subst hV; exact (Grew.refl _).alloc _
  clear hV
  replace hP := hP.grew hg
  replace HE := Lib.hid (HE.out.grew hg)
  clear hg
  have x1 : Atv ⟨w.heap.size, 1, none⟩ (.int .i64 (a : Int)) (V.drew) := (bx.grew (Grew.refl _).drw).atv 1 rfl
  refine wp_still [some 12, some 13, some 14, some 15, some 16, some 17, some 10] zD6 [fun v _ => v = .pointer (some ⟨B, 0, none⟩), fun v _ => v = .pointer (some ⟨w.heap.size, 1, none⟩), fun v _ => v = .int .i64 (((a : Nat) : Int)), fun v _ => v = .pointer (some ⟨B, 0, none⟩), fun v _ => v = .pointer (some ⟨B, 1, none⟩), fun v _ => v = .pointer (some ⟨B, 1 + a, none⟩), fun v _ => v = .pointer (some ⟨B, 1 + a, none⟩)] (by kernel_rfl) (by kernel_rfl) rfl ⟨?_, ?_, ?_, ?_, ?_, ?_, ?_, trivial⟩ ?_
  · intro u w hR hd; exact runs_mv (ev rfl) ⟨rfl, rfl⟩
  · intro u w hR hd; exact rn_fld_72_1 (ev rfl) ⟨rfl, rfl⟩
  · intro u w hR hd; exact rn_ld_3 (ev (hd.1 rfl)) (x1.kept hR) ⟨rfl, rfl⟩
  · intro u w hR hd; exact rn_nil (ev (hd.1 rfl)) ⟨rfl, rfl⟩
  · intro u w hR hd; exact rn_fld_43_1 (ev (hd.1 rfl)) ⟨rfl, rfl⟩
  · intro u w hR hd; exact rn_idxa_30 (a) (ev (hd.1 rfl)) (ev (hd.2.1 rfl)) (by omega) ⟨rfl, rfl⟩
  · intro u w hR hd; exact runs_mva (ev (hd.1 rfl)) ⟨rfl, rfl⟩
  intro u h
  have he : u 10 = .pointer (some ⟨B, 1 + a, none⟩) := h 6 (by decide)
  simp only [mixA, mixL, zz9, zz0]
  rw [he]
  clear h he x1
  generalize hV : V.drew = V2
  replace bx : Blk w.heap.size (cdv ⟨20, a, b, d, i⟩) 72 V2 := by subst hV; exact bx.grew (Grew.refl _).drw
  replace hP : Pf CPT N B q S s W w V2 := by subst hV; exact hP.grew (Grew.refl _).drw
  replace HE : Hid (EnvN N V2) := Lib.hid (by subst hV; exact HE.out.grew (Grew.refl _).drw)
  clear hV
  have x0 : V2.cell? ⟨w.heap.size, 0, none⟩ = some (.int .i64 20) := bx.cell 0
  have x1 : V2.cell? ⟨w.heap.size, 1, none⟩ = some (.int .i64 (a : Int)) := bx.cell 1
  have x2 : V2.cell? ⟨w.heap.size, 2, none⟩ = some (.int .i64 (b : Int)) := bx.cell 2
  have x3 : V2.cell? ⟨w.heap.size, 3, none⟩ = some (.int .i64 (d : Int)) := bx.cell 3
  have x4 : V2.cell? ⟨w.heap.size, 4, none⟩ = some (.int .i16 i) := bx.cell 4
  have s0 : V2.cell? ⟨B, 0, none⟩ = some (.int .i64 s.pc) := hP.cpu.cell 0
  have sf := hP.cpu.free
  have sa : V2.cell? ⟨B, 1 + a, none⟩ = some (.int .i16 (s.reg a)) := by rw [hP.cpu.cell]; exact stv_at HS.out (by omega)
  have s9 : V2.cell? ⟨B, 9 + m, none⟩ = some (.int .i16 (s.reg (8 + m))) := by rw [hP.cpu.cell, show 9 + m = 1 + (8 + m) by omega]; exact stv_at HS.out (by omega)
  go_wp2
  go_ret
  exact ⟨rfl, (hP.set a _).pc (s.pc + 1)⟩
set_option maxHeartbeats 4000000 in
theorem perf_22t (a b d : Nat) (ha : a < 8) (hb : b < 8) (hd : d < 8) (i n : Int) (N B q : Nat) (S : Nat → Prop) (s : St) (W : Wd) (w : World) (hcb : Blk B (stv s) CPT w) (hbus : Bus N w q W S) (hE : EnvN N w) (hs : s.Ok) (hl : W.cs.length ≤ 90000) (hN : N ≤ w.heap.size) (hNB : N ≤ B) (hp : -9223372036854775808 ≤ s.pc ∧ s.pc < 9223372036854775807) (h0 : s.reg a = 0) :
    Calls Tryd.prog 56 #[.pointer (some ⟨B, 0, none⟩), cdV ⟨22, a, b, d, i⟩, .int .i64 n, (.iface 47 (.pointer (some ⟨q, 0, none⟩)))] w fun e w' => e = .returned (.bool (perf ⟨22, a, b, d, i⟩ n s W).1) ∧ Pf CPT N B q S (perf ⟨22, a, b, d, i⟩ n s W).2.1 (perf ⟨22, a, b, d, i⟩ n s W).2.2 w w' := by
  rw [show perf ⟨22, a, b, d, i⟩ n s W = (true, ⟨n, s.xs⟩, W) from by show (true, (⟨if s.reg a = 0 then n else s.pc + 1, s.xs⟩ : St), W) = _; rw [if_pos h0]]
  have HS := Lib.hid hs
  have HL : Hid (W.cs.length ≤ 100000) := Lib.hid (by omega)
  have HN := Lib.hid hN
  have hP := Pf.start hcb hbus
  obtain ⟨p0, p1⟩ := hp
  have HE := Lib.hid hE
  have hBl := hcb.lt
  have h1 : (s.reg a == 0) = true := by simpa using h0
  clear h0
  clear hs hl hN hcb hE hbus hNB
  go_enter Tryd.func56, Tryd.ntmps56
  go_wp2
  generalize hV : World.alloc _ _ = V
  have bx : Blk w.heap.size (cdv ⟨22, a, b, d, i⟩) 72 V := by subst hV; exact Blk.new w (cdv ⟨22, a, b, d, i⟩) _
  have hg : Grew w V := by subst hV; exact (Grew.refl _).alloc _
  clear hV
  replace hP := hP.grew hg
  replace HE := Lib.hid (HE.out.grew hg)
  clear hg
  have x1 : Atv ⟨w.heap.size, 1, none⟩ (.int .i64 (a : Int)) (V.drew) := (bx.grew (Grew.refl _).drw).atv 1 rfl
  refine wp_still [some 12, some 13, some 14, some 15, some 16, some 17, some 10] zD6 [fun v _ => v = .pointer (some ⟨B, 0, none⟩), fun v _ => v = .pointer (some ⟨w.heap.size, 1, none⟩), fun v _ => v = .int .i64 (((a : Nat) : Int)), fun v _ => v = .pointer (some ⟨B, 0, none⟩), fun v _ => v = .pointer (some ⟨B, 1, none⟩), fun v _ => v = .pointer (some ⟨B, 1 + a, none⟩), fun v _ => v = .pointer (some ⟨B, 1 + a, none⟩)] (by kernel_rfl) (by kernel_rfl) rfl ⟨?_, ?_, ?_, ?_, ?_, ?_, ?_, trivial⟩ ?_
  · intro u w hR hd; exact runs_mv (ev rfl) ⟨rfl, rfl⟩
  · intro u w hR hd; exact rn_fld_72_1 (ev rfl) ⟨rfl, rfl⟩
  · intro u w hR hd; exact rn_ld_3 (ev (hd.1 rfl)) (x1.kept hR) ⟨rfl, rfl⟩
  · intro u w hR hd; exact rn_nil (ev (hd.1 rfl)) ⟨rfl, rfl⟩
  · intro u w hR hd; exact rn_fld_43_1 (ev (hd.1 rfl)) ⟨rfl, rfl⟩
  · intro u w hR hd; exact rn_idxa_30 (a) (ev (hd.1 rfl)) (ev (hd.2.1 rfl)) (by omega) ⟨rfl, rfl⟩
  · intro u w hR hd; exact runs_mva (ev (hd.1 rfl)) ⟨rfl, rfl⟩
  intro u h
  have he : u 10 = .pointer (some ⟨B, 1 + a, none⟩) := h 6 (by decide)
  simp only [mixA, mixL, zz9, zz0]
  rw [he]
  clear h he x1
  generalize hV : V.drew = V2
  replace bx : Blk w.heap.size (cdv ⟨22, a, b, d, i⟩) 72 V2 := by subst hV; exact bx.grew (Grew.refl _).drw
  replace hP : Pf CPT N B q S s W w V2 := by subst hV; exact hP.grew (Grew.refl _).drw
  replace HE : Hid (EnvN N V2) := Lib.hid (by subst hV; exact HE.out.grew (Grew.refl _).drw)
  clear hV
  have x0 : V2.cell? ⟨w.heap.size, 0, none⟩ = some (.int .i64 22) := bx.cell 0
  have x1 : V2.cell? ⟨w.heap.size, 1, none⟩ = some (.int .i64 (a : Int)) := bx.cell 1
  have x2 : V2.cell? ⟨w.heap.size, 2, none⟩ = some (.int .i64 (b : Int)) := bx.cell 2
  have x3 : V2.cell? ⟨w.heap.size, 3, none⟩ = some (.int .i64 (d : Int)) := bx.cell 3
  have x4 : V2.cell? ⟨w.heap.size, 4, none⟩ = some (.int .i16 i) := bx.cell 4
  have s0 : V2.cell? ⟨B, 0, none⟩ = some (.int .i64 s.pc) := hP.cpu.cell 0
  have sf := hP.cpu.free
  have sa : V2.cell? ⟨B, 1 + a, none⟩ = some (.int .i16 (s.reg a)) := by rw [hP.cpu.cell]; exact stv_at HS.out (by omega)
  go_wp2
  go_ret
  exact ⟨rfl, hP.pc n⟩
set_option maxHeartbeats 4000000 in
theorem perf_22f (a b d : Nat) (ha : a < 8) (hb : b < 8) (hd : d < 8) (i n : Int) (N B q : Nat) (S : Nat → Prop) (s : St) (W : Wd) (w : World) (hcb : Blk B (stv s) CPT w) (hbus : Bus N w q W S) (hE : EnvN N w) (hs : s.Ok) (hl : W.cs.length ≤ 90000) (hN : N ≤ w.heap.size) (hNB : N ≤ B) (hp : -9223372036854775808 ≤ s.pc ∧ s.pc < 9223372036854775807) (h0 : ¬ s.reg a = 0) :
    Calls Tryd.prog 56 #[.pointer (some ⟨B, 0, none⟩), cdV ⟨22, a, b, d, i⟩, .int .i64 n, (.iface 47 (.pointer (some ⟨q, 0, none⟩)))] w fun e w' => e = .returned (.bool (perf ⟨22, a, b, d, i⟩ n s W).1) ∧ Pf CPT N B q S (perf ⟨22, a, b, d, i⟩ n s W).2.1 (perf ⟨22, a, b, d, i⟩ n s W).2.2 w w' := by
  rw [show perf ⟨22, a, b, d, i⟩ n s W = (true, ⟨s.pc + 1, s.xs⟩, W) from by show (true, (⟨if s.reg a = 0 then n else s.pc + 1, s.xs⟩ : St), W) = _; rw [if_neg h0]]
  have HS := Lib.hid hs
  have HL : Hid (W.cs.length ≤ 100000) := Lib.hid (by omega)
  have HN := Lib.hid hN
  have hP := Pf.start hcb hbus
  obtain ⟨p0, p1⟩ := hp
  have HE := Lib.hid hE
  have hBl := hcb.lt
  have h1 : (s.reg a == 0) = false := by simpa using h0
  clear h0
  clear hs hl hN hcb hE hbus hNB
  go_enter Tryd.func56, Tryd.ntmps56
  go_wp2
  generalize hV : World.alloc _ _ = V
  have bx : Blk w.heap.size (cdv ⟨22, a, b, d, i⟩) 72 V := by subst hV; exact Blk.new w (cdv ⟨22, a, b, d, i⟩) _
  have hg : Grew w V := by subst hV; exact (Grew.refl _).alloc _
  clear hV
  replace hP := hP.grew hg
  replace HE := Lib.hid (HE.out.grew hg)
  clear hg
  have x1 : Atv ⟨w.heap.size, 1, none⟩ (.int .i64 (a : Int)) (V.drew) := (bx.grew (Grew.refl _).drw).atv 1 rfl
  refine wp_still [some 12, some 13, some 14, some 15, some 16, some 17, some 10] zD6 [fun v _ => v = .pointer (some ⟨B, 0, none⟩), fun v _ => v = .pointer (some ⟨w.heap.size, 1, none⟩), fun v _ => v = .int .i64 (((a : Nat) : Int)), fun v _ => v = .pointer (some ⟨B, 0, none⟩), fun v _ => v = .pointer (some ⟨B, 1, none⟩), fun v _ => v = .pointer (some ⟨B, 1 + a, none⟩), fun v _ => v = .pointer (some ⟨B, 1 + a, none⟩)] (by kernel_rfl) (by kernel_rfl) rfl ⟨?_, ?_, ?_, ?_, ?_, ?_, ?_, trivial⟩ ?_
  · intro u w hR hd; exact runs_mv (ev rfl) ⟨rfl, rfl⟩
  · intro u w hR hd; exact rn_fld_72_1 (ev rfl) ⟨rfl, rfl⟩
  · intro u w hR hd; exact rn_ld_3 (ev (hd.1 rfl)) (x1.kept hR) ⟨rfl, rfl⟩
  · intro u w hR hd; exact rn_nil (ev (hd.1 rfl)) ⟨rfl, rfl⟩
  · intro u w hR hd; exact rn_fld_43_1 (ev (hd.1 rfl)) ⟨rfl, rfl⟩
  · intro u w hR hd; exact rn_idxa_30 (a) (ev (hd.1 rfl)) (ev (hd.2.1 rfl)) (by omega) ⟨rfl, rfl⟩
  · intro u w hR hd; exact runs_mva (ev (hd.1 rfl)) ⟨rfl, rfl⟩
  intro u h
  have he : u 10 = .pointer (some ⟨B, 1 + a, none⟩) := h 6 (by decide)
  simp only [mixA, mixL, zz9, zz0]
  rw [he]
  clear h he x1
  generalize hV : V.drew = V2
  replace bx : Blk w.heap.size (cdv ⟨22, a, b, d, i⟩) 72 V2 := by subst hV; exact bx.grew (Grew.refl _).drw
  replace hP : Pf CPT N B q S s W w V2 := by subst hV; exact hP.grew (Grew.refl _).drw
  replace HE : Hid (EnvN N V2) := Lib.hid (by subst hV; exact HE.out.grew (Grew.refl _).drw)
  clear hV
  have x0 : V2.cell? ⟨w.heap.size, 0, none⟩ = some (.int .i64 22) := bx.cell 0
  have x1 : V2.cell? ⟨w.heap.size, 1, none⟩ = some (.int .i64 (a : Int)) := bx.cell 1
  have x2 : V2.cell? ⟨w.heap.size, 2, none⟩ = some (.int .i64 (b : Int)) := bx.cell 2
  have x3 : V2.cell? ⟨w.heap.size, 3, none⟩ = some (.int .i64 (d : Int)) := bx.cell 3
  have x4 : V2.cell? ⟨w.heap.size, 4, none⟩ = some (.int .i16 i) := bx.cell 4
  have s0 : V2.cell? ⟨B, 0, none⟩ = some (.int .i64 s.pc) := hP.cpu.cell 0
  have sf := hP.cpu.free
  have sa : V2.cell? ⟨B, 1 + a, none⟩ = some (.int .i16 (s.reg a)) := by rw [hP.cpu.cell]; exact stv_at HS.out (by omega)
  go_wp2
  go_ret
  exact ⟨rfl, hP.pc (s.pc + 1)⟩
set_option maxHeartbeats 4000000 in
theorem perf_23 (a b d : Nat) (ha : a < 8) (hb : b < 8) (hd : d < 8) (i n : Int) (N B q : Nat) (S : Nat → Prop) (s : St) (W : Wd) (w : World) (hcb : Blk B (stv s) CPT w) (hbus : Bus N w q W S) (hE : EnvN N w) (hs : s.Ok) (hl : W.cs.length ≤ 90000) (hN : N ≤ w.heap.size) (hNB : N ≤ B) (hp : -9223372036854775808 ≤ s.pc ∧ s.pc < 9223372036854775807) :
    Calls Tryd.prog 56 #[.pointer (some ⟨B, 0, none⟩), cdV ⟨23, a, b, d, i⟩, .int .i64 n, (.iface 47 (.pointer (some ⟨q, 0, none⟩)))] w fun e w' => e = .returned (.bool (perf ⟨23, a, b, d, i⟩ n s W).1) ∧ Pf CPT N B q S (perf ⟨23, a, b, d, i⟩ n s W).2.1 (perf ⟨23, a, b, d, i⟩ n s W).2.2 w w' := by
  rw [show perf ⟨23, a, b, d, i⟩ n s W = ((W.read n).2.1, s.to a (W.read n).1 (s.pc + 1), (W.read n).2.2) from rfl]
  have HS := Lib.hid hs
  have HL : Hid (W.cs.length ≤ 100000) := Lib.hid (by omega)
  have HN := Lib.hid hN
  have hP := Pf.start hcb hbus
  obtain ⟨p0, p1⟩ := hp
  have HE := Lib.hid hE
  have hBl := hcb.lt
  clear hs hl hN hcb hE hbus hNB
  go_enter Tryd.func56, Tryd.ntmps56
  go_wp2
  generalize hV : World.alloc _ _ = V
  have bx : Blk w.heap.size (cdv ⟨23, a, b, d, i⟩) 72 V := by subst hV; exact Blk.new w (cdv ⟨23, a, b, d, i⟩) _
  have hg : Grew w V := by subst hV; exact (Grew.refl _).alloc _
  clear hV
  replace hP := hP.grew hg
  replace HE := Lib.hid (HE.out.grew hg)
  clear hg
  have x1 : Atv ⟨w.heap.size, 1, none⟩ (.int .i64 (a : Int)) (V.drew) := (bx.grew (Grew.refl _).drw).atv 1 rfl
  refine wp_still [some 12, some 13, some 14, some 15, some 16, some 17, some 10] zD6 [fun v _ => v = .pointer (some ⟨B, 0, none⟩), fun v _ => v = .pointer (some ⟨w.heap.size, 1, none⟩), fun v _ => v = .int .i64 (((a : Nat) : Int)), fun v _ => v = .pointer (some ⟨B, 0, none⟩), fun v _ => v = .pointer (some ⟨B, 1, none⟩), fun v _ => v = .pointer (some ⟨B, 1 + a, none⟩), fun v _ => v = .pointer (some ⟨B, 1 + a, none⟩)] (by kernel_rfl) (by kernel_rfl) rfl ⟨?_, ?_, ?_, ?_, ?_, ?_, ?_, trivial⟩ ?_
  · intro u w hR hd; exact runs_mv (ev rfl) ⟨rfl, rfl⟩
  · intro u w hR hd; exact rn_fld_72_1 (ev rfl) ⟨rfl, rfl⟩
  · intro u w hR hd; exact rn_ld_3 (ev (hd.1 rfl)) (x1.kept hR) ⟨rfl, rfl⟩
  · intro u w hR hd; exact rn_nil (ev (hd.1 rfl)) ⟨rfl, rfl⟩
  · intro u w hR hd; exact rn_fld_43_1 (ev (hd.1 rfl)) ⟨rfl, rfl⟩
  · intro u w hR hd; exact rn_idxa_30 (a) (ev (hd.1 rfl)) (ev (hd.2.1 rfl)) (by omega) ⟨rfl, rfl⟩
  · intro u w hR hd; exact runs_mva (ev (hd.1 rfl)) ⟨rfl, rfl⟩
  intro u h
  have he : u 10 = .pointer (some ⟨B, 1 + a, none⟩) := h 6 (by decide)
  simp only [mixA, mixL, zz9, zz0]
  rw [he]
  clear h he x1
  generalize hV : V.drew = V2
  replace bx : Blk w.heap.size (cdv ⟨23, a, b, d, i⟩) 72 V2 := by subst hV; exact bx.grew (Grew.refl _).drw
  replace hP : Pf CPT N B q S s W w V2 := by subst hV; exact hP.grew (Grew.refl _).drw
  replace HE : Hid (EnvN N V2) := Lib.hid (by subst hV; exact HE.out.grew (Grew.refl _).drw)
  clear hV
  have x0 : V2.cell? ⟨w.heap.size, 0, none⟩ = some (.int .i64 23) := bx.cell 0
  have x1 : V2.cell? ⟨w.heap.size, 1, none⟩ = some (.int .i64 (a : Int)) := bx.cell 1
  have x2 : V2.cell? ⟨w.heap.size, 2, none⟩ = some (.int .i64 (b : Int)) := bx.cell 2
  have x3 : V2.cell? ⟨w.heap.size, 3, none⟩ = some (.int .i64 (d : Int)) := bx.cell 3
  have x4 : V2.cell? ⟨w.heap.size, 4, none⟩ = some (.int .i16 i) := bx.cell 4
  have s0 : V2.cell? ⟨B, 0, none⟩ = some (.int .i64 s.pc) := hP.cpu.cell 0
  have sf := hP.cpu.free
  have sa : V2.cell? ⟨B, 1 + a, none⟩ = some (.int .i16 (s.reg a)) := by rw [hP.cpu.cell]; exact stv_at HS.out (by omega)
  have hm_Read : ∀ w, (method (153 + Made.depth) 47 (.pointer (some ⟨q, 0, none⟩)) "Read").run Tryd.prog w = .ok (37, .pointer (some ⟨q, 0, none⟩)) w := fun _ => by kernel_rfl
  go_wp2_with (go_at_call 37; (with_reducible refine (read_pf hP n HL.out HN.out).mono ?_); rintro r w5 ⟨rfl, hP5⟩; clear s0 sf sa; have s0 : w5.cell? ⟨B, 0, none⟩ = some (.int .i64 s.pc) := hP5.cpu.cell 0; have sf := hP5.cpu.free; have sa : w5.cell? ⟨B, 1 + a, none⟩ = some (.int .i16 (s.reg a)) := (by rw [hP5.cpu.cell]; exact stv_at HS.out (by omega)); have HP5 := Lib.hid hP5; clear hP5)
  go_ret
  exact ⟨rfl, (HP5.out.set a _).pc (s.pc + 1)⟩
end Go.Proofs.YtbhglpiiabpdjaaDoor
