/-
  LAYER 12 (cpu): the example of the chapter.
-/
import Derived.Test.YtbhglpiiabpdjaaDoorShort
import Derived.Test.YtbhglpiiabpdjaaDoorCpuRun
namespace Go.Proofs.YtbhglpiiabpdjaaDoor
open Go Go.RowKit Go.IntWalk Go.WideShapes
set_option linter.unusedSimpArgs false
set_option linter.unusedVariables false
set_option maxRecDepth 8000
theorem run_ten (I : Im) (s : St) (W : Wd) (N c p q : Nat) (S : Nat → Prop) (w : World) (hcb : Blk c (stv s) CPT w) (hbus : Bus N w q W S) (hIm : ImgAt N w p I) (hIo : I.Ok) (hE : EnvN N w) (hs : s.Ok) (hl : W.cs.length + 2 * 10 ≤ 70000) (hN : N ≤ w.heap.size) (hNc : N ≤ c) (hWo : W.Ok) :
    Calls Tryd.prog 18 #[.pointer (some ⟨c, 0, none⟩), .pointer (some ⟨p, 0, none⟩), (.iface 47 (.pointer (some ⟨q, 0, none⟩))), .int .i64 10] w fun e w' => e = .returned (.tuple #[.int .i64 (runN I 10 s W).2.1, .int .i64 ((runN I 10 s W).2.2.1 : Nat)]) ∧ Pf CPT N c q S (runN I 10 s W).1 (runN I 10 s W).2.2.2 w w' ∧ (runN I 10 s W).1.Ok ∧ (runN I 10 s W).2.2.2.Ok ∧ (runN I 10 s W).2.2.2.cs.length ≤ W.cs.length + 2 * 10 :=
  run_any 10 I s W N c p q S w hcb hbus hIm hIo hE hs hl hN hNc hWo
theorem run_fin (I : Im) (L : Nat) {s : St} {W : Wd} (hs : s.Ok) (hW : W.Ok) : (runN I L s W).1.Ok := by
  induction L generalizing s W with
  | zero => exact hs
  | succ L ih =>
    rw [runN_succ]
    split
    · exact ih (step_ok I hs hW).1 (step_ok I hs hW).2
    · exact (step_ok I hs hW).1
theorem Grew.trans2 {a b c : World} (h : Grew a b) (h' : Below a.heap.size b c) (_ : a.heap.size ≤ b.heap.size) : Grew a c := Below.trans h h'
/-- A bus that has just been made. -/
theorem bus_new {N q : Nat} {w : World} (fl : Int) (h : Blk q [.slice none 0 0, .slice none 0 0, .int .i64 fl, .slice none 0 0] WT w) (hN : N ≤ q) : Bus N w q ⟨[], [], fl, []⟩ (fun k => k = q) :=
  ⟨none, none, none, 0, 0, 0, h, OwR.nil 1 h16 _ _ _, RdL.nil _ _ _ _ _ (by omega), OwR.nil 3 clv _ _ _, fun _ e => (by cases e), fun _ _ e => (by cases e), rfl, fun _ e => (by cases e), fun _ e => (by cases e), fun _ e => (by cases e), fun k hk => by
    subst hk
    exact ⟨hN, _, _, _, h, .inl rfl⟩⟩
def awI : Im := ⟨[⟨2, 0, 0, 0, 5⟩, ⟨2, 1, 0, 0, 7⟩, ⟨8, 2, 0, 1, 0⟩, ⟨1, 0, 0, 0, 0⟩], [], [], 0, 0, 0⟩
def awW : Wd := ⟨[], [], 0, []⟩
theorem awI_ok : awI.Ok := ⟨fun x hx => by
    simp only [awI, List.mem_cons, List.not_mem_nil, or_false] at hx
    rcases hx with rfl | rfl | rfl | rfl <;> (unfold I16; decide), fun z hz => (by cases hz), by decide, fun z hz => (by cases hz)⟩
theorem awW_ok : awW.Ok := ⟨fun z hz => (by cases hz), fun z hz => (by cases hz)⟩
theorem aw_out : (runN awI 10 zst awW).2.1 = 2 := by decide
theorem aw_n : (runN awI 10 zst awW).2.2.1 = 4 := by decide
theorem aw_reg : (runN awI 10 zst awW).1.reg 2 = 35 := by decide
theorem aw_pc : (runN awI 10 zst awW).1.pc = 3 := by decide
set_option maxHeartbeats 4000000 in
theorem awake_any (N : Nat) (w : World) (hE : EnvN N w) (hN : N ≤ w.heap.size) : Calls Tryd.prog 10 #[] w fun e w' => e = .returned (.bool true) ∧ Grew w w' := by
  have HE := Lib.hid hE
  have HN := Lib.hid hN
  clear hE hN
  go_enter Tryd.func10, Tryd.ntmps10
  go_upto_region 2 with fail
  generalize hW : World.alloc (World.alloc _ _) _ = V
  have hr : RdL 5 cdv (w.alloc (.cells #[.int .i64 2, .int .i64 0, .int .i64 0, .int .i64 0, .int .i16 5, .int .i64 2, .int .i64 1, .int .i64 0, .int .i64 0, .int .i16 7, .int .i64 8, .int .i64 2, .int .i64 0, .int .i64 1, .int .i16 0, .int .i64 1, .int .i64 0, .int .i64 0, .int .i64 0, .int .i16 0] 72)) (some ⟨w.heap.size, 0, none⟩) 4 ([⟨2, 0, 0, 0, 5⟩, ⟨2, 1, 0, 0, 7⟩, ⟨8, 2, 0, 1, 0⟩, ⟨1, 0, 0, 0, 0⟩] : List Cd) := (Rw.made encD w [⟨2, 0, 0, 0, 5⟩, ⟨2, 1, 0, 0, 7⟩, ⟨8, 2, 0, 1, 0⟩, ⟨1, 0, 0, 0, 0⟩] 4 72 #[.int .i64 2, .int .i64 0, .int .i64 0, .int .i64 0, .int .i16 5, .int .i64 2, .int .i64 1, .int .i64 0, .int .i64 0, .int .i16 7, .int .i64 8, .int .i64 2, .int .i64 0, .int .i64 1, .int .i16 0, .int .i64 1, .int .i64 0, .int .i64 0, .int .i64 0, .int .i16 0] (0, 0) rfl rfl (by omega)).rd
  have g0 : Grew w (w.alloc (.cells #[.int .i64 2, .int .i64 0, .int .i64 0, .int .i64 0, .int .i16 5, .int .i64 2, .int .i64 1, .int .i64 0, .int .i64 0, .int .i16 7, .int .i64 8, .int .i64 2, .int .i64 0, .int .i64 1, .int .i16 0, .int .i64 1, .int .i64 0, .int .i64 0, .int .i64 0, .int .i16 0] 72)) := (Grew.refl _).alloc _
  have sz : (w.alloc (.cells #[.int .i64 2, .int .i64 0, .int .i64 0, .int .i64 0, .int .i16 5, .int .i64 2, .int .i64 1, .int .i64 0, .int .i64 0, .int .i16 7, .int .i64 8, .int .i64 2, .int .i64 0, .int .i64 1, .int .i16 0, .int .i64 1, .int .i64 0, .int .i64 0, .int .i64 0, .int .i16 0] 72)).heap.size = w.heap.size + 1 := by simp
  have g1 : Grew (w.alloc (.cells #[.int .i64 2, .int .i64 0, .int .i64 0, .int .i64 0, .int .i16 5, .int .i64 2, .int .i64 1, .int .i64 0, .int .i64 0, .int .i16 7, .int .i64 8, .int .i64 2, .int .i64 0, .int .i64 1, .int .i16 0, .int .i64 1, .int .i64 0, .int .i64 0, .int .i64 0, .int .i16 0] 72)) V := by
    subst hW
    repeat (first | with_reducible exact Grew.refl _ | with_reducible refine Grew.alloc ?_ _ | with_reducible refine Grew.drw ?_ | with_reducible refine Grew.drwN ?_ _ | with_reducible refine Grew.sc ?_ (by first | omega | (simp <;> omega)) _ _)
  have b2 : Blk (w.heap.size + 1) [.int .i64 0, .slice none 0 0, .int .i64 0, .int .i64 0, .slice none 0 0, .slice none 0 0, .slice none 0 0, .slice none 0 0, .slice none 0 0, .slice none 0 0, .slice none 0 0, .slice (some ⟨w.heap.size, 0, none⟩) 4 4] 28 V := by subst hW; exact (sz ▸ Blk.new (w.alloc (.cells #[.int .i64 2, .int .i64 0, .int .i64 0, .int .i64 0, .int .i16 5, .int .i64 2, .int .i64 1, .int .i64 0, .int .i64 0, .int .i16 7, .int .i64 8, .int .i64 2, .int .i64 0, .int .i64 1, .int .i16 0, .int .i64 1, .int .i64 0, .int .i64 0, .int .i64 0, .int .i16 0] 72)) [.int .i64 0, .slice none 0 0, .int .i64 0, .int .i64 0, .slice none 0 0, .slice none 0 0, .slice none 0 0, .slice none 0 0, .slice none 0 0, .slice none 0 0, .slice none 0 0, .slice (some ⟨w.heap.size, 0, none⟩) 4 4] 28 :)
  have szV : V.heap.size = w.heap.size + 2 := by subst hW; simp
  clear hW
  have hI : ImgAt (w.heap.size + 2) V (w.heap.size + 1) awI := ⟨⟨.int .i64 0, .slice none 0 0, .slice none 0 0, .slice none 0 0, .slice none 0 0, .slice none 0 0⟩, none, none, some ⟨w.heap.size, 0, none⟩, none, 0, 0, 4, 0, b2,
    ⟨RdL.nil _ _ _ _ _ (by omega), RdL.nil _ _ _ _ _ (by omega), hr.kept g1, fun _ _ e => (by cases e), fun _ _ e => (by cases e), fun _ a e => (by cases e; show w.heap.size < _; omega)⟩⟩
  have HG := Lib.hid (g0.trans g1)
  clear b2 hr g0 g1 sz
  have hE := (HE.out.grew HG.out).up (M := w.heap.size + 2) (by have := HN.out; omega)
  refine wp_region_list ?_
  refine alloc_cpu rfl rfl fun w5 hB5 g5 => ?_
  have hI5 := hI.grew g5
  have hE5 := hE.grew g5
  have HG5 := Lib.hid (HG.out.trans g5)
  have sz5 : w.heap.size + 3 ≤ w5.heap.size := by
    have := hB5.lt; omega
  clear hI hE g5 HG
  rw [szV] at hB5 ⊢
  clear szV
  simp only [zz1, zz2, zz3, Act.put, mixA, mixL, zz9, zz0, zz4, zz5, zz6]
  have HI5 := Lib.hid hI5
  have HE5 := Lib.hid hE5
  have HB5 := Lib.hid hB5
  clear hI5 hE5 hB5
  go_wp2_with (go_at_call 18; generalize hW : World.alloc _ _ = V2; have bq : Blk w5.heap.size [.slice none 0 0, .slice none 0 0, .int .i64 0, .slice none 0 0] WT V2 := (by subst hW; exact Blk.new w5 _ _); have g6 : Grew w5 V2 := (by subst hW; exact (Grew.refl _).alloc _); clear hW; (with_reducible refine (run_ten awI zst awW (w.heap.size + 2) (w.heap.size + 2) (w.heap.size + 1) w5.heap.size (fun k => k = w5.heap.size) V2 (HB5.out.grew g6) (bus_new 0 bq (by omega)) (HI5.out.grew g6) awI_ok (HE5.out.grew g6) zst_ok (by decide) (by have := g6.sz; omega) (Nat.le_refl _) awW_ok).mono ?_); rintro e w7 ⟨rfl, h7, _⟩; rw [aw_out, aw_n]; have c0 : w7.cell? ⟨w.heap.size + 2, 0, none⟩ = some (.int .i64 3) := (by rw [h7.cpu.cell, stv_pc, aw_pc]); have c3 : w7.cell? ⟨w.heap.size + 2, 3, none⟩ = some (.int .i16 35) := (by rw [h7.cpu.cell, show 3 = 1 + 2 from rfl, stv_at (run_fin awI 10 zst_ok awW_ok) (by omega), aw_reg]); have HG7 : Hid (Grew w w7) := Lib.hid (by obtain ⟨_, S7, _, m7⟩ := h7; exact (HG5.out.trans g6).trans2 (m7.below (M := w.heap.size) (by have := HG5.out.sz; have := g6.sz; omega) (fun k e => by have e2 : k = w.heap.size + 2 := e; omega) (fun k e => by have e2 : k = w5.heap.size := e; omega)) (by have := HG5.out.sz; have := g6.sz; omega)); clear h7 bq g6)
  go_ret
  exact ⟨rfl, HG7.out⟩
end Go.Proofs.YtbhglpiiabpdjaaDoor
