/-
  LAYER 6 (deadlinequeue): the reference's Same; an operation on a queue and on a list.
-/
import Derived.Test.YtjcoghjkjnhljaaDqLaw1
namespace Go.Proofs.Ytjcoghjkjnhljaa
open Go Go.RowKit Go.IntWalk Go.Sort
open Go.ChangeShapes Go.WideShapes Go.ChangeAt
set_option maxRecDepth 8000
set_option linter.unusedSimpArgs false

set_option maxHeartbeats 2000000 in
theorem same_any (p : Option Addr) (n c : Nat) (xs : List It) (q : Option Addr) (m d : Nat) (ys : List It) (w : World) (hl : xs.length = n) (hl2 : ys.length = m) (hn : n ≤ 1000000) (h : RdI w p c xs) (h2 : RdI w q d ys) :
    Calls Try.prog 15 #[.slice p n c, .slice q m d] w fun e w' => e = .returned (.bool (decide (xs = ys))) ∧ Grew w w' := by
  by_cases hnm : n = m
  · subst hnm
    subst hl
    have HX := Lib.hid h
    have HY := Lib.hid h2
    have Hl2 := Lib.hid hl2
    clear h h2 hl2
    go_enter Try.func15, Try.ntmps15
    go_wp2_with fail
    go_loopg [13] xs.length (fun gg iv wr => ∃ k : Nat, iv = .int .i64 (k : Int) ∧ k ≤ xs.length ∧ gg = xs.length - k ∧ Hid (xs.take k = ys.take k) ∧ Hid (Grew w wr))
    case atStart => exact ⟨0, rfl, Nat.zero_le _, rfl, rfl, Grew.refl _⟩
    case round =>
      obtain ⟨k, rfl, hk, rfl, htk, hg⟩ := hrel
      by_cases hlt : k < xs.length
      · have hrx := HX.out.kept hg.out
        have hry := HY.out.kept hg.out
        obtain ⟨b1, o1, rfl, -⟩ := hrx.cells (by omega)
        obtain ⟨b2, o2, rfl, -⟩ := hry.cells (by rw [Hl2.out]; omega)
        have hlty : k < ys.length := by rw [Hl2.out]; exact hlt
        have hX0 := hrx.bx k (xs.getD k (0, 0)) (by simp [List.getD, hlt])
        have hY0 := hry.bx k (ys.getD k (0, 0)) (by simp [List.getD, hlty])
        have htx := take_snocI xs k hlt
        have hty := take_snocI ys k hlty
        generalize xs.getD k (0, 0) = x at hX0 htx
        generalize ys.getD k (0, 0) = y at hY0 hty
        have Htx := Lib.hid htx
        have Hty := Lib.hid hty
        have HX0 := Lib.hid (hX0.grew (Grew.drew wr))
        have HY0 := Lib.hid (hY0.grew (Grew.drew wr))
        clear htx hty hX0 hY0 hrx hry hlty
        by_cases heq : x = y
        · have hnext := Lib.hid (show xs.take (k + 1) = ys.take (k + 1) by rw [Htx.out, Hty.out, htk.out, heq])
          have Heq := Lib.hid heq
          clear heq
          go_wp2_with fail
          have hX := HX0.out
          have hY := HY0.out
          have heq := Heq.out
          refine wp_still [some 16, some 17, some 18, some 19, some 20, some 21, some 22, some 23, some 24] [false, false, false, false, false, false, false, false, false, false, false, false, false, false, false, false, true, true, true, true, true, true, true, true, true, false] [fun v _ => v = .slice (some ⟨b1, o1, none⟩) (xs.length) (c), fun v _ => v = .int .i64 (((k : Nat) : Int)), fun v _ => v = .pointer (some ⟨b1, o1 + k * 2, none⟩), fun v _ => v = itv (x), fun v _ => v = .slice (some ⟨b2, o2, none⟩) (xs.length) (d), fun v _ => v = .int .i64 (((k : Nat) : Int)), fun v _ => v = .pointer (some ⟨b2, o2 + k * 2, none⟩), fun v _ => v = itv (y), fun v _ => v = .bool (false)] (by kernel_rfl) (by kernel_rfl) rfl ⟨?_, ?_, ?_, ?_, ?_, ?_, ?_, ?_, ?_, trivial⟩ ?_
          · intro u w hR hd; exact runs_mv (ev rfl) ⟨rfl, rfl⟩
          · intro u w hR hd; exact runs_mv (ev rfl) ⟨rfl, rfl⟩
          · intro u w hR hd; exact runs_ix26 (ev (hd.1 rfl)) (ev (hd.2.1 rfl)) (by omega) ⟨rfl, rfl⟩
          · intro u w hR hd; exact runs_bx36 (ev (hd.1 rfl)) (hX.kept hR) ⟨rfl, rfl⟩
          · intro u w hR hd; exact runs_mv (ev rfl) ⟨rfl, rfl⟩
          · intro u w hR hd; exact runs_mv (ev rfl) ⟨rfl, rfl⟩
          · intro u w hR hd; exact runs_ix26 (ev (hd.1 rfl)) (ev (hd.2.1 rfl)) (by omega) ⟨rfl, rfl⟩
          · intro u w hR hd; exact runs_bx36 (ev (hd.1 rfl)) (hY.kept hR) ⟨rfl, rfl⟩
          · intro u w hR hd; exact runs_neq36 (ev (hd.1 rfl)) (ev (hd.2.1 rfl)) ⟨rfl, (congrArg Value.bool (decide_eq_false (fun h => h heq)))⟩
          · intro uu h
            have h8 : uu 24 = .bool false := h 8 (by decide)
            simp only [mixA, mixL, cond_true, cond_false]
            rw [h8]
            clear h h8 hX hY heq
            go_wp2
            go_roundg (xs.length - (k + 1))
            case measure => omega
            case rel => exact ⟨k + 1, by go_num, by omega, rfl, hnext, hg.out.trans (Grew.drew wr)⟩
        · have hfin := Lib.hid (show decide (xs = ys) = false by
            rw [decide_eq_false_iff_not]
            intro e
            subst e
            have h1 := Htx.out.symm.trans Hty.out
            have h2 := List.append_cancel_left h1
            simp only [List.cons.injEq, and_true] at h2
            exact heq h2)
          have Hne := Lib.hid (show x ≠ y from heq)
          clear heq
          go_wp2_with fail
          have hX := HX0.out
          have hY := HY0.out
          have hne := Hne.out
          refine wp_still [some 16, some 17, some 18, some 19, some 20, some 21, some 22, some 23, some 24] [false, false, false, false, false, false, false, false, false, false, false, false, false, false, false, false, true, true, true, true, true, true, true, true, true, false] [fun v _ => v = .slice (some ⟨b1, o1, none⟩) (xs.length) (c), fun v _ => v = .int .i64 (((k : Nat) : Int)), fun v _ => v = .pointer (some ⟨b1, o1 + k * 2, none⟩), fun v _ => v = itv (x), fun v _ => v = .slice (some ⟨b2, o2, none⟩) (xs.length) (d), fun v _ => v = .int .i64 (((k : Nat) : Int)), fun v _ => v = .pointer (some ⟨b2, o2 + k * 2, none⟩), fun v _ => v = itv (y), fun v _ => v = .bool (true)] (by kernel_rfl) (by kernel_rfl) rfl ⟨?_, ?_, ?_, ?_, ?_, ?_, ?_, ?_, ?_, trivial⟩ ?_
          · intro u w hR hd; exact runs_mv (ev rfl) ⟨rfl, rfl⟩
          · intro u w hR hd; exact runs_mv (ev rfl) ⟨rfl, rfl⟩
          · intro u w hR hd; exact runs_ix26 (ev (hd.1 rfl)) (ev (hd.2.1 rfl)) (by omega) ⟨rfl, rfl⟩
          · intro u w hR hd; exact runs_bx36 (ev (hd.1 rfl)) (hX.kept hR) ⟨rfl, rfl⟩
          · intro u w hR hd; exact runs_mv (ev rfl) ⟨rfl, rfl⟩
          · intro u w hR hd; exact runs_mv (ev rfl) ⟨rfl, rfl⟩
          · intro u w hR hd; exact runs_ix26 (ev (hd.1 rfl)) (ev (hd.2.1 rfl)) (by omega) ⟨rfl, rfl⟩
          · intro u w hR hd; exact runs_bx36 (ev (hd.1 rfl)) (hY.kept hR) ⟨rfl, rfl⟩
          · intro u w hR hd; exact runs_neq36 (ev (hd.1 rfl)) (ev (hd.2.1 rfl)) ⟨rfl, (congrArg Value.bool (decide_eq_true hne))⟩
          · intro uu h
            have h8 : uu 24 = .bool true := h 8 (by decide)
            simp only [mixA, mixL, cond_true, cond_false]
            rw [h8]
            clear h h8 hX hY hne
            go_wp2
            go_ret
            exact ⟨ret_bool hfin.out.symm, hg.out.trans (Grew.drew wr)⟩
      · obtain rfl : k = xs.length := by omega
        rw [List.take_length, ← Hl2.out, List.take_length] at htk
        have hfin := Lib.hid (show decide (xs = ys) = true from decide_eq_true htk.out)
        go_wp2
        go_ret
        exact ⟨ret_bool hfin.out.symm, hg.out⟩
  · have hfin := Lib.hid (show decide (xs = ys) = false from decide_eq_false fun e => hnm (by rw [← hl, ← hl2, e]))
    clear h h2 hl hl2
    have hne : ((n : Int) != (m : Int)) = true := by rw [bne_iff_ne]; omega
    go_enter Try.func15, Try.ntmps15
    go_wp2
    go_ret
    exact ⟨ret_bool hfin.out.symm, Grew.refl _⟩
/-- The queue at q and the list at p hold L. -/
structure St (w : World) (q : Nat) (p : Option Addr) (c : Nat) (L : List It) : Prop where
  rep : QRep w q L
  rd : RdI w p c L
  out : Out w q p L
theorem cand_grew {w w' : World} {q : Nat} (hq : q < w.heap.size) (hg : Grew w w') (k : Nat) : Cand w' q k ↔ Cand w q k := by
  have e0 : w'.cell? ⟨q, 0, none⟩ = w.cell? ⟨q, 0, none⟩ := World.cell?_of_block (w := w) (w' := w') (a := ⟨q, 0, none⟩) (hg.block q hq)
  have e1 : w'.cell? ⟨q, 1, none⟩ = w.cell? ⟨q, 1, none⟩ := World.cell?_of_block (w := w) (w' := w') (a := ⟨q, 1, none⟩) (hg.block q hq)
  unfold Cand
  rw [e0, e1]
theorem Out.grew {w w' : World} {q : Nat} {p : Option Addr} {L : List It} (h : Out w q p L) (hq : q < w.heap.size) (hg : Grew w w') : Out w' q p L := fun h0 a ha hc => h h0 a ha ((cand_grew hq hg _).1 hc)
theorem St.grew {w w' : World} {q : Nat} {p : Option Addr} {c : Nat} {L : List It} (h : St w q p c L) (hg : Grew w w') : St w' q p c L := ⟨h.rep.grew hg, h.rd.kept hg, h.out.grew h.rep.lt hg⟩
theorem QRep.newOut {w w' : World} {q : Nat} {L K : List It} {p : Option Addr} (h : QRep w q L) (hg : Grew w w') (hp : ∀ a, p = some a → w.heap.size ≤ a.block) : Out w' q p K := fun _ a ha hc => by
  obtain ⟨d, h1, _⟩ := h
  exact h1.apart hg (hp a ha) hc
/-- An operation on the list. -/
def stepL (L : List It) (k i t : Int) : List It := if k = 0 then pushL L (i, t) else if k = 1 then rem i L else if k = 2 then L.tail else L
/-- What do has done. -/
def DoPost (q : Nat) (K : List It) (w : World) (e : Ending) (w' : World) : Prop := ∃ p' c', e = .returned (.tuple #[.slice p' K.length c', .bool true]) ∧ St w' q p' c' K ∧ Off w.heap.size q w w'
theorem elemJ : Try.prog.elem 26 = 36 := by kernel_rfl
theorem underJ : Try.prog.underlying 26 = some (.slice (Try.prog.elem 26)) := by rw [elemJ]; exact Try.underlying26
theorem sizeJ (w : World) : (sizeOf (Try.prog.elem 26)).run Try.prog w = .ok 2 w := by rw [elemJ]; kernel_rfl
section
variable {dst : Option Tmp} {ty : TypeId} {pos : String} {after : Array Edge} {g : Option (Nat × Bool)} {a : Act} {w : World} {T : Value → World → Prop}
theorem runs_ixz26 {o1 o2 : Operand} {b off n c : Nat} (hx : a.eval o1 = .slice (some ⟨b, off, none⟩) n c) (hy : a.eval o2 = .int .i64 0) (hi : 0 < n) (h : T (.pointer (some ⟨b, off, none⟩)) w) :
    Runs Try.prog ⟨dst, .indexAddr 26 o1 o2, ty, pos, after, g⟩ a w T := by
  have h1 : (0 : Int) < (n : Int) := by omega
  refine Runs.value (v := .pointer (some ⟨b, off, none⟩)) (w' := w) ?_ h
  simp only [execOp, hx, hy]
  go_simp
theorem runs_cut1 {y : Nat} {b o n c : Nat} (hy : a.eval (.tmp y) = .slice (some ⟨b, o, none⟩) (n + 1) c) (h : T (.slice (if c = 1 then some ⟨b, o, none⟩ else some ⟨b, o + 2, none⟩) n (c - 1)) w) :
    Runs Try.prog ⟨dst, .slice 26 (.tmp y) (some (.const (.int .i64 1))) none none, ty, pos, after, g⟩ a w T := by
  have hrun : (Instr.sliceAt 26 (.slice (some ⟨b, o, none⟩) (n + 1) c) (some (.int .i64 1)) none none).run Try.prog w = .ok (.slice (if c = 1 then some ⟨b, o, none⟩ else some ⟨b, o + 2, none⟩) n (c - 1)) w := by
    rw [run_sliceAt_slice w 26 _ _ _ _ underJ, run_slice_l w 26 (some ⟨b, o, none⟩) (n + 1) c underJ .i64 1 (by omega) (by omega), sizeJ]
    simp only [Result.andThen]
    unfold sliced
    simp [Addr.add]
  refine Runs.value (v := .slice (if c = 1 then some ⟨b, o, none⟩ else some ⟨b, o + 2, none⟩) n (c - 1)) (w' := w) ?_ h
  have e : execOp a.eval ⟨dst, .slice 26 (.tmp y) (some (.const (.int .i64 1))) none none, ty, pos, after, g⟩ = (do let v ← Instr.sliceAt 26 (a.eval (.tmp y)) (some (.int .i64 1)) none none; pure (.value v)) := rfl
  rw [e, hy]
  simp [hrun, Result.andThen]
end
set_option maxHeartbeats 4000000 in
theorem do_any (q : Nat) (L : List It) (p : Option Addr) (c : Nat) (k i t : Int) (w : World) (h : St w q p c L) (hi : In64 i) (hL : L.length ≤ 1000) :
    Calls Try.prog 12 #[.pointer (some ⟨q, 0, none⟩), .slice p L.length c, .agg #[.int .i64 k, .int .i64 i, .int .i64 t]] w (DoPost q (stepL L k i t) w) := by
  have hqlt := h.rep.lt
  have HS := Lib.hid h
  have Hi := Lib.hid hi
  have g1 : Grew w (w.alloc (.cells #[.int .i64 k, .int .i64 i, .int .i64 t] 28)) := (Grew.refl w).alloc _
  have HS1 := Lib.hid (h.grew g1)
  have Hap : Hid (¬ Cand (w.alloc (.cells #[.int .i64 k, .int .i64 i, .int .i64 t] 28)) q w.heap.size) := Lib.hid (by obtain ⟨d, h1, _⟩ := h.rep; exact h1.apart g1 (Nat.le_refl _))
  have Hoff1 : Hid (Off w.heap.size q w (w.alloc (.cells #[.int .i64 k, .int .i64 i, .int .i64 t] 28))) := Lib.hid (Off.of_grew g1 (Nat.le_refl _) hqlt)
  clear h hi g1
  by_cases k0 : k = 0
  · subst k0
    have hst := Lib.hid (show stepL L 0 i t = pushL L (i, t) by simp [stepL])
    rw [hst.out]
    go_enter Try.func12, Try.ntmps12
    go_wp2_with fail
    (with_reducible refine (push_any q L (i, t) _ HS1.out.rep Hi.out (by omega)).mono ?_)
    rintro e w2 ⟨rfl, r2, o2⟩
    have kp := o2.keeps (S := w.heap.size) (by simp) Hap.out
    have x1 : w2.cell? ⟨w.heap.size, 1, none⟩ = some (.int .i64 i) := (kp.1 1).trans (by go_simp)
    have x2 : w2.cell? ⟨w.heap.size, 2, none⟩ = some (.int .i64 t) := (kp.1 2).trans (by go_simp)
    have hl2 := HS1.out.rd.off HS1.out.out o2 (Nat.le_refl _)
    have RP := Lib.hid (rpush_any p L.length c L (i, t) w2 rfl (by omega) hl2.1)
    have R2 := Lib.hid r2
    have O2 := Lib.hid (Hoff1.out.trans (o2.mono Hoff1.out.size))
    clear r2 o2 kp hl2
    go_wp2_with (go_at_call 28; (with_reducible refine RP.out.mono ?_); rintro e w3 ⟨p3, c3, rfl, o3, g3⟩; have O3 := Lib.hid o3; have G3 := Lib.hid g3; clear o3 g3)
    go_ret2
    exact ⟨p3, c3, rfl, ⟨R2.out.grew G3.out, O3.out.rd.2, R2.out.newOut G3.out fun a ha => (O3.out.place a ha).1⟩, O2.out.trans (Off.of_grew G3.out (by exact O2.out.size) R2.out.lt)⟩
  have b0 : (k == 0) = false := beq_eq_false_iff_ne.2 k0
  by_cases k1 : k = 1
  · subst k1
    have hst := Lib.hid (show stepL L 1 i t = rem i L by simp [stepL])
    rw [hst.out]
    clear b0 k0
    have RR := Lib.hid (rremove_any p L.length c L i _ rfl (by omega) HS1.out.rd)
    go_enter Try.func12, Try.ntmps12
    go_wp2_with fail
    (with_reducible refine RR.out.mono ?_)
    rintro e w2 ⟨p2, c2, rfl, o2, g2⟩
    have x1 : w2.cell? ⟨w.heap.size, 1, none⟩ = some (.int .i64 i) := (Below.cell g2 (p := ⟨w.heap.size, 1, none⟩) (by simp)).trans (by go_simp)
    have hs2 := HS1.out.grew g2
    have QR := Lib.hid (remove_any q L i w2 hs2.rep Hi.out (by omega))
    have OUT2 := HS1.out.rep.newOut (K := rem i L) g2 (fun a ha => (o2.place a ha).1)
    have O2 := Lib.hid (And.intro o2.rd.2 OUT2)
    have F2 := Lib.hid (Hoff1.out.trans (Off.of_grew g2 Hoff1.out.size HS1.out.rep.lt))
    clear o2 g2 hs2 OUT2 RR
    go_wp2_with (go_at_call 22; (with_reducible refine QR.out.mono ?_); rintro e w3 ⟨rfl, r3, o3⟩; have R3 := Lib.hid r3; have O3 := Lib.hid o3; clear r3 o3)
    go_ret2
    have hl3 := O2.out.1.off O2.out.2 O3.out (Nat.le_refl _)
    exact ⟨p2, c2, by simp, ⟨R3.out, hl3.1, hl3.2⟩, F2.out.trans (O3.out.mono F2.out.size)⟩
  have b1 : (k == 1) = false := beq_eq_false_iff_ne.2 k1
  by_cases k2 : k = 2
  · subst k2
    have hst := Lib.hid (show stepL L 2 i t = L.tail by simp [stepL])
    rw [hst.out]
    clear b0 k0 b1 k1
    have QP := Lib.hid (pop_any q L _ HS1.out.rep (by omega))
    cases L with
    | nil =>
      have tk0 := Lib.hid trivial
      go_enter Try.func12, Try.ntmps12
      go_wp2_with (go_at_call 19; clear tk0; (with_reducible refine QP.out.mono ?_); rintro e w2 ⟨rfl, r2, o2⟩; have R2 := Lib.hid r2; have O2 := Lib.hid o2; clear r2 o2; simp only [first, List.headD_nil, List.isEmpty_nil, Bool.not_true])
      have hX0 : Bx w2.heap.size 0 ((0 : Int), (0 : Int)) (w2.alloc (.cells #[.int .i64 0, .int .i64 0] 32)).drew := ⟨by go_simp, by go_simp⟩
      have hg3 : Grew w2 (w2.alloc (.cells #[.int .i64 0, .int .i64 0] 32)).drew := ((Grew.refl w2).alloc _).drw
      obtain ⟨S, hS⟩ : ∃ S, S = w2.heap.size := ⟨_, rfl⟩
      rw [← hS] at hX0 ⊢
      generalize World.alloc w2 _ = V at hX0 hg3 ⊢
      have hX := hX0
      have G3 := Lib.hid hg3
      clear hS hg3
      refine wp_still [some 56, some 57, some 58, some 59, some 60, some 61, some 62, some 63, some 6, some 7] [false, false, false, false, false, false, true, true, false, false, false, false, false, false, false, false, false, false, false, false, false, false, false, false, false, false, false, false, false, false, false, false, false, false, false, false, false, false, false, false, false, false, false, false, false, false, false, false, false, false, false, false, false, false, false, false, true, true, true, true, true, true, true, true, false, false, false, false, false, false, false, false, false, false, false, false, false, false, false, false, false, false, false, false, false, false] [fun v _ => v = .slice p 0 c, fun v _ => v = .bool (false), fun v _ => v = .bool (true), fun v _ => v = .bool (true), fun v _ => v = itv (((0 : Int), (0 : Int))), fun v _ => v = itv ((0 : Int), (0 : Int)), fun v _ => v = .bool (true), fun v _ => v = .bool (true), fun v _ => v = .slice p 0 c, fun v _ => v = .bool (true)] (by kernel_rfl) (by kernel_rfl) rfl ⟨?_, ?_, ?_, ?_, ?_, ?_, ?_, ?_, ?_, ?_, trivial⟩ ?_
      · intro u w hR hd; exact runs_mv (ev rfl) ⟨rfl, rfl⟩
      · intro u w hR hd; exact runs_mv (ev rfl) ⟨rfl, rfl⟩
      · intro u w hR hd; exact runs_nt (ev (hd.1 rfl)) ⟨rfl, rfl⟩
      · intro u w hR hd; exact runs_mv (ev (hd.1 rfl)) ⟨rfl, rfl⟩
      · intro u w hR hd; exact ⟨fun _ => runs_bx32 (ev rfl) (hX.kept hR) ⟨rfl, rfl⟩, fun hn => absurd (hd.1 rfl) hn⟩
      · intro u w hR hd; exact ⟨fun _ => runs_bldz32 ⟨rfl, rfl⟩, fun hn => absurd (hd.1 rfl) hn⟩
      · intro u w hR hd; exact ⟨fun _ => runs_eql32 (ev (hd.1 rfl)) (ev (hd.2.1 rfl)) ⟨rfl, (congrArg Value.bool (by decide))⟩, fun hn => absurd (hd.2.2.1 rfl) hn⟩
      · intro u w hR hd; exact runs_an (ev (hd.1 rfl)) (fun hb => ev ((hd.2.1 rfl))) ⟨rfl, rfl⟩
      · intro u w hR hd; exact runs_mva (ev (hd.1 rfl)) ⟨rfl, rfl⟩
      · intro u w hR hd; exact runs_mva (ev (hd.1 rfl)) ⟨rfl, rfl⟩
      · intro uu h
        have e6 : uu 6 = .slice p 0 c := h 8 (by decide)
        have e7 : uu 7 = .bool true := h 9 (by decide)
        simp only [mixA, mixL, cond_true, cond_false]
        rw [e6, e7]
        clear h e6 e7 hX hX0
        go_wp2
        go_ret2
        have hl2 := HS1.out.rd.off HS1.out.out O2.out (Nat.le_refl _)
        have hst2 : St w2 q p c [] := ⟨R2.out, hl2.1, hl2.2⟩
        exact ⟨p, c, rfl, hst2.grew G3.out, (Hoff1.out.trans (O2.out.mono Hoff1.out.size)).trans (Off.of_grew G3.out (Hoff1.out.trans (O2.out.mono Hoff1.out.size)).size R2.out.lt)⟩
    | cons x L =>
      obtain ⟨b, o, rfl, -⟩ := HS1.out.rd.cells (by simp)
      have tk0 := Lib.hid trivial
      have hlen : (L.length : Int) + 1 ≤ 1000 := by simp at hL; omega
      have t1 : ((L.length : Int) + 1 == 0) = false := beq_eq_false_iff_ne.2 (by omega)
      go_enter Try.func12, Try.ntmps12
      go_wp2_with (go_at_call 19; clear tk0; (with_reducible refine QP.out.mono ?_); rintro e w2 ⟨rfl, r2, o2⟩; have R2 := Lib.hid r2; have O2 := Lib.hid o2; clear r2 o2; simp only [first, List.headD_cons, List.isEmpty_cons, Bool.not_false])
      have hl2 := HS1.out.rd.off HS1.out.out O2.out (Nat.le_refl _)
      have HL2 := Lib.hid hl2
      obtain ⟨hy0, hy1⟩ := hl2.1.cell (i := 0) (x := x) rfl
      simp only [Nat.zero_mul, Nat.add_zero] at hy0 hy1
      have hg3 : Grew w2 (w2.alloc (.cells #[.int .i64 x.1, .int .i64 x.2] 32)).drew := ((Grew.refl w2).alloc _).drw
      have hX : Cel w2.heap.size 0 (.int .i64 x.1) (w2.alloc (.cells #[.int .i64 x.1, .int .i64 x.2] 32)).drew := ⟨by go_simp⟩
      have hX1 : Cel w2.heap.size 1 (.int .i64 x.2) (w2.alloc (.cells #[.int .i64 x.1, .int .i64 x.2] 32)).drew := ⟨by go_simp⟩
      have hY : Cel b o (.int .i64 x.1) (w2.alloc (.cells #[.int .i64 x.1, .int .i64 x.2] 32)).drew := Cel.grew ⟨hy0⟩ hg3
      have hY1 : Cel b (o + 1) (.int .i64 x.2) (w2.alloc (.cells #[.int .i64 x.1, .int .i64 x.2] 32)).drew := Cel.grew ⟨hy1⟩ hg3
      obtain ⟨S, hS⟩ : ∃ S, S = w2.heap.size := ⟨_, rfl⟩
      rw [← hS] at hX hX1 ⊢
      generalize World.alloc w2 _ = V at hX hX1 hY hY1 hg3 ⊢
      have G3 := Lib.hid hg3
      clear hS hg3 hy0 hy1 hl2
      refine wp_still [some 64, some 65, some 66, some 67, some 68, some 69, some 70, some 71, some 72, some 73, some 74, some 75, some 76, some 77, some 78, some 79, some 80, some 81, some 82, some 83, some 84, some 6, some 7] [false, false, false, false, false, false, true, true, false, false, false, false, false, false, false, false, false, false, false, false, false, false, false, false, false, false, false, false, false, false, false, false, false, false, false, false, false, false, false, false, false, false, false, false, false, false, false, false, false, false, false, false, false, false, false, false, false, false, false, false, false, false, false, false, true, true, true, true, true, true, true, true, true, true, true, true, true, true, true, true, true, true, true, true, true, false] [fun v _ => v = .slice (some ⟨b, o, none⟩) (L.length + 1) (c), fun v _ => v = .slice (if c = 1 then some ⟨b, o, none⟩ else some ⟨b, o + 2, none⟩) L.length (c - 1), fun v _ => v = .bool (true), fun v _ => v = .bool (true), fun v _ => v = .pointer (some ⟨S, 0, none⟩), fun v _ => v = .int .i64 (x.1), fun v _ => v = .slice (some ⟨b, o, none⟩) (L.length + 1) (c), fun v _ => v = .pointer (some ⟨b, o, none⟩), fun v _ => v = .pointer (some ⟨b, o, none⟩), fun v _ => v = .int .i64 (x.1), fun v _ => v = .bool (true), fun v _ => v = .bool (true), fun v _ => v = .bool (true), fun v _ => v = .pointer (some ⟨S, 1, none⟩), fun v _ => v = .int .i64 (x.2), fun v _ => v = .slice (some ⟨b, o, none⟩) (L.length + 1) (c), fun v _ => v = .pointer (some ⟨b, o, none⟩), fun v _ => v = .pointer (some ⟨b, o + 1, none⟩), fun v _ => v = .int .i64 (x.2), fun v _ => v = .bool (true), fun v _ => v = .bool (true), fun v _ => v = .slice (if c = 1 then some ⟨b, o, none⟩ else some ⟨b, o + 2, none⟩) L.length (c - 1), fun v _ => v = .bool (true)] (by kernel_rfl) (by kernel_rfl) rfl ⟨?_, ?_, ?_, ?_, ?_, ?_, ?_, ?_, ?_, ?_, ?_, ?_, ?_, ?_, ?_, ?_, ?_, ?_, ?_, ?_, ?_, ?_, ?_, trivial⟩ ?_
      · intro u w hR hd; exact runs_mv (ev rfl) ⟨rfl, rfl⟩
      · intro u w hR hd; exact runs_cut1 (ev (hd.1 rfl)) ⟨rfl, rfl⟩
      · intro u w hR hd; exact runs_mv (ev rfl) ⟨rfl, rfl⟩
      · intro u w hR hd; exact runs_mv (ev (hd.1 rfl)) ⟨rfl, rfl⟩
      · intro u w hR hd; exact ⟨fun _ => runs_fld32_0 (ev rfl) ⟨rfl, rfl⟩, fun hn => absurd (hd.1 rfl) hn⟩
      · intro u w hR hd; exact ⟨fun _ => runs_ld3 (ev (hd.1 rfl)) (hX.kept hR) ⟨rfl, rfl⟩, fun hn => absurd (hd.2.1 rfl) hn⟩
      · intro u w hR hd; exact ⟨fun _ => runs_mv (ev rfl) ⟨rfl, rfl⟩, fun hn => absurd (hd.1 rfl) hn⟩
      · intro u w hR hd; exact ⟨fun _ => runs_ixz26 (ev (hd.1 rfl)) rfl (by omega) ⟨rfl, rfl⟩, fun hn => absurd (hd.2.1 rfl) hn⟩
      · intro u w hR hd; exact ⟨fun _ => runs_fld36_0 (ev (hd.1 rfl)) ⟨rfl, rfl⟩, fun hn => absurd (hd.2.1 rfl) hn⟩
      · intro u w hR hd; exact ⟨fun _ => runs_ld3 (ev (hd.1 rfl)) (hY.kept hR) ⟨rfl, rfl⟩, fun hn => absurd (hd.2.1 rfl) hn⟩
      · intro u w hR hd; exact ⟨fun _ => runs_eql3 (ev (hd.1 rfl)) (ev (hd.2.1 rfl)) ⟨rfl, (congrArg Value.bool (by simp))⟩, fun hn => absurd (hd.2.2.1 rfl) hn⟩
      · intro u w hR hd; exact runs_an (ev (hd.1 rfl)) (fun hb => ev ((hd.2.1 rfl))) ⟨rfl, rfl⟩
      · intro u w hR hd; exact runs_mv (ev (hd.1 rfl)) ⟨rfl, rfl⟩
      · intro u w hR hd; exact ⟨fun _ => runs_fld32_1 (ev rfl) ⟨rfl, rfl⟩, fun hn => absurd (hd.1 rfl) hn⟩
      · intro u w hR hd; exact ⟨fun _ => runs_ld2 (ev (hd.1 rfl)) (hX1.kept hR) ⟨rfl, rfl⟩, fun hn => absurd (hd.2.1 rfl) hn⟩
      · intro u w hR hd; exact ⟨fun _ => runs_mv (ev rfl) ⟨rfl, rfl⟩, fun hn => absurd (hd.1 rfl) hn⟩
      · intro u w hR hd; exact ⟨fun _ => runs_ixz26 (ev (hd.1 rfl)) rfl (by omega) ⟨rfl, rfl⟩, fun hn => absurd (hd.2.1 rfl) hn⟩
      · intro u w hR hd; exact ⟨fun _ => runs_fld36_1 (ev (hd.1 rfl)) ⟨rfl, rfl⟩, fun hn => absurd (hd.2.1 rfl) hn⟩
      · intro u w hR hd; exact ⟨fun _ => runs_ld2 (ev (hd.1 rfl)) (hY1.kept hR) ⟨rfl, rfl⟩, fun hn => absurd (hd.2.1 rfl) hn⟩
      · intro u w hR hd; exact ⟨fun _ => runs_eql2 (ev (hd.1 rfl)) (ev (hd.2.1 rfl)) ⟨rfl, (congrArg Value.bool (by simp))⟩, fun hn => absurd (hd.2.2.1 rfl) hn⟩
      · intro u w hR hd; exact runs_an (ev (hd.1 rfl)) (fun hb => ev ((hd.2.1 rfl))) ⟨rfl, rfl⟩
      · intro u w hR hd; exact runs_mva (ev (hd.1 rfl)) ⟨rfl, rfl⟩
      · intro u w hR hd; exact runs_mva (ev (hd.1 rfl)) ⟨rfl, rfl⟩
      · intro uu h
        have e6 : uu 6 = .slice (if c = 1 then some ⟨b, o, none⟩ else some ⟨b, o + 2, none⟩) L.length (c - 1) := h 21 (by decide)
        have e7 : uu 7 = .bool true := h 22 (by decide)
        simp only [mixA, mixL, cond_true, cond_false]
        rw [e6, e7]
        clear h e6 e7 hX hX1 hY hY1
        obtain ⟨pc, hpc⟩ : ∃ pc, pc = (if c = 1 then some (⟨b, o, none⟩ : Addr) else some ⟨b, o + 2, none⟩) := ⟨_, rfl⟩
        rw [← hpc]
        have Hpc := Lib.hid hpc
        clear hpc
        go_wp2
        go_ret2
        have hr := HL2.out.1.from 1 (by simp)
        have e1 : (if c = 1 then some (⟨b, o, none⟩ : Addr) else (some (⟨b, o, none⟩ : Addr)).map (·.add (1 * 2))) = pc := by rw [Hpc.out]; simp [Addr.add]
        rw [e1] at hr
        have hst2 : St w2 q pc (c - 1) L := ⟨R2.out, by simpa using hr, fun h0 a ha => by
          have := HL2.out.2 (by simp) ⟨b, o, none⟩ rfl
          rw [Hpc.out] at ha
          split at ha
          · obtain rfl := Option.some.inj ha; exact this
          · obtain rfl := Option.some.inj ha; exact this⟩
        exact ⟨pc, c - 1, rfl, hst2.grew G3.out, (Hoff1.out.trans (O2.out.mono Hoff1.out.size)).trans (Off.of_grew G3.out (Hoff1.out.trans (O2.out.mono Hoff1.out.size)).size R2.out.lt)⟩
  have b2 : (k == 2) = false := beq_eq_false_iff_ne.2 k2
  have hst := Lib.hid (show stepL L k i t = L by simp [stepL, k0, k1, k2])
  rw [hst.out]
  clear k0 k1 k2
  go_enter Try.func12, Try.ntmps12
  go_wp2
  go_ret2
  exact ⟨p, c, rfl, HS1.out, Hoff1.out⟩
end Go.Proofs.Ytjcoghjkjnhljaa
