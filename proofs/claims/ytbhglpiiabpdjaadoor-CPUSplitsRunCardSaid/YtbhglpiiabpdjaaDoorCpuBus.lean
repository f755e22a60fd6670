/-
  LAYER 12 (cpu): the methods of the simulated bus.
-/
import Derived.Test.YtbhglpiiabpdjaaDoorCpuObj
import Derived.Deep.LoopGhost
namespace Go.Proofs.YtbhglpiiabpdjaaDoor
open Go Go.RowKit Go.IntWalk Go.WideShapes
set_option linter.unusedSimpArgs false
set_option linter.unusedVariables false
set_option maxRecDepth 8000
section
variable {dst : Option Tmp} {ty : TypeId} {pos : String} {after : Array Edge} {g : Option (Nat × Bool)} {a : Act} {w : World} {T : Value → World → Prop}
theorem rn_nil {x : Operand} {q : Addr} (hx : a.eval x = .pointer (some q)) (h : T (.pointer (some q)) w) : Runs Tryd.prog ⟨dst, .nilCheck x, ty, pos, after, g⟩ a w T := by
  refine Runs.value (v := .pointer (some q)) (w' := w) ?_ h
  simp only [execOp, hx]
  go_simp
theorem rn_fld_37_3 {x : Operand} {S o : Nat} (hx : a.eval x = .pointer (some ⟨S, o, none⟩)) (h : T (.pointer (some ⟨S, o + 3, none⟩)) w) : Runs Tryd.prog ⟨dst, .fieldAddr 37 x 3, ty, pos, after, g⟩ a w T := by
  refine Runs.value (v := .pointer (some ⟨S, o + 3, none⟩)) (w' := w) ?_ h
  simp only [execOp, hx]
  go_simp
theorem rn_ld_35 {x : Operand} {q : Addr} {v : Value} (hx : a.eval x = .pointer (some q)) (hc : w.cell? q = some v) (h : T v w) : Runs Tryd.prog ⟨dst, .load 35 x, ty, pos, after, g⟩ a w T := by
  refine Runs.value (v := v) (w' := w) ?_ h
  simp only [execOp, hx]
  go_simp
theorem rn_len_35 {x : Operand} {p : Option Addr} {n c : Nat} (hx : a.eval x = .slice p n c) (h : T (.int .i64 (n : Nat)) w) : Runs Tryd.prog ⟨dst, .call { callee := .builtin .len, args := #[x], argTypes := #[35] }, ty, pos, after, g⟩ a w T := by
  refine Runs.value (v := .int .i64 (n : Nat)) (w' := w) ?_ h
  simp [execOp, resolve, invoke, builtin, hx, Result.andThen]
  go_simp
theorem rn_fld_37_2 {x : Operand} {S o : Nat} (hx : a.eval x = .pointer (some ⟨S, o, none⟩)) (h : T (.pointer (some ⟨S, o + 2, none⟩)) w) : Runs Tryd.prog ⟨dst, .fieldAddr 37 x 2, ty, pos, after, g⟩ a w T := by
  refine Runs.value (v := .pointer (some ⟨S, o + 2, none⟩)) (w' := w) ?_ h
  simp only [execOp, hx]
  go_simp
theorem rn_ld_3 {x : Operand} {q : Addr} {v : Value} (hx : a.eval x = .pointer (some q)) (hc : w.cell? q = some v) (h : T v w) : Runs Tryd.prog ⟨dst, .load 3 x, ty, pos, after, g⟩ a w T := by
  refine Runs.value (v := v) (w' := w) ?_ h
  simp only [execOp, hx]
  go_simp
theorem rn_neq_3 {o1 o2 : Operand} {b c : Int} (hx : a.eval o1 = .int .i64 b) (hy : a.eval o2 = .int .i64 c) (h : T (.bool (b != c)) w) : Runs Tryd.prog ⟨dst, .binOp .neq 3 o1 o2 3, ty, pos, after, g⟩ a w T := by
  refine Runs.value (v := .bool (b != c)) (w' := w) ?_ h
  simp only [execOp, hx, hy]
  go_simp
end
/-- The record of the bus while a call is being appended. -/
theorem BusAt.rcd3 {N q : Nat} {w V w3 : World} {W : Wd} {S : Nat → Prop} {wp rp cp : Option Addr} {wc rc cc : Nat} (h : BusAt N w q W S wp rp cp wc rc cc) (hg : Grew w V) (hc : Chg V w3 (fun j => Value.ownBlock (.slice cp W.cs.length cc) = some j)) :
    Blk q [.slice wp W.ws.length wc, .slice rp W.rs.length rc, .int .i64 W.fl, .slice cp W.cs.length cc] WT w3 :=
  (h.grew hg).rcd.chg hc fun e => by
    rw [ownBlock_sl] at e
    cases hcp : cp with
    | none => rw [hcp] at e; cases e
    | some x => rw [hcp] at e; exact h.qc x hcp (by simpa using e)
set_option maxHeartbeats 4000000 in
/-- A call is recorded; the power lasts unless it is the one at which it fails. -/
theorem call_any (k a b : Int) (N q : Nat) (W : Wd) (S : Nat → Prop) (w : World) (h : Bus N w q W S) (hl : W.cs.length ≤ 100000) (hN : N ≤ w.heap.size) :
    Calls Tryd.prog 60 #[.pointer (some ⟨q, 0, none⟩), .int .i64 k, .int .i64 a, .int .i64 b] w fun e w' => e = .returned (.bool (W.call k a b).okb) ∧ ∃ S', Bus N w' q (W.call k a b) S' ∧ Moved No S S' w w' := by
  obtain ⟨wp, rp, cp, wc, rc, cc, hb⟩ := h
  have HB := Lib.hid hb
  have HL := Lib.hid hl
  have HN := Lib.hid hN
  have r0 := hb.rcd.cell 0
  have r1 := hb.rcd.cell 1
  have r2 := hb.rcd.cell 2
  have r3 := hb.rcd.cell 3
  have rf := hb.rcd.free
  have rl := hb.rcd.lt
  simp only [List.getElem?_cons_zero, List.getElem?_cons_succ] at r0 r1 r2 r3
  clear hb hl hN
  go_enter Tryd.func60, Tryd.ntmps60
  go_wp2_with (at_builtin; refine append_row2 encL rfl _ _ 35 rfl N 96 (.agg #[.int .i64 0, .int .i64 0, .int .i64 0]) 24 Tryd.underlying35 infoL rfl _ W.cs rfl (HB.out.oc.kept ((Grew.refl _).alloc _)) _ 1 1 [(k, a, b)] rfl rfl (Rw.made encL w [(k, a, b)] 1 _ _ _ rfl rfl (by omega)) (by have := HL.out; simp; omega) (by have := HL.out; simp; omega) (by have := HN.out; simp; omega) ?_; intro p2 cd2 zs2 w3 hz2 ho2 hb2 hc2 hp2; have q3 := HB.out.rcd3 ((Grew.refl _).alloc _) hc2; clear r0 r1 r2 r3 rf rl; have r3 := q3.cell 3; have rf := q3.free; simp only [List.getElem?_cons_zero, List.getElem?_cons_succ] at r3; have HO := Lib.hid ho2; have HC := Lib.hid hc2; have HP := Lib.hid hp2; clear ho2 hb2 hc2 hp2 q3)
  generalize hW : World.setCell _ _ _ = w4
  have hx : ∃ S', BusAt N w4 q (W.call k a b) S' wp rp p2 wc rc cd2 ∧ Moved No S S' w w4 := by
    subst hW
    have e := hz2.out
    subst e
    exact HB.out.called k a b ((Grew.refl _).alloc _) HO.out HC.out HP.out
  clear hW hz2 HO HC HP r3 rf
  obtain ⟨S', hb4, hm4⟩ := hx
  have hb5 := hb4.grew (Grew.refl w4).drw
  have c2 : Atv ⟨q, 2, none⟩ (.int .i64 W.fl) w4.drew := hb5.rcd.atv 2 rfl
  have c3 : Atv ⟨q, 3, none⟩ (.slice p2 (W.call k a b).cs.length cd2) w4.drew := hb5.rcd.atv 3 rfl
  have HM := Lib.hid (⟨S', ⟨wp, rp, p2, wc, rc, cd2, hb5⟩, hm4.grow (Grew.refl w4).drw⟩ : ∃ S', Bus N w4.drew q (W.call k a b) S' ∧ Moved No S S' w w4.drew)
  clear hb4 hm4 hb5 HB
  refine wp_still [some 22, some 23, some 24, some 25, some 26, some 27, some 28, some 29, some 30, some 31, some 8] [false, false, false, false, false, false, false, false, true, false, false, false, false, false, false, false, false, false, false, false, false, false, true, true, true, true, true, true, true, true, true, true] [fun v _ => v = .pointer (some ⟨q, 0, none⟩), fun v _ => v = .pointer (some ⟨q, 0, none⟩), fun v _ => v = .pointer (some ⟨q, 3, none⟩), fun v _ => v = .slice p2 ((W.call k a b).cs.length) (cd2), fun v _ => v = .int .i64 ((((W.call k a b).cs.length : Nat) : Int)), fun v _ => v = .pointer (some ⟨q, 0, none⟩), fun v _ => v = .pointer (some ⟨q, 0, none⟩), fun v _ => v = .pointer (some ⟨q, 2, none⟩), fun v _ => v = .int .i64 (W.fl), fun v _ => v = .bool (((((W.call k a b).cs.length : Nat) : Int)) != (W.fl)), fun v _ => v = .bool (((((W.call k a b).cs.length : Nat) : Int)) != (W.fl))] (by kernel_rfl) (by kernel_rfl) rfl ⟨?_, ?_, ?_, ?_, ?_, ?_, ?_, ?_, ?_, ?_, ?_, trivial⟩ ?_
  · intro u w hR hd; exact runs_mv (ev rfl) ⟨rfl, rfl⟩
  · intro u w hR hd; exact rn_nil (ev (hd.1 rfl)) ⟨rfl, rfl⟩
  · intro u w hR hd; exact rn_fld_37_3 (ev (hd.1 rfl)) ⟨rfl, rfl⟩
  · intro u w hR hd; exact rn_ld_35 (ev (hd.1 rfl)) (c3.kept hR) ⟨rfl, rfl⟩
  · intro u w hR hd; exact rn_len_35 (ev (hd.1 rfl)) ⟨rfl, rfl⟩
  · intro u w hR hd; exact runs_mv (ev rfl) ⟨rfl, rfl⟩
  · intro u w hR hd; exact rn_nil (ev (hd.1 rfl)) ⟨rfl, rfl⟩
  · intro u w hR hd; exact rn_fld_37_2 (ev (hd.1 rfl)) ⟨rfl, rfl⟩
  · intro u w hR hd; exact rn_ld_3 (ev (hd.1 rfl)) (c2.kept hR) ⟨rfl, rfl⟩
  · intro u w hR hd; exact rn_neq_3 (ev (hd.1 rfl)) (ev (hd.2.1 rfl)) ⟨rfl, rfl⟩
  · intro u w hR hd; exact runs_mva (ev (hd.1 rfl)) ⟨rfl, rfl⟩
  · intro u h
    have he : u 8 = .bool (((W.call k a b).cs.length : Int) != W.fl) := h 10 (by decide)
    simp only [mixA, mixL, cond_true, cond_false]
    rw [he]
    clear h he c2 c3
    go_wp2
    go_ret
    exact ⟨rfl, HM.out⟩
theorem send_any (n v : Int) (N q : Nat) (W : Wd) (S : Nat → Prop) (w : World) (h : Bus N w q W S) (hl : W.cs.length ≤ 100000) (hN : N ≤ w.heap.size) (bv : -32768 ≤ v ∧ v ≤ 32767) :
    Calls Tryd.prog 38 #[.pointer (some ⟨q, 0, none⟩), .int .i64 n, .int .i16 v] w fun e w' => e = .returned (.bool (W.call 4 n v).okb) ∧ ∃ S', Bus N w' q (W.call 4 n v) S' ∧ Moved No S S' w w' := by
  have HB := Lib.hid h
  have HL := Lib.hid hl
  have HN := Lib.hid hN
  clear h hl hN
  go_enter Tryd.func38, Tryd.ntmps38
  go_wp2_with (go_at_call 60; (with_reducible refine (call_any 4 n v N q W S _ HB.out HL.out HN.out).mono ?_); rintro e w1 ⟨rfl, hx⟩; have HX := Lib.hid hx; clear hx)
  go_ret
  exact ⟨rfl, HX.out⟩
theorem emit_any (v : Int) (N q : Nat) (W : Wd) (S : Nat → Prop) (w : World) (h : Bus N w q W S) (hl : W.cs.length ≤ 100000) (hN : N ≤ w.heap.size) (bv : -32768 ≤ v ∧ v ≤ 32767) :
    Calls Tryd.prog 39 #[.pointer (some ⟨q, 0, none⟩), .int .i16 v] w fun e w' => e = .returned (.bool (W.call 5 v 0).okb) ∧ ∃ S', Bus N w' q (W.call 5 v 0) S' ∧ Moved No S S' w w' := by
  have HB := Lib.hid h
  have HL := Lib.hid hl
  have HN := Lib.hid hN
  clear h hl hN
  go_enter Tryd.func39, Tryd.ntmps39
  go_wp2_with (go_at_call 60; (with_reducible refine (call_any 5 v 0 N q W S _ HB.out HL.out HN.out).mono ?_); rintro e w1 ⟨rfl, hx⟩; have HX := Lib.hid hx; clear hx)
  go_ret
  exact ⟨rfl, HX.out⟩
theorem outp_any (n v : Int) (N q : Nat) (W : Wd) (S : Nat → Prop) (w : World) (h : Bus N w q W S) (hl : W.cs.length ≤ 100000) (hN : N ≤ w.heap.size) (bv : -32768 ≤ v ∧ v ≤ 32767) :
    Calls Tryd.prog 40 #[.pointer (some ⟨q, 0, none⟩), .int .i64 n, .int .i16 v] w fun e w' => e = .returned (.bool (W.call 6 n v).okb) ∧ ∃ S', Bus N w' q (W.call 6 n v) S' ∧ Moved No S S' w w' := by
  have HB := Lib.hid h
  have HL := Lib.hid hl
  have HN := Lib.hid hN
  clear h hl hN
  go_enter Tryd.func40, Tryd.ntmps40
  go_wp2_with (go_at_call 60; (with_reducible refine (call_any 6 n v N q W S _ HB.out HL.out HN.out).mono ?_); rintro e w1 ⟨rfl, hx⟩; have HX := Lib.hid hx; clear hx)
  go_ret
  exact ⟨rfl, HX.out⟩
theorem logw_any (n : Int) (N q : Nat) (W : Wd) (S : Nat → Prop) (w : World) (h : Bus N w q W S) (hl : W.cs.length ≤ 100000) (hN : N ≤ w.heap.size) :
    Calls Tryd.prog 41 #[.pointer (some ⟨q, 0, none⟩), .int .i64 n] w fun e w' => e = .returned (.bool (W.call 7 n 0).okb) ∧ ∃ S', Bus N w' q (W.call 7 n 0) S' ∧ Moved No S S' w w' := by
  have HB := Lib.hid h
  have HL := Lib.hid hl
  have HN := Lib.hid hN
  clear h hl hN
  go_enter Tryd.func41, Tryd.ntmps41
  go_wp2_with (go_at_call 60; (with_reducible refine (call_any 7 n 0 N q W S _ HB.out HL.out HN.out).mono ?_); rintro e w1 ⟨rfl, hx⟩; have HX := Lib.hid hx; clear hx)
  go_ret
  exact ⟨rfl, HX.out⟩
theorem spnd_any (n v : Int) (N q : Nat) (W : Wd) (S : Nat → Prop) (w : World) (h : Bus N w q W S) (hl : W.cs.length ≤ 100000) (hN : N ≤ w.heap.size) :
    Calls Tryd.prog 29 #[.pointer (some ⟨q, 0, none⟩), .int .i64 n, .int .i64 v] w fun e w' => e = .returned (.bool (W.call 8 n v).okb) ∧ ∃ S', Bus N w' q (W.call 8 n v) S' ∧ Moved No S S' w w' := by
  have HB := Lib.hid h
  have HL := Lib.hid hl
  have HN := Lib.hid hN
  clear h hl hN
  go_enter Tryd.func29, Tryd.ntmps29
  go_wp2_with (go_at_call 60; (with_reducible refine (call_any 8 n v N q W S _ HB.out HL.out HN.out).mono ?_); rintro e w1 ⟨rfl, hx⟩; have HX := Lib.hid hx; clear hx)
  go_ret
  exact ⟨rfl, HX.out⟩
end Go.Proofs.YtbhglpiiabpdjaaDoor
