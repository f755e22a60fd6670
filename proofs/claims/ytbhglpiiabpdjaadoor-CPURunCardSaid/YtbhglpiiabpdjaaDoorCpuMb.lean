/-
  LAYER 12 (cpu): the methods of the simulated bus.
  LAYER 12 (cpu): the methods of the simulated bus that look at memory and readings.
-/
import Derived.Test.YtbhglpiiabpdjaaDoorShort
import Derived.Test.YtbhglpiiabpdjaaDoorCpuObj
import Derived.Deep.LoopGhost
namespace Go.Proofs.YtbhglpiiabpdjaaDoor
open Go Go.RowKit Go.IntWalk Go.WideShapes
set_option linter.unusedSimpArgs false
set_option linter.unusedVariables false
set_option maxRecDepth 8000
section
variable {dst : Option Tmp} {ty : TypeId} {pos : String} {after : Array Edge} {g : Option (Nat × Bool)} {a : Act} {w : World} {T : Value → World → Prop}
theorem rn_nil {x : Operand} {q : Addr} (hx : a.eval x = .pointer (some q)) (h : T (.pointer (some q)) w) : Runs Tryd.prog ⟨dst, .nilCheck x, ty, pos, after, g⟩ a w T := by
  refine Runs.value (v := .pointer (some q)) (w' := w) ?_ h
  simp only [execOp, hx]
  go_simp
theorem rn_fld_37_3 {x : Operand} {S o : Nat} (hx : a.eval x = .pointer (some ⟨S, o, none⟩)) (h : T (.pointer (some ⟨S, o + 3, none⟩)) w) : Runs Tryd.prog ⟨dst, .fieldAddr 37 x 3, ty, pos, after, g⟩ a w T := by
  refine Runs.value (v := .pointer (some ⟨S, o + 3, none⟩)) (w' := w) ?_ h
  simp only [execOp, hx]
  go_simp
theorem rn_ld_35 {x : Operand} {q : Addr} {v : Value} (hx : a.eval x = .pointer (some q)) (hc : w.cell? q = some v) (h : T v w) : Runs Tryd.prog ⟨dst, .load 35 x, ty, pos, after, g⟩ a w T := by
  refine Runs.value (v := v) (w' := w) ?_ h
  simp only [execOp, hx]
  go_simp
theorem rn_len_35 {x : Operand} {p : Option Addr} {n c : Nat} (hx : a.eval x = .slice p n c) (h : T (.int .i64 (n : Nat)) w) : Runs Tryd.prog ⟨dst, .call { callee := .builtin .len, args := #[x], argTypes := #[35] }, ty, pos, after, g⟩ a w T := by
  refine Runs.value (v := .int .i64 (n : Nat)) (w' := w) ?_ h
  simp [execOp, resolve, invoke, builtin, hx, Result.andThen]
  go_simp
theorem rn_fld_37_2 {x : Operand} {S o : Nat} (hx : a.eval x = .pointer (some ⟨S, o, none⟩)) (h : T (.pointer (some ⟨S, o + 2, none⟩)) w) : Runs Tryd.prog ⟨dst, .fieldAddr 37 x 2, ty, pos, after, g⟩ a w T := by
  refine Runs.value (v := .pointer (some ⟨S, o + 2, none⟩)) (w' := w) ?_ h
  simp only [execOp, hx]
  go_simp
theorem rn_ld_3 {x : Operand} {q : Addr} {v : Value} (hx : a.eval x = .pointer (some q)) (hc : w.cell? q = some v) (h : T v w) : Runs Tryd.prog ⟨dst, .load 3 x, ty, pos, after, g⟩ a w T := by
  refine Runs.value (v := v) (w' := w) ?_ h
  simp only [execOp, hx]
  go_simp
theorem rn_neq_3 {o1 o2 : Operand} {b c : Int} (hx : a.eval o1 = .int .i64 b) (hy : a.eval o2 = .int .i64 c) (h : T (.bool (b != c)) w) : Runs Tryd.prog ⟨dst, .binOp .neq 3 o1 o2 3, ty, pos, after, g⟩ a w T := by
  refine Runs.value (v := .bool (b != c)) (w' := w) ?_ h
  simp only [execOp, hx, hy]
  go_simp
end
/-- The record of the bus while a call is being appended. -/
theorem BusAt.rcd3 {N q : Nat} {w V w3 : World} {W : Wd} {S : Nat → Prop} {wp rp cp : Option Addr} {wc rc cc : Nat} (h : BusAt N w q W S wp rp cp wc rc cc) (hg : Grew w V) (hc : Chg V w3 (fun j => Value.ownBlock (.slice cp W.cs.length cc) = some j)) :
    Blk q [.slice wp W.ws.length wc, .slice rp W.rs.length rc, .int .i64 W.fl, .slice cp W.cs.length cc] WT w3 :=
  (h.grew hg).rcd.chg hc fun e => by
    rw [ownBlock_sl] at e
    cases hcp : cp with
    | none => rw [hcp] at e; cases e
    | some x => rw [hcp] at e; exact h.qc x hcp (by simpa using e)
set_option maxHeartbeats 4000000 in
/-- A call is recorded; the power lasts unless it is the one at which it fails. -/
theorem call_any (k a b : Int) (N q : Nat) (W : Wd) (S : Nat → Prop) (w : World) (h : Bus N w q W S) (hl : W.cs.length ≤ 100000) (hN : N ≤ w.heap.size) :
    Calls Tryd.prog 60 #[.pointer (some ⟨q, 0, none⟩), .int .i64 k, .int .i64 a, .int .i64 b] w fun e w' => e = .returned (.bool (W.call k a b).okb) ∧ ∃ S', Bus N w' q (W.call k a b) S' ∧ Moved No S S' w w' := by
  obtain ⟨wp, rp, cp, wc, rc, cc, hb⟩ := h
  have HB := Lib.hid hb
  have HL := Lib.hid hl
  have HN := Lib.hid hN
  have r0 := hb.rcd.cell 0
  have r1 := hb.rcd.cell 1
  have r2 := hb.rcd.cell 2
  have r3 := hb.rcd.cell 3
  have rf := hb.rcd.free
  have rl := hb.rcd.lt
  simp only [zz7, zz8] at r0 r1 r2 r3
  clear hb hl hN
  go_enter Tryd.func60, Tryd.ntmps60
  go_wp2_with (at_builtin; refine append_row2 encL rfl _ _ 35 rfl N 96 (.agg #[.int .i64 0, .int .i64 0, .int .i64 0]) 24 Tryd.underlying35 infoL rfl _ W.cs rfl (HB.out.oc.kept ((Grew.refl _).alloc _)) _ 1 1 [(k, a, b)] rfl rfl (Rw.made encL w [(k, a, b)] 1 _ _ _ rfl rfl (by omega)) (by have := HL.out; simp; omega) (by have := HL.out; simp; omega) (by have := HN.out; simp; omega) ?_; intro p2 cd2 zs2 w3 hz2 ho2 hb2 hc2 hp2; have q3 := HB.out.rcd3 ((Grew.refl _).alloc _) hc2; clear r0 r1 r2 r3 rf rl; have r3 := q3.cell 3; have rf := q3.free; simp only [zz7, zz8] at r3; have HO := Lib.hid ho2; have HC := Lib.hid hc2; have HP := Lib.hid hp2; clear ho2 hb2 hc2 hp2 q3)
  generalize hW : World.setCell _ _ _ = w4
  have hx : ∃ S', BusAt N w4 q (W.call k a b) S' wp rp p2 wc rc cd2 ∧ Moved No S S' w w4 := by
    subst hW
    have e := hz2.out
    subst e
    exact HB.out.called k a b ((Grew.refl _).alloc _) HO.out HC.out HP.out
  clear hW hz2 HO HC HP r3 rf
  obtain ⟨S', hb4, hm4⟩ := hx
  have hb5 := hb4.grew (Grew.refl w4).drw
  have c2 : Atv ⟨q, 2, none⟩ (.int .i64 W.fl) w4.drew := hb5.rcd.atv 2 rfl
  have c3 : Atv ⟨q, 3, none⟩ (.slice p2 (W.call k a b).cs.length cd2) w4.drew := hb5.rcd.atv 3 rfl
  have HM := Lib.hid (⟨S', ⟨wp, rp, p2, wc, rc, cd2, hb5⟩, hm4.grow (Grew.refl w4).drw⟩ : ∃ S', Bus N w4.drew q (W.call k a b) S' ∧ Moved No S S' w w4.drew)
  clear hb4 hm4 hb5 HB
  refine wp_still [some 22, some 23, some 24, some 25, some 26, some 27, some 28, some 29, some 30, some 31, some 8] [false, false, false, false, false, false, false, false, true, false, false, false, false, false, false, false, false, false, false, false, false, false, true, true, true, true, true, true, true, true, true, true] [fun v _ => v = .pointer (some ⟨q, 0, none⟩), fun v _ => v = .pointer (some ⟨q, 0, none⟩), fun v _ => v = .pointer (some ⟨q, 3, none⟩), fun v _ => v = .slice p2 ((W.call k a b).cs.length) (cd2), fun v _ => v = .int .i64 ((((W.call k a b).cs.length : Nat) : Int)), fun v _ => v = .pointer (some ⟨q, 0, none⟩), fun v _ => v = .pointer (some ⟨q, 0, none⟩), fun v _ => v = .pointer (some ⟨q, 2, none⟩), fun v _ => v = .int .i64 (W.fl), fun v _ => v = .bool (((((W.call k a b).cs.length : Nat) : Int)) != (W.fl)), fun v _ => v = .bool (((((W.call k a b).cs.length : Nat) : Int)) != (W.fl))] (by kernel_rfl) (by kernel_rfl) rfl ⟨?_, ?_, ?_, ?_, ?_, ?_, ?_, ?_, ?_, ?_, ?_, trivial⟩ ?_
  · intro u w hR hd; exact runs_mv (ev rfl) ⟨rfl, rfl⟩
  · intro u w hR hd; exact rn_nil (ev (hd.1 rfl)) ⟨rfl, rfl⟩
  · intro u w hR hd; exact rn_fld_37_3 (ev (hd.1 rfl)) ⟨rfl, rfl⟩
  · intro u w hR hd; exact rn_ld_35 (ev (hd.1 rfl)) (c3.kept hR) ⟨rfl, rfl⟩
  · intro u w hR hd; exact rn_len_35 (ev (hd.1 rfl)) ⟨rfl, rfl⟩
  · intro u w hR hd; exact runs_mv (ev rfl) ⟨rfl, rfl⟩
  · intro u w hR hd; exact rn_nil (ev (hd.1 rfl)) ⟨rfl, rfl⟩
  · intro u w hR hd; exact rn_fld_37_2 (ev (hd.1 rfl)) ⟨rfl, rfl⟩
  · intro u w hR hd; exact rn_ld_3 (ev (hd.1 rfl)) (c2.kept hR) ⟨rfl, rfl⟩
  · intro u w hR hd; exact rn_neq_3 (ev (hd.1 rfl)) (ev (hd.2.1 rfl)) ⟨rfl, rfl⟩
  · intro u w hR hd; exact runs_mva (ev (hd.1 rfl)) ⟨rfl, rfl⟩
  · intro u h
    have he : u 8 = .bool (((W.call k a b).cs.length : Int) != W.fl) := h 10 (by decide)
    simp only [mixA, mixL, zz9, zz0]
    rw [he]
    clear h he c2 c3
    go_wp2
    go_ret
    exact ⟨rfl, HM.out⟩
theorem send_any (n v : Int) (N q : Nat) (W : Wd) (S : Nat → Prop) (w : World) (h : Bus N w q W S) (hl : W.cs.length ≤ 100000) (hN : N ≤ w.heap.size) (bv : -32768 ≤ v ∧ v ≤ 32767) :
    Calls Tryd.prog 38 #[.pointer (some ⟨q, 0, none⟩), .int .i64 n, .int .i16 v] w fun e w' => e = .returned (.bool (W.call 4 n v).okb) ∧ ∃ S', Bus N w' q (W.call 4 n v) S' ∧ Moved No S S' w w' := by
  have HB := Lib.hid h
  have HL := Lib.hid hl
  have HN := Lib.hid hN
  clear h hl hN
  go_enter Tryd.func38, Tryd.ntmps38
  go_wp2_with (go_at_call 60; (with_reducible refine (call_any 4 n v N q W S _ HB.out HL.out HN.out).mono ?_); rintro e w1 ⟨rfl, hx⟩; have HX := Lib.hid hx; clear hx)
  go_ret
  exact ⟨rfl, HX.out⟩
theorem emit_any (v : Int) (N q : Nat) (W : Wd) (S : Nat → Prop) (w : World) (h : Bus N w q W S) (hl : W.cs.length ≤ 100000) (hN : N ≤ w.heap.size) (bv : -32768 ≤ v ∧ v ≤ 32767) :
    Calls Tryd.prog 39 #[.pointer (some ⟨q, 0, none⟩), .int .i16 v] w fun e w' => e = .returned (.bool (W.call 5 v 0).okb) ∧ ∃ S', Bus N w' q (W.call 5 v 0) S' ∧ Moved No S S' w w' := by
  have HB := Lib.hid h
  have HL := Lib.hid hl
  have HN := Lib.hid hN
  clear h hl hN
  go_enter Tryd.func39, Tryd.ntmps39
  go_wp2_with (go_at_call 60; (with_reducible refine (call_any 5 v 0 N q W S _ HB.out HL.out HN.out).mono ?_); rintro e w1 ⟨rfl, hx⟩; have HX := Lib.hid hx; clear hx)
  go_ret
  exact ⟨rfl, HX.out⟩
theorem outp_any (n v : Int) (N q : Nat) (W : Wd) (S : Nat → Prop) (w : World) (h : Bus N w q W S) (hl : W.cs.length ≤ 100000) (hN : N ≤ w.heap.size) (bv : -32768 ≤ v ∧ v ≤ 32767) :
    Calls Tryd.prog 40 #[.pointer (some ⟨q, 0, none⟩), .int .i64 n, .int .i16 v] w fun e w' => e = .returned (.bool (W.call 6 n v).okb) ∧ ∃ S', Bus N w' q (W.call 6 n v) S' ∧ Moved No S S' w w' := by
  have HB := Lib.hid h
  have HL := Lib.hid hl
  have HN := Lib.hid hN
  clear h hl hN
  go_enter Tryd.func40, Tryd.ntmps40
  go_wp2_with (go_at_call 60; (with_reducible refine (call_any 6 n v N q W S _ HB.out HL.out HN.out).mono ?_); rintro e w1 ⟨rfl, hx⟩; have HX := Lib.hid hx; clear hx)
  go_ret
  exact ⟨rfl, HX.out⟩
theorem logw_any (n : Int) (N q : Nat) (W : Wd) (S : Nat → Prop) (w : World) (h : Bus N w q W S) (hl : W.cs.length ≤ 100000) (hN : N ≤ w.heap.size) :
    Calls Tryd.prog 41 #[.pointer (some ⟨q, 0, none⟩), .int .i64 n] w fun e w' => e = .returned (.bool (W.call 7 n 0).okb) ∧ ∃ S', Bus N w' q (W.call 7 n 0) S' ∧ Moved No S S' w w' := by
  have HB := Lib.hid h
  have HL := Lib.hid hl
  have HN := Lib.hid hN
  clear h hl hN
  go_enter Tryd.func41, Tryd.ntmps41
  go_wp2_with (go_at_call 60; (with_reducible refine (call_any 7 n 0 N q W S _ HB.out HL.out HN.out).mono ?_); rintro e w1 ⟨rfl, hx⟩; have HX := Lib.hid hx; clear hx)
  go_ret
  exact ⟨rfl, HX.out⟩
theorem spnd_any (n v : Int) (N q : Nat) (W : Wd) (S : Nat → Prop) (w : World) (h : Bus N w q W S) (hl : W.cs.length ≤ 100000) (hN : N ≤ w.heap.size) :
    Calls Tryd.prog 29 #[.pointer (some ⟨q, 0, none⟩), .int .i64 n, .int .i64 v] w fun e w' => e = .returned (.bool (W.call 8 n v).okb) ∧ ∃ S', Bus N w' q (W.call 8 n v) S' ∧ Moved No S S' w w' := by
  have HB := Lib.hid h
  have HL := Lib.hid hl
  have HN := Lib.hid hN
  clear h hl hN
  go_enter Tryd.func29, Tryd.ntmps29
  go_wp2_with (go_at_call 60; (with_reducible refine (call_any 8 n v N q W S _ HB.out HL.out HN.out).mono ?_); rintro e w1 ⟨rfl, hx⟩; have HX := Lib.hid hx; clear hx)
  go_ret
  exact ⟨rfl, HX.out⟩
end Go.Proofs.YtbhglpiiabpdjaaDoor
namespace Go.Proofs.YtbhglpiiabpdjaaDoor
open Go Go.RowKit Go.IntWalk Go.WideShapes
set_option linter.unusedSimpArgs false
set_option linter.unusedVariables false
set_option maxRecDepth 8000
theorem flatL_one {α : Type} {enc : α → List Value} {f : α → Value} (h : ∀ x, enc x = [f x]) (xs : List α) : flatL enc xs = xs.map f := by
  induction xs with
  | nil => rfl
  | cons x xs ih => rw [flatL_cons, h, ih]; rfl
/-- One element of one cell is stored. -/
theorem OwR.set1 {α : Type} {enc : α → List Value} (E : Enc 1 enc) {f : α → Value} (hf : ∀ x, enc x = [f x]) {w : World} {base : Nat} {e : TypeId} {xs : List α} {b n c : Nat} (h : OwR w base e 1 enc (.slice (some ⟨b, 0, none⟩) n c) xs) (i : Nat) (x : α) :
    OwR (w.setCell ⟨b, i, none⟩ (f x)) base e 1 enc (.slice (some ⟨b, 0, none⟩) n c) (xs.set i x) := by
  obtain ⟨rfl, _⟩ := h.rd E
  have h2 : World.ownsRow w base e 1 (.slice (some ⟨b, 0, none⟩) xs.length c) xs.length (flatL enc xs) := h
  have h3 := (World.ownsRow.stored h2 i (f x)).1
  show World.ownsRow _ _ _ _ _ _ _
  rw [List.length_set, flatL_one hf, List.map_set]
  rw [flatL_one hf] at h3
  exact h3
/-- Where the part from L on lies. -/
def cutAt (p : Option Addr) (c L : Nat) : Option Addr := if c = L then p else p.map (·.add (L * 1))
theorem sliced_eq (p : Option Addr) (c L H : Nat) : sliced p L H c 1 = .slice (cutAt p c L) (H - L) (c - L) := rfl
theorem size_i16 : ∀ w, (sizeOf 29).run Tryd.prog w = .ok 1 w := fun _ => by kernel_rfl
theorem dat_ix {n : Int} (h : dat n = true) : ∃ i : Nat, ix n = i ∧ (n - 2560).tdiv 2 = i ∧ 2560 ≤ n ∧ n < 3584 ∧ i < 512 := by
  unfold dat at h
  simp only [Bool.and_eq_true, decide_eq_true_eq, beq_iff_eq] at h
  obtain ⟨h0, h1, h2⟩ := h
  rw [Int.tmod_eq_emod_of_nonneg (by omega)] at h2
  have e : (n - 2560).tdiv 2 = (n - 2560) / 2 := Int.tdiv_eq_ediv_of_nonneg (by omega)
  exact ⟨((n - 2560) / 2).toNat, by unfold ix; omega, by omega, h0, h1, by omega⟩
section
variable {N q : Nat} {w : World} {W : Wd} {S : Nat → Prop} {rp cp : Option Addr} {wc rc cc : Nat}
/-- A word of memory is stored. -/
theorem BusAt.stored {g : Nat} (h : BusAt N w q W S (some ⟨g, 0, none⟩) rp cp wc rc cc) (i : Nat) (v : Int) :
    BusAt N (w.setCell ⟨g, i, none⟩ (.int .i16 v)) q { W with ws := W.ws.set i v } S (some ⟨g, 0, none⟩) rp cp wc rc cc ∧ Moved No S S w (w.setCell ⟨g, i, none⟩ (.int .i16 v)) := by
  have hs : Chg w (w.setCell ⟨g, i, none⟩ (.int .i16 v)) (fun j => j = g) := Chg.set w _ _
  have hq := h.qw _ rfl
  obtain ⟨cur, hk⟩ := h.ow.kind encH _ rfl
  have ho := OwR.set1 encH (f := fun z => .int .i16 z) (fun _ => rfl) h.ow i v
  refine ⟨⟨?_, ?_, h.rd.chg hs fun a e e' => h.ne _ a rfl e e'.symm, h.oc.chg hs fun a e e' => h.wcn _ a rfl e e'.symm, fun a e => ?_, h.ne, h.sq, h.sw, h.sr, h.sc, fun k hk' => ⟨(h.low k hk').1, ?_⟩⟩, ⟨hs.mono fun k e => .inr (e ▸ h.sw _ rfl), fun _ hk => .inl hk⟩⟩
  · have := h.rcd.other g i (.int .i16 v) (fun e => hq e.symm)
    show Blk q [.slice _ (W.ws.set i v).length wc, _, _, _] WT _
    rw [List.length_set]
    exact this
  · show OwR _ N _ 1 h16 (.slice _ (W.ws.set i v).length wc) (W.ws.set i v)
    rw [List.length_set]
    exact ho
  · obtain ⟨cs, fr, h1⟩ := h.rt a e
    exact ⟨cs, fr, (hs.block _ (lt_of_heap h1) fun e' => h.ne _ a rfl e e'.symm).trans h1⟩
  · by_cases e : k = g
    · subst e
      exact ⟨_, _, _, heap_setCell_same hk i (.int .i16 v), .inr (.inl rfl)⟩
    · exact (h.low k hk').2.chg hs e
/-- A reading is taken. -/
theorem BusAt.readd {wp : Option Addr} {p6 : Option Addr} {c6 : Nat} {v : Int} {t : List Int} (h : BusAt N w q W S wp rp cp wc rc cc) (hr : W.rs = v :: t) (hd : RdL 1 h16 w p6 c6 t) (hp : ∀ a, p6 = some a → ∃ b, rp = some b ∧ a.block = b.block) :
    BusAt N (w.setCell ⟨q, 1, none⟩ (.slice p6 t.length c6)) q { W with rs := t } S wp p6 cp wc c6 cc ∧ Moved No S S w (w.setCell ⟨q, 1, none⟩ (.slice p6 t.length c6)) := by
  have hs : Chg w (w.setCell ⟨q, 1, none⟩ (.slice p6 t.length c6)) (fun j => j = q) := Chg.set w _ _
  refine ⟨⟨h.rcd.set 1 _, h.ow.chg hs fun a e => h.qw a e, hd.chg hs fun a e => ?_, h.oc.chg hs fun a e => h.qc a e, fun a e => ?_, fun a b e e' => ?_, h.sq, h.sw, fun a e => ?_, h.sc, fun k hk' => ⟨(h.low k hk').1, ?_⟩⟩, ⟨hs.mono fun k e => .inr (e ▸ h.sq), fun _ hk => .inl hk⟩⟩
  · obtain ⟨b, hb, he⟩ := hp a e
    rw [he]; exact h.qr b hb
  · obtain ⟨b, hb, he⟩ := hp a e
    obtain ⟨cs, fr, h1⟩ := h.rt b hb
    rw [he]
    exact ⟨cs, fr, (hs.block _ (lt_of_heap h1) (h.qr b hb)).trans h1⟩
  · obtain ⟨b', hb, he⟩ := hp b e'
    rw [he]; exact h.ne a b' e hb
  · obtain ⟨b, hb, he⟩ := hp a e
    rw [he]; exact h.sr b hb
  · by_cases e : k = q
    · subst e
      exact ⟨_, _, _, h.rcd.set 1 (.slice p6 t.length c6), .inl rfl⟩
    · exact (h.low k hk').2.chg hs e
end
/-- 'b[1:]'. -/
theorem wpList_cut1 {P : Program} {w : World} {ops : Array Oper} {rest : List Oper} {o : Oper} {a : Act} {Q : Exit → Act → World → Prop} (hg : o.guard = none) (x : Operand) (t : TypeId) {e : TypeId} (hop : o.op = Op.slice t x (some (.const (.int .i64 1))) none none)
    (ht : P.underlying t = some (.slice e)) (hs : ∀ w : World, (sizeOf e).run P w = .ok 1 w)
    (p : Option Addr) (c : Nat) (xs : List Int) (hx : a.eval x = .slice p xs.length c) (hL : 1 ≤ xs.length) {w0 : World} (hin : RdL 1 h16 w0 p c xs)
    (h : ∀ (p' : Option Addr) (c' : Nat), (∀ a', p' = some a' → ∃ b, p = some b ∧ a'.block = b.block) → RdL 1 h16 w0 p' c' xs.tail → wpList P ops Q rest (a.put o.dst (.slice p' (xs.length - 1) c')) w) : wpList P ops Q (o :: rest) a w := by
  have hcap := hin.cap
  have hE : P.elem t = e := by simp [Program.elem, ht]
  have ht' : P.underlying t = some (.slice (P.elem t)) := by rw [hE]; exact ht
  have hrun : (Instr.sliceAt t (.slice p xs.length c) (some (.int .i64 1)) none none).run P w = .ok (.slice (cutAt p c 1) (xs.length - 1) (c - 1)) w := by
    rw [run_sliceAt_slice w t _ _ _ _ ht', run_slice_l w t p xs.length c ht' .i64 1 (by omega) (by omega), hE, hs]
    simp only [Result.andThen, sliced_eq]
    rfl
  obtain ⟨b, o', rfl, hc⟩ := hin.cells (by omega)
  refine wpList_plain hg fun K hK => ?_
  unfold Oper.wp
  simp [execOp, hop, hx, show a.eval (Operand.const (.int .i64 1)) = .int .i64 1 from rfl, hrun, Result.andThen]
  refine hK _ _ (h (cutAt (some ⟨b, o', none⟩) c 1) (c - 1) (fun a' e' => ?_) ⟨by rw [List.length_tail]; omega, by have := hin.max; omega, fun hn => ?_⟩)
  · unfold cutAt at e'
    split at e'
    · exact ⟨a', e', rfl⟩
    · rw [Option.map_some, Go.WideShapes.add_plain] at e'
      exact ⟨_, rfl, by rw [← Option.some.inj e']⟩
  · rw [List.length_tail] at hn
    refine ⟨b, o' + 1, ?_, fun i x hi j v hv => ?_⟩
    · unfold cutAt
      rw [if_neg (by omega), Option.map_some, Go.WideShapes.add_plain, Nat.mul_one]
    · have h1 := hc (i + 1) x (by rw [List.getElem?_tail] at hi; exact hi) j v hv
      rw [← h1]; congr 2; omega
theorem load_in (n : Int) (hd : dat n = true) (N q : Nat) (W : Wd) (S : Nat → Prop) (w : World) (h : Bus N w q W S) (hl : W.cs.length ≤ 100000) (hN : N ≤ w.heap.size) (hc : ∀ i : Nat, ix n = i → i < W.ws.length) :
    Calls Tryd.prog 34 #[.pointer (some ⟨q, 0, none⟩), .int .i64 n] w fun e w' => e = .returned (.tuple #[.int .i16 (W.load n).1, .bool (W.load n).2.1]) ∧ ∃ S', Bus N w' q (W.load n).2.2 S' ∧ Moved No S S' w w' := by
  obtain ⟨i, hi, ht, hn0, hn1, hi5⟩ := dat_ix hd
  replace hc := hc i hi
  have b0 : ¬ (i : Int) < 0 := by omega
  clear hd
  have b1 : ¬ (W.ws.length : Int) ≤ (i : Int) := by omega
  have b2 : (i : Int) < (W.ws.length : Int) := by omega
  obtain ⟨v, hv⟩ : ∃ v, W.ws[i]? = some v := ⟨_, List.getElem?_eq_getElem hc⟩
  have HV : Hid (W.word n = v) := Lib.hid (by
    unfold Wd.word
    rw [hi, if_neg (by omega), Int.toNat_natCast, List.getD_eq_getElem?_getD, hv]
    rfl)
  have HC := Lib.hid hv
  clear hv hi
  have HB := Lib.hid h
  have HL := Lib.hid hl
  have HN := Lib.hid hN
  clear h hl hN
  go_enter Tryd.func34, Tryd.ntmps34
  go_wp2_with (go_at_call 60; (with_reducible refine (call_any 1 n 0 N q W S _ HB.out HL.out HN.out).mono ?_); rintro e w1 ⟨rfl, S', ⟨wp, rp, cp, wc, rc, cc, hb⟩, hm⟩; have r0 : w1.cell? ⟨q, 0, none⟩ = some (.slice wp W.ws.length wc) := hb.rcd.cell 0; have r1 : w1.cell? ⟨q, 1, none⟩ = some (.slice rp W.rs.length rc) := hb.rcd.cell 1; have rf := hb.rcd.free; have rl := hb.rcd.lt; have HX := Lib.hid hb; have HM := Lib.hid hm; obtain ⟨g, rfl, _, _⟩ := hb.ow.at (by show 0 < W.ws.length; omega); have h8 : w1.cell? ⟨g, i, none⟩ = some (.int .i16 v) := (by have := (hb.ow.rd encH).2.cell HC.out (j := 0) rfl; simpa using this); clear hb hm)
  go_ret2
  exact ⟨by show Ending.returned (.tuple #[.int .i16 v, _]) = .returned (.tuple #[.int .i16 (W.word n), _]); rw [HV.out]; rfl, S', ⟨_, _, _, _, _, _, HX.out⟩, HM.out⟩
theorem load_out (n : Int) (hd : dat n = true) (N q : Nat) (W : Wd) (S : Nat → Prop) (w : World) (h : Bus N w q W S) (hl : W.cs.length ≤ 100000) (hN : N ≤ w.heap.size) (hc : ∀ i : Nat, ix n = i → W.ws.length ≤ i) :
    Calls Tryd.prog 34 #[.pointer (some ⟨q, 0, none⟩), .int .i64 n] w fun e w' => e = .returned (.tuple #[.int .i16 (W.load n).1, .bool (W.load n).2.1]) ∧ ∃ S', Bus N w' q (W.load n).2.2 S' ∧ Moved No S S' w w' := by
  obtain ⟨i, hi, ht, hn0, hn1, hi5⟩ := dat_ix hd
  replace hc := hc i hi
  have b0 : ¬ (i : Int) < 0 := by omega
  clear hd
  have b1 : (W.ws.length : Int) ≤ (i : Int) := by omega
  have HV : Hid (W.word n = 0) := Lib.hid (by unfold Wd.word; rw [hi, if_pos (by omega)])
  clear hi
  have HB := Lib.hid h
  have HL := Lib.hid hl
  have HN := Lib.hid hN
  clear h hl hN
  go_enter Tryd.func34, Tryd.ntmps34
  go_wp2_with (go_at_call 60; (with_reducible refine (call_any 1 n 0 N q W S _ HB.out HL.out HN.out).mono ?_); rintro e w1 ⟨rfl, S', ⟨wp, rp, cp, wc, rc, cc, hb⟩, hm⟩; have r0 : w1.cell? ⟨q, 0, none⟩ = some (.slice wp W.ws.length wc) := hb.rcd.cell 0; have r1 : w1.cell? ⟨q, 1, none⟩ = some (.slice rp W.rs.length rc) := hb.rcd.cell 1; have rf := hb.rcd.free; have rl := hb.rcd.lt; have HX := Lib.hid hb; have HM := Lib.hid hm; clear hb hm)
  go_ret2
  exact ⟨by show Ending.returned (.tuple #[.int .i16 0, _]) = .returned (.tuple #[.int .i16 (W.word n), _]); rw [HV.out]; rfl, S', ⟨_, _, _, _, _, _, HX.out⟩, HM.out⟩
theorem load_any (n : Int) (hd : dat n = true) (N q : Nat) (W : Wd) (S : Nat → Prop) (w : World) (h : Bus N w q W S) (hl : W.cs.length ≤ 100000) (hN : N ≤ w.heap.size) :
    Calls Tryd.prog 34 #[.pointer (some ⟨q, 0, none⟩), .int .i64 n] w fun e w' => e = .returned (.tuple #[.int .i16 (W.load n).1, .bool (W.load n).2.1]) ∧ ∃ S', Bus N w' q (W.load n).2.2 S' ∧ Moved No S S' w w' := by
  obtain ⟨i, hi, _⟩ := dat_ix hd
  by_cases hc : i < W.ws.length
  · exact load_in n hd N q W S w h hl hN fun j hj => by rw [hi] at hj; omega
  · exact load_out n hd N q W S w h hl hN fun j hj => by rw [hi] at hj; omega
theorem store_no (n v : Int) (hd : dat n = true) (bv : -32768 ≤ v ∧ v ≤ 32767) (N q : Nat) (W : Wd) (S : Nat → Prop) (w : World) (h : Bus N w q W S) (hl : W.cs.length ≤ 100000) (hN : N ≤ w.heap.size) (ho : (W.call 2 n v).okb = false) :
    Calls Tryd.prog 35 #[.pointer (some ⟨q, 0, none⟩), .int .i64 n, .int .i16 v] w fun e w' => e = .returned (.bool (W.store n v).1) ∧ ∃ S', Bus N w' q (W.store n v).2 S' ∧ Moved No S S' w w' := by
  rw [show W.store n v = (false, W.call 2 n v) from by unfold Wd.store; rw [ho]; rfl]
  have HB := Lib.hid h
  have HL := Lib.hid hl
  have HN := Lib.hid hN
  clear h hl hN
  clear hd
  go_enter Tryd.func35, Tryd.ntmps35
  go_wp2_with (go_at_call 60; (with_reducible refine (call_any 2 n v N q W S _ HB.out HL.out HN.out).mono ?_); rintro e w1 ⟨rfl, S', ⟨wp, rp, cp, wc, rc, cc, hb⟩, hm⟩; have r0 : w1.cell? ⟨q, 0, none⟩ = some (.slice wp W.ws.length wc) := hb.rcd.cell 0; have r1 : w1.cell? ⟨q, 1, none⟩ = some (.slice rp W.rs.length rc) := hb.rcd.cell 1; have rf := hb.rcd.free; have rl := hb.rcd.lt; have HX := Lib.hid hb; have HM := Lib.hid hm; clear hb hm)
  go_ret
  exact ⟨rfl, S', ⟨_, _, _, _, _, _, HX.out⟩, HM.out⟩
theorem store_in (n v : Int) (hd : dat n = true) (bv : -32768 ≤ v ∧ v ≤ 32767) (N q : Nat) (W : Wd) (S : Nat → Prop) (w : World) (h : Bus N w q W S) (hl : W.cs.length ≤ 100000) (hN : N ≤ w.heap.size) (ho : (W.call 2 n v).okb = true) (hc : ∀ i : Nat, ix n = i → i < W.ws.length) :
    Calls Tryd.prog 35 #[.pointer (some ⟨q, 0, none⟩), .int .i64 n, .int .i16 v] w fun e w' => e = .returned (.bool (W.store n v).1) ∧ ∃ S', Bus N w' q (W.store n v).2 S' ∧ Moved No S S' w w' := by
  obtain ⟨i, hi, ht, hn0, hn1, hi5⟩ := dat_ix hd
  replace hc := hc i hi
  have b0 : 0 ≤ (i : Int) := by omega
  have b1 : (i : Int) < (W.ws.length : Int) := by omega
  rw [show W.store n v = (true, { W.call 2 n v with ws := W.ws.set i v }) from by unfold Wd.store Wd.put; rw [ho, hi, if_pos rfl, if_neg (by show ¬ ((i : Int) < 0 ∨ (W.ws.length : Int) ≤ i); omega), Int.toNat_natCast]; rfl]
  obtain ⟨v0, hv0⟩ : ∃ v, W.ws[i]? = some v := ⟨_, List.getElem?_eq_getElem hc⟩
  have HC := Lib.hid hv0
  clear hv0
  have HB := Lib.hid h
  have HL := Lib.hid hl
  have HN := Lib.hid hN
  clear h hl hN
  clear hi hd
  go_enter Tryd.func35, Tryd.ntmps35
  go_wp2_with (go_at_call 60; (with_reducible refine (call_any 2 n v N q W S _ HB.out HL.out HN.out).mono ?_); rintro e w1 ⟨rfl, S', ⟨wp, rp, cp, wc, rc, cc, hb⟩, hm⟩; have r0 : w1.cell? ⟨q, 0, none⟩ = some (.slice wp W.ws.length wc) := hb.rcd.cell 0; have r1 : w1.cell? ⟨q, 1, none⟩ = some (.slice rp W.rs.length rc) := hb.rcd.cell 1; have rf := hb.rcd.free; have rl := hb.rcd.lt; have HX := Lib.hid hb; have HM := Lib.hid hm; obtain ⟨g, rfl, _, hgl⟩ := hb.ow.at (by show 0 < W.ws.length; omega); have h8 : w1.cell? ⟨g, i, none⟩ = some (.int .i16 v0) := (by have := (hb.ow.rd encH).2.cell HC.out (j := 0) rfl; simpa using this); have hgf := (hb.ow.free encH i).2; clear hb hm)
  go_ret
  exact ⟨rfl, S', ⟨_, _, _, _, _, _, (HX.out.stored i v).1⟩, HM.out.trans (HX.out.stored i v).2⟩
theorem store_out (n v : Int) (hd : dat n = true) (bv : -32768 ≤ v ∧ v ≤ 32767) (N q : Nat) (W : Wd) (S : Nat → Prop) (w : World) (h : Bus N w q W S) (hl : W.cs.length ≤ 100000) (hN : N ≤ w.heap.size) (ho : (W.call 2 n v).okb = true) (hc : ∀ i : Nat, ix n = i → W.ws.length ≤ i) :
    Calls Tryd.prog 35 #[.pointer (some ⟨q, 0, none⟩), .int .i64 n, .int .i16 v] w fun e w' => e = .returned (.bool (W.store n v).1) ∧ ∃ S', Bus N w' q (W.store n v).2 S' ∧ Moved No S S' w w' := by
  obtain ⟨i, hi, ht, hn0, hn1, hi5⟩ := dat_ix hd
  replace hc := hc i hi
  have b0 : 0 ≤ (i : Int) := by omega
  have b1 : ¬ (i : Int) < (W.ws.length : Int) := by omega
  rw [show W.store n v = (true, W.call 2 n v) from by unfold Wd.store Wd.put; rw [ho, hi, if_pos rfl, if_pos (by right; show (W.ws.length : Int) ≤ i; omega)]]
  have HB := Lib.hid h
  have HL := Lib.hid hl
  have HN := Lib.hid hN
  clear h hl hN
  clear hi hd
  go_enter Tryd.func35, Tryd.ntmps35
  go_wp2_with (go_at_call 60; (with_reducible refine (call_any 2 n v N q W S _ HB.out HL.out HN.out).mono ?_); rintro e w1 ⟨rfl, S', ⟨wp, rp, cp, wc, rc, cc, hb⟩, hm⟩; have r0 : w1.cell? ⟨q, 0, none⟩ = some (.slice wp W.ws.length wc) := hb.rcd.cell 0; have r1 : w1.cell? ⟨q, 1, none⟩ = some (.slice rp W.rs.length rc) := hb.rcd.cell 1; have rf := hb.rcd.free; have rl := hb.rcd.lt; have HX := Lib.hid hb; have HM := Lib.hid hm; clear hb hm)
  go_ret
  exact ⟨rfl, S', ⟨_, _, _, _, _, _, HX.out⟩, HM.out⟩
theorem store_any (n v : Int) (hd : dat n = true) (bv : -32768 ≤ v ∧ v ≤ 32767) (N q : Nat) (W : Wd) (S : Nat → Prop) (w : World) (h : Bus N w q W S) (hl : W.cs.length ≤ 100000) (hN : N ≤ w.heap.size) :
    Calls Tryd.prog 35 #[.pointer (some ⟨q, 0, none⟩), .int .i64 n, .int .i16 v] w fun e w' => e = .returned (.bool (W.store n v).1) ∧ ∃ S', Bus N w' q (W.store n v).2 S' ∧ Moved No S S' w w' := by
  cases ho : (W.call 2 n v).okb with
  | false => exact store_no n v hd bv N q W S w h hl hN ho
  | true =>
    obtain ⟨i, hi, _⟩ := dat_ix hd
    by_cases hc : i < W.ws.length
    · exact store_in n v hd bv N q W S w h hl hN ho fun j hj => by rw [hi] at hj; omega
    · exact store_out n v hd bv N q W S w h hl hN ho fun j hj => by rw [hi] at hj; omega
theorem read_yes (n : Int) (v : Int) (t : List Int) (N q : Nat) (W : Wd) (S : Nat → Prop) (w : World) (h : Bus N w q W S) (hl : W.cs.length ≤ 100000) (hN : N ≤ w.heap.size) (hr : W.rs = v :: t) :
    Calls Tryd.prog 37 #[.pointer (some ⟨q, 0, none⟩), .int .i64 n] w fun e w' => e = .returned (.tuple #[.int .i16 (W.read n).1, .bool (W.read n).2.1]) ∧ ∃ S', Bus N w' q (W.read n).2.2 S' ∧ Moved No S S' w w' := by
  rw [show W.read n = (v, (W.call 3 n 0).okb, { W.call 3 n 0 with rs := t }) from by unfold Wd.read; rw [hr]; rfl]
  have HR : Hid (W.rs = v :: t) := Lib.hid hr
  skip
  have HB := Lib.hid h
  have HL := Lib.hid hl
  have HN := Lib.hid hN
  clear h hl hN
  clear hr
  skip
  go_enter Tryd.func37, Tryd.ntmps37
  go_wp2_with (first | (go_at_call 60; (with_reducible refine (call_any 3 n 0 N q W S _ HB.out HL.out HN.out).mono ?_); rintro e w1 ⟨rfl, S', ⟨wp, rp, cp, wc, rc, cc, hb⟩, hm⟩; have r0 : w1.cell? ⟨q, 0, none⟩ = some (.slice wp W.ws.length wc) := hb.rcd.cell 0; have r1 : w1.cell? ⟨q, 1, none⟩ = some (.slice rp (t.length + 1) rc) := (by have := hb.rcd.cell 1; rw [show (W.call 3 n 0).rs = v :: t from HR.out] at this; exact this); have rf := hb.rcd.free; have rl := hb.rcd.lt; have HX := Lib.hid hb; have HM := Lib.hid hm; have hrd : RdL 1 h16 w1 rp rc (v :: t) := (by have := hb.rd; rw [show (W.call 3 n 0).rs = v :: t from HR.out] at this; exact this); obtain ⟨gb, go, hgp, hgc⟩ := hrd.cells (by simp); subst hgp; have h8 : w1.cell? ⟨gb, go, none⟩ = some (.int .i16 v) := (by have := hgc 0 v rfl 0 _ rfl; simpa using this); have HD := Lib.hid hrd; clear hgc hrd hb hm) | (refine wpList_cut1 rfl (.tmp 28) _ rfl Tryd.underlying34 size_i16 _ rc (v :: t) rfl (by simp) HD.out ?_; intro p6 c6 hp6 hd6; have HD6 := Lib.hid hd6; have HP6 := Lib.hid hp6; clear hd6 hp6))
  go_ret2
  exact ⟨rfl, S', ⟨_, _, _, _, _, _, (HX.out.readd HR.out HD6.out HP6.out).1⟩, HM.out.trans (HX.out.readd HR.out HD6.out HP6.out).2⟩
theorem read_no (n : Int) (N q : Nat) (W : Wd) (S : Nat → Prop) (w : World) (h : Bus N w q W S) (hl : W.cs.length ≤ 100000) (hN : N ≤ w.heap.size) (hr : W.rs = []) :
    Calls Tryd.prog 37 #[.pointer (some ⟨q, 0, none⟩), .int .i64 n] w fun e w' => e = .returned (.tuple #[.int .i16 (W.read n).1, .bool (W.read n).2.1]) ∧ ∃ S', Bus N w' q (W.read n).2.2 S' ∧ Moved No S S' w w' := by
  rw [show W.read n = (0, (W.call 3 n 0).okb, { W.call 3 n 0 with rs := [] }) from by unfold Wd.read; rw [hr]; rfl]
  have HR : Hid (W.rs = []) := Lib.hid hr
  have HE : Hid (W.call 3 n 0 = { W.call 3 n 0 with rs := [] }) := Lib.hid (by unfold Wd.call; rw [hr])
  have HB := Lib.hid h
  have HL := Lib.hid hl
  have HN := Lib.hid hN
  clear h hl hN
  clear hr
  rw [← HE.out]
  go_enter Tryd.func37, Tryd.ntmps37
  go_wp2_with (go_at_call 60; (with_reducible refine (call_any 3 n 0 N q W S _ HB.out HL.out HN.out).mono ?_); rintro e w1 ⟨rfl, S', ⟨wp, rp, cp, wc, rc, cc, hb⟩, hm⟩; have r0 : w1.cell? ⟨q, 0, none⟩ = some (.slice wp W.ws.length wc) := hb.rcd.cell 0; have r1 : w1.cell? ⟨q, 1, none⟩ = some (.slice rp 0 rc) := (by have := hb.rcd.cell 1; rw [show (W.call 3 n 0).rs = [] from HR.out] at this; exact this); have rf := hb.rcd.free; have rl := hb.rcd.lt; have HX := Lib.hid hb; have HM := Lib.hid hm; clear hb hm)
  go_ret2
  exact ⟨rfl, S', ⟨_, _, _, _, _, _, HX.out⟩, HM.out⟩
theorem read_any (n : Int) (N q : Nat) (W : Wd) (S : Nat → Prop) (w : World) (h : Bus N w q W S) (hl : W.cs.length ≤ 100000) (hN : N ≤ w.heap.size) :
    Calls Tryd.prog 37 #[.pointer (some ⟨q, 0, none⟩), .int .i64 n] w fun e w' => e = .returned (.tuple #[.int .i16 (W.read n).1, .bool (W.read n).2.1]) ∧ ∃ S', Bus N w' q (W.read n).2.2 S' ∧ Moved No S S' w w' := by
  cases hr : W.rs with
  | nil => exact read_no n N q W S w h hl hN hr
  | cons v t => exact read_yes n v t N q W S w h hl hN hr
end Go.Proofs.YtbhglpiiabpdjaaDoor
