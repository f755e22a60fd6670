/-
  LAYER 12 (cpu): how an image and a case come in.
-/
import Derived.Test.YtbhglpiiabpdjaaDoorCpuEnv
import Derived.Test.YtbhglpiiabpdjaaDoorCpuZ
namespace Go.Proofs.YtbhglpiiabpdjaaDoor
open Go.ChangeShapes Go.WideShapes Go.ChangeAt Go.RowKit
set_option maxRecDepth 20000
section
variable {H : Type} {enc : TypeId × Value → H} {P : Program} {w : World} {base : Nat} {sp : Nat → Bool} {held : Bool}
end
theorem RdL.low {α : Type} {k : Nat} {enc : α → List Value} (E : Enc k enc) {w : World} {p : Option Addr} {c : Nat} {xs : List α} (h : RdL k enc w p c xs) (hn : 0 < xs.length) : ∀ a, p = some a → a.block < w.heap.size := fun a e => by
  obtain ⟨b, o, rfl, hc⟩ := h.cells hn
  obtain rfl := (Option.some.inj e).symm
  have hk : 0 < (enc xs[0]).length := by rw [E.len]; exact E.pos
  have h1 := hc 0 xs[0] (by simp [hn]) 0 _ (List.getElem?_eq_getElem hk)
  have h2 := World.block_lt_of_cell? _ _ h1
  exact h2
section
variable {H : Type} {enc : TypeId × Value → H} {W : World}
theorem rdl_code {t : TypeId} (ht : Tryd.prog.underlying t = some (.slice 72)) {p : Option Addr} {n c : Nat} {d : DataW H} {q : List MemPlace} (h : DataW.Trod enc Tryd.prog W 0 (fun _ => true) true t (.slice p n c) d q) :
    ∃ xs : List Cd, xs.length = n ∧ RdL 5 cdv W p c xs ∧ ∀ x ∈ xs, I16 x.i :=
  letI : Inhabited Cd := ⟨⟨0, 0, 0, 0, 0⟩⟩
  RdL.opened 5 cdv (fun x => I16 x.i) [.int .i64, .int .i64, .int .i64, .int .i64, .int .i16] ht (by kernel_rfl) (by kernel_rfl) rfl (fun cs hr => by
    cases hr with
    | cons h0 t => cases t with
      | cons h1 t => cases t with
        | cons h2 t => cases t with
          | cons h3 t => cases t with
            | cons h4 t =>
              cases t
              obtain ⟨a, rfl, _⟩ := h0
              obtain ⟨b, rfl, _⟩ := h1
              obtain ⟨c, rfl, _⟩ := h2
              obtain ⟨d, rfl, _⟩ := h3
              obtain ⟨e, rfl, he⟩ := h4
              exact ⟨⟨a, b, c, d, e⟩, rfl, bounds_i16 he⟩) h (by decide)
theorem rdl_globals {t : TypeId} (ht : Tryd.prog.underlying t = some (.slice 91)) {p : Option Addr} {n c : Nat} {d : DataW H} {q : List MemPlace} (h : DataW.Trod enc Tryd.prog W 0 (fun _ => true) true t (.slice p n c) d q) :
    ∃ xs : List (ByteArray × Int × Int × Int), xs.length = n ∧ RdL 4 glv W p c xs ∧ ∀ g ∈ xs, -9223372036854775808 ≤ g.2.1 ∧ g.2.1 ≤ 9223372036854775807 :=
  RdL.opened 4 glv (fun g => -9223372036854775808 ≤ g.2.1 ∧ g.2.1 ≤ 9223372036854775807) [.str, .int .i64, .int .i16, .int .i64] ht (by kernel_rfl) (by kernel_rfl) rfl (fun cs hr => by
    cases hr with
    | cons h0 t => cases t with
      | cons h1 t => cases t with
        | cons h2 t => cases t with
          | cons h3 t =>
            cases t
            obtain ⟨a, rfl, _⟩ := h0
            obtain ⟨b, rfl, hb⟩ := h1
            obtain ⟨c, rfl, _⟩ := h2
            obtain ⟨d, rfl, _⟩ := h3
            exact ⟨(a, b, c, d), rfl, bounds_i64 hb⟩) h (by decide)
theorem rdl_calls {t : TypeId} (ht : Tryd.prog.underlying t = some (.slice 96)) {p : Option Addr} {n c : Nat} {d : DataW H} {q : List MemPlace} (h : DataW.Trod enc Tryd.prog W 0 (fun _ => true) true t (.slice p n c) d q) :
    ∃ xs : List (Int × Int × Int), xs.length = n ∧ RdL 3 clv W p c xs ∧ ∀ x ∈ xs, True :=
  RdL.opened 3 clv (fun _ => True) [.int .i64, .int .i64, .int .i64] ht (by kernel_rfl) (by kernel_rfl) rfl (fun cs hr => by
    cases hr with
    | cons h0 t => cases t with
      | cons h1 t => cases t with
        | cons h2 t =>
          cases t
          obtain ⟨a, rfl, _⟩ := h0
          obtain ⟨b, rfl, _⟩ := h1
          obtain ⟨c, rfl, _⟩ := h2
          exact ⟨(a, b, c), rfl, trivial⟩) h (by decide)
theorem open_image {r : Reach} {b0 : Nat} {v : Value} {d : DataW H} {q : List MemPlace} (hv : Value.okWide Tryd.prog W r b0 28 v) (h : DataW.Trod enc Tryd.prog W 0 (fun _ => true) true 28 v d q) :
    ∃ (I : Im) (r : Rest) (gp ap kp hp : Option Addr) (gc ac kc hc : Nat), v = .agg #[r.v0, .slice gp I.gs.length gc, .int .i64 I.sens, .int .i64 I.outs, .slice hp I.chans hc, r.v5, .slice ap I.addr.length ac, r.v7, r.v8, r.v9, r.v10, .slice kp I.code.length kc] ∧ ImRows W.heap.size W I gp ap kp gc ac kc ∧ I.Ok := by
  obtain ⟨cs, rfl, hsz⟩ := okWide_struct Tryd.underlying28 hv
  have hr := Reads.of h
  obtain ⟨gp, gn, gc, e1, d1, q1, h1⟩ := (hr.fld Tryd.underlying28 1 1 1 22 (by kernel_rfl) (by kernel_rfl)).slice Tryd.underlying22
  obtain ⟨gs, rfl, hg, fg⟩ := rdl_globals Tryd.underlying22 h1
  obtain ⟨sens, e2, _⟩ := (hr.fld Tryd.underlying28 2 2 1 3 (by kernel_rfl) (by kernel_rfl)).int Tryd.underlying3
  obtain ⟨outs, e3, _⟩ := (hr.fld Tryd.underlying28 3 3 1 3 (by kernel_rfl) (by kernel_rfl)).int Tryd.underlying3
  obtain ⟨hp, hn, hc, e4, _⟩ := (hr.fld Tryd.underlying28 4 4 1 23 (by kernel_rfl) (by kernel_rfl)).slice Tryd.underlying23
  obtain ⟨ap, an, ac, e6, d6, q6, h6⟩ := (hr.fld Tryd.underlying28 6 6 1 23 (by kernel_rfl) (by kernel_rfl)).slice Tryd.underlying23
  obtain ⟨addr, rfl, ha, fa⟩ := rdl_ints Tryd.underlying23 h6
  obtain ⟨kp, kn, kc, e11, d11, q11, h11⟩ := (hr.fld Tryd.underlying28 11 11 1 26 (by kernel_rfl) (by kernel_rfl)).slice Tryd.underlying26
  obtain ⟨code, rfl, hk, fk⟩ := rdl_code Tryd.underlying26 h11
  rw [show Tryd.prog.cellsOf 28 = 12 by kernel_rfl] at hsz
  obtain ⟨l⟩ := cs
  match l, hsz, e1, e2, e3, e4, e6, e11 with
  | [a0, a1, a2, a3, a4, a5, a6, a7, a8, a9, a10, a11], _, e1, e2, e3, e4, e6, e11 =>
    obtain rfl : a1 = _ := (List.cons.inj (show [a1] = [_] from e1)).1
    obtain rfl : a2 = _ := (List.cons.inj (show [a2] = [_] from e2)).1
    obtain rfl : a3 = _ := (List.cons.inj (show [a3] = [_] from e3)).1
    obtain rfl : a4 = _ := (List.cons.inj (show [a4] = [_] from e4)).1
    obtain rfl : a6 = _ := (List.cons.inj (show [a6] = [_] from e6)).1
    obtain rfl : a11 = _ := (List.cons.inj (show [a11] = [_] from e11)).1
    exact ⟨⟨code, gs, addr, sens, outs, hn⟩, ⟨a0, a5, a7, a8, a9, a10⟩, gp, ap, kp, hp, gc, ac, kc, hc, rfl,
      ⟨hg, ha, hk, fun hn => hg.low encG hn, fun hn => ha.low encZ hn, fun hn => hk.low encD hn⟩, ⟨fk, fa, Nat.le_trans hk.cap hk.max, fg⟩⟩
theorem rw_of {α : Type} {k : Nat} {row : α → List Value} {t e : TypeId} (ht : Tryd.prog.underlying t = some (.slice e)) {p : Option Addr} {n c : Nat} {d : DataW H} {q : List MemPlace} (h : DataW.Trod enc Tryd.prog W 0 (fun _ => true) true t (.slice p n c) d q) {xs : List α} (hr : RdL k row W p c xs) : Rw k row W p c xs := ⟨hr, bare_opened ht h⟩
theorem open_case {r : Reach} {b0 : Nat} {v : Value} {d : DataW H} {q : List MemPlace} (hv : Value.okWide Tryd.prog W r b0 39 v) (h : DataW.Trod enc Tryd.prog W 0 (fun _ => true) true 39 v d q) :
    ∃ (s : St) (X : Wd) (wp rp cp : Option Addr) (wc rc cc : Nat), v = .agg (stv s ++ ([.slice wp X.ws.length wc, .slice rp X.rs.length rc, .int .i64 X.fl, .slice cp X.cs.length cc] : List Value)).toArray ∧ s.Ok ∧ X.Ok ∧ Rw 1 h16 W wp wc X.ws ∧ Rw 1 h16 W rp rc X.rs ∧ Rw 3 clv W cp cc X.cs := by
  obtain ⟨cs, rfl, hsz⟩ := okWide_struct Tryd.underlying39 hv
  have hr := Reads.of h
  obtain ⟨s, es, hs⟩ := reads_state (hr.fld Tryd.underlying39 0 0 73 33 (by kernel_rfl) (by kernel_rfl))
  have hw := hr.fld Tryd.underlying39 1 73 4 37 (by kernel_rfl) (by kernel_rfl)
  obtain ⟨wp, wn, wc, e0, d0, q0, h0⟩ := (hw.fld Tryd.underlying37 0 0 1 34 (by kernel_rfl) (by kernel_rfl)).slice Tryd.underlying34
  obtain ⟨ws, rfl, r0, f0⟩ := rdl_h16 Tryd.underlying34 h0
  obtain ⟨rp, rn, rc, e1, d1, q1, h1⟩ := (hw.fld Tryd.underlying37 1 1 1 34 (by kernel_rfl) (by kernel_rfl)).slice Tryd.underlying34
  obtain ⟨rs, rfl, r1, f1⟩ := rdl_h16 Tryd.underlying34 h1
  obtain ⟨fl, e2, _⟩ := (hw.fld Tryd.underlying37 2 2 1 3 (by kernel_rfl) (by kernel_rfl)).int Tryd.underlying3
  obtain ⟨cp, cn, cc, e3, d3, q3, h3⟩ := (hw.fld Tryd.underlying37 3 3 1 35 (by kernel_rfl) (by kernel_rfl)).slice Tryd.underlying35
  obtain ⟨cl, rfl, r3, _⟩ := rdl_calls Tryd.underlying35 h3
  refine ⟨s, ⟨ws, rs, fl, cl⟩, wp, rp, cp, wc, rc, cc, ?_, hs, ⟨f0, f1⟩, rw_of Tryd.underlying34 h0 r0, rw_of Tryd.underlying34 h1 r1, rw_of Tryd.underlying35 h3 r3⟩
  have hl := hw.len Tryd.underlying37
  rw [show Tryd.prog.cellsOf 37 = 4 by kernel_rfl] at hl
  rw [show Tryd.prog.cellsOf 39 = 77 by kernel_rfl] at hsz
  have hcs : cs.toList = cs.toList.take 73 ++ (cs.toList.drop 73).take 4 := by
    have b1 : (cs.toList.drop 73).take 4 = cs.toList.drop 73 := List.take_of_length_le (by simp; omega)
    rw [b1, List.take_append_drop]
  have es2 : cs.toList.take 73 = stv s := by
    rw [List.drop_zero] at es
    exact es
  have e4 : (cs.toList.drop 73).take 4 = [.slice wp ws.length wc, .slice rp rs.length rc, .int .i64 fl, .slice cp cl.length cc] := by
    have g0 : ((cs.toList.drop 73).take 4).take 1 = [.slice wp ws.length wc] := by
      rw [List.drop_zero] at e0
      exact e0
    have g1 : (((cs.toList.drop 73).take 4).drop 1).take 1 = [.slice rp rs.length rc] := e1
    have g2 : (((cs.toList.drop 73).take 4).drop 2).take 1 = [.int .i64 fl] := e2
    have g3 : (((cs.toList.drop 73).take 4).drop 3).take 1 = [.slice cp cl.length cc] := e3
    have hl4 : ((cs.toList.drop 73).take 4).length = 4 := hl
    generalize (cs.toList.drop 73).take 4 = l at hl4 g0 g1 g2 g3
    match l, hl4, g0, g1, g2, g3 with
    | [a, b, c, d], _, g0, g1, g2, g3 =>
      rw [show a = _ from (List.cons.inj (show [a] = [_] from g0)).1, show b = _ from (List.cons.inj (show [b] = [_] from g1)).1, show c = _ from (List.cons.inj (show [c] = [_] from g2)).1, show d = _ from (List.cons.inj (show [d] = [_] from g3)).1]
  rw [es2, e4] at hcs
  show Value.agg cs = _
  rw [← hcs]
end
end Go.Proofs.YtbhglpiiabpdjaaDoor
