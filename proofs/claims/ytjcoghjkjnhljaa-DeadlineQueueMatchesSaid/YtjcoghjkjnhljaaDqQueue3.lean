/-
  LAYER 6 (deadlinequeue): the queue's methods Remove and Push.
-/
import Derived.Test.YtjcoghjkjnhljaaDqQueue2
namespace Go.Proofs.Ytjcoghjkjnhljaa
open Go Go.RowKit Go.IntWalk Go.Sort
open Go.Maps (int_keyed keyOf_int_mk)
set_option maxRecDepth 8000
set_option linter.unusedSimpArgs false

/-- What a look-up yields. -/
structure LkP (m : Option Nat) (k : Int) (v : Value) (w : World) : Prop where
  c : (Instr.lookup 61 (.map m) (.int .i64 k) true).run Try.prog w = .ok v w
theorem LkP.kept {m : Option Nat} {k : Int} {v : Value} {w w' : World} (h : LkP m k v w) (hR : Still w w') : LkP m k v w' := by
  have e : w' = w := hR
  rw [e]; exact h
section
variable {dst : Option Tmp} {ty : TypeId} {pos : String} {after : Array Edge} {g : Option (Nat × Bool)} {a : Act} {w : World} {T : Value → World → Prop}
theorem runs_lookP {y z : Nat} {m : Option Nat} {k : Int} {v : Value} (hy : a.eval (.tmp y) = .map m) (hz : a.eval (.tmp z) = .int .i64 k) (hL : LkP m k v w) (h : T v w) :
    Runs Try.prog ⟨dst, .lookup 61 (.tmp y) (.tmp z) true, ty, pos, after, g⟩ a w T := by
  refine Runs.value (v := v) (w' := w) ?_ h
  simp only [execOp, hy, hz]
  simp [hL.c, Result.andThen]
theorem runs_ext {y k : Nat} {vs : Array Value} {v : Value} (hy : a.eval (.tmp y) = .tuple vs) (hk : vs[k]? = some v) (h : T v w) : Runs Try.prog ⟨dst, .extract (.tmp y) k, ty, pos, after, g⟩ a w T := by
  refine Runs.value (v := v) (w' := w) ?_ h
  simp only [execOp, hy]
  go_simp
theorem runs_mkQ {y q : Nat} (hy : a.eval (.tmp y) = .pointer (some ⟨q, 0, none⟩)) (h : T (hv q) w) : Runs Try.prog ⟨dst, .makeInterface 70 (.tmp y), ty, pos, after, g⟩ a w T := by
  refine Runs.value (v := hv q) (w' := w) ?_ h
  simp only [execOp, hy]
  go_simp
theorem runs_mkI {y : Nat} {x : It} (hy : a.eval (.tmp y) = itv x) (h : T (.iface 32 (itv x)) w) : Runs Try.prog ⟨dst, .makeInterface 32 (.tmp y), ty, pos, after, g⟩ a w T := by
  refine Runs.value (v := .iface 32 (itv x)) (w' := w) ?_ h
  simp only [execOp, hy]
  go_simp
theorem runs_stoI {y z b off : Nat} {x u : It} (hx : a.eval (.tmp y) = .pointer (some ⟨b, off, none⟩)) (hz : a.eval (.tmp z) = itv x) (hb : Bx b off u w) (hf : ∀ k, w.frozen? ⟨b, k, none⟩ = false) (h : T undef ((w.setCell ⟨b, off, none⟩ (.int .i64 x.1)).setCell ⟨b, off + 1, none⟩ (.int .i64 x.2))) :
    Runs Try.prog ⟨dst, .store 32 (.tmp y) (.tmp z), ty, pos, after, g⟩ a w T := by
  obtain ⟨h0, h1⟩ := hb
  have f0 := hf off
  have f1 := hf (off + 1)
  rw [slot_eval, ← slot_get] at hx hz
  refine Runs.skip (w' := (w.setCell ⟨b, off, none⟩ (.int .i64 x.1)).setCell ⟨b, off + 1, none⟩ (.int .i64 x.2)) ?_ h
  simp only [execOp]
  go_simp
end
theorem enters_hpush : Enters Try.prog 31 := fun args w => by go_simp
/-- The look-up of an ID's place. -/
theorem QueM.look {w : World} {q : Nat} {d : Array It} {p : Option Addr} {c : Nat} {m : Option Nat} (h : QueM w q d p c m) {i : Int} (hi : In64 i) : (Instr.lookup 61 (.map m) (.int .i64 i) true).run Try.prog w = .ok (.tuple #[.int .i64 ((plc d i).getD 0), .bool (plc d i).isSome]) w := by
  rcases h.map with ⟨rfl, hd⟩ | ⟨b, rfl, _, hP⟩
  · have e : plc d i = none := plc_none (by rw [hd]; rfl)
    rw [e]
    have := Maps.look_nil (P := Try.prog) (w := w) (t := 61) true (int_keyed Try.underlying3) Try.underlying61 (zero_int w) (keyOf_int_mk Try.underlying3 hi.wf)
    exact this
  · exact MapG.look_ok Try.underlying3 Try.underlying61 hP hi
set_option maxHeartbeats 2000000 in
theorem remove_any (q : Nat) (L : List It) (id : Int) (w : World) (h : QRep w q L) (hid : In64 id) (hL : L.length ≤ 1000000) : Calls Try.prog 22 #[.pointer (some ⟨q, 0, none⟩), .int .i64 id] w fun e w' => e = .returned (.bool (hasId id L)) ∧ QRep w' q (rem id L) ∧ Off w.heap.size q w w' := by
  have hqlt := h.lt
  obtain ⟨d, ⟨p, c, m, h1⟩, h2⟩ := h
  have hs := h2.size
  have hpc := plc_isSome (d := d) (i := id)
  rw [hasId_perm h2.perm] at hpc
  have hM := h1.record.cells.2.1
  have hLk := QueM.look h1 hid
  have H1 := Lib.hid h1
  have H2 := Lib.hid h2
  have Hs := Lib.hid hs
  cases hh : hasId id L with
  | false =>
    rw [hh] at hpc
    rw [hpc] at hLk
    have Hh := Lib.hid hh
    clear h1 h2 hs hpc hh hid
    go_enter Try.func22, Try.ntmps22
    go_wp2
    go_ret
    exact ⟨rfl, by rw [rem_none Hh.out]; exact ⟨d, ⟨p, c, m, H1.out⟩, H2.out⟩, Off.refl _ _ _⟩
  | true =>
    rw [hh] at hpc
    obtain ⟨v, hv'⟩ := Option.isSome_iff_exists.1 hpc
    obtain ⟨i, hi, rfl, hdi⟩ := plc_some hv'
    rw [hv'] at hLk
    replace hLk : (Instr.lookup 61 (.map m) (.int .i64 id) true).run Try.prog w = .ok (.tuple #[.int .i64 (i : Int), .bool true]) w := hLk
    have Hdi := Lib.hid hdi
    have HQ : Hid (Que w q d) := Lib.hid ⟨p, c, m, h1⟩
    clear h1 h2 hs hpc hh hv' hdi hid
    go_enter Try.func22, Try.ntmps22
    have tk0 := Lib.hid trivial
    go_wp2_with (go_at_call 34; clear tk0; (with_reducible refine (heapRemove_any q i (d.size - 1) d _ HQ.out (by omega) hi (by rw [Hs.out]; omega) H2.out.heap).mono ?_); rintro e w3 ⟨d3, rfl, q3, p3, h3, o3⟩; have R := Lib.hid (show QRep w3 q (rem id L) ∧ Off w.heap.size q w w3 from ⟨⟨d3, q3, by have := H2.out.remove p3 h3; rwa [Hdi.out] at this⟩, o3⟩); clear q3 p3 h3 o3)
    go_ret
    exact ⟨rfl, R.out⟩
theorem plc_set {d : Array It} {i : Nat} {x : It} (hd : Ids d.toList) (hi : i < d.size) (hx : d[i]!.1 = x.1) : Ids (d.setIfInBounds i x).toList ∧ plc (d.setIfInBounds i x) = plc d ∧ ∀ k : Nat, (d.setIfInBounds i x)[k]!.1 = d[k]!.1 := by
  have hg : ∀ k : Nat, (d.setIfInBounds i x)[k]!.1 = d[k]!.1 := fun k => by
    by_cases e : k = i
    · subst e; rw [Sort.getElem!_set_same _ _ _ hi, hx]
    · simp only [getElem!_def, Array.getElem?_setIfInBounds]
      rw [if_neg (Ne.symm e)]
  have hs : (d.setIfInBounds i x).size = d.size := by simp
  have hm : (d.setIfInBounds i x).toList.map (·.1) = d.toList.map (·.1) := by
    apply List.ext_getElem
    · simp
    · intro k h1 h2
      have h2' : k < d.size := by simpa using h2
      have := hg k
      simp only [List.getElem_map, Array.getElem_toList]
      rw [getElem!_pos _ k (by omega), getElem!_pos _ k h2'] at this
      exact this
  have hids : Ids (d.setIfInBounds i x).toList := by
    have h0 : (d.toList.map (·.1)).Pairwise (· ≠ ·) := List.pairwise_map.2 hd
    rw [← hm] at h0
    exact List.pairwise_map.1 h0
  refine ⟨hids, ?_, hg⟩
  refine (plc_ext hids (plc d) (fun k hk => ?_) (fun k v hv => ?_)).symm
  · rw [hg, plc_at hd (by omega)]
  · obtain ⟨k', hk', _, rfl⟩ := plc_some hv
    exact ⟨k', by omega, hg k'⟩
set_option maxHeartbeats 4000000 in
theorem push_any (q : Nat) (L : List It) (x : It) (w : World) (h : QRep w q L) (hin : In64 x.1) (hL : L.length < 1000000) : Calls Try.prog 18 #[.pointer (some ⟨q, 0, none⟩), itv x] w fun e w' => e = .returned (.tuple #[]) ∧ QRep w' q (pushL L x) ∧ Off w.heap.size q w w' := by
  have hqlt := h.lt
  obtain ⟨d, ⟨p, c, m, h1⟩, h2⟩ := h
  have hs := h2.size
  have hpc := plc_isSome (d := d) (i := x.1)
  have hhd := hasId_perm (id := x.1) h2.perm
  rw [hhd] at hpc
  have g1 : Grew w (w.alloc (.cells #[.int .i64 x.1, .int .i64 x.2] 32)).drew := ((Grew.refl w).alloc _).drw
  have h1' := h1.grew g1
  have hM : Cel q 1 (.map m) (w.alloc (.cells #[.int .i64 x.1, .int .i64 x.2] 32)).drew := ⟨h1'.record.cells.2.1⟩
  have hLk := QueM.look h1' hin
  have hB0 : Cel w.heap.size 0 (.int .i64 x.1) (w.alloc (.cells #[.int .i64 x.1, .int .i64 x.2] 32)).drew := ⟨by go_simp⟩
  have hB : Bx w.heap.size 0 x (w.alloc (.cells #[.int .i64 x.1, .int .i64 x.2] 32)).drew := ⟨by go_simp, by go_simp⟩
  have HG := Lib.hid g1
  have H1 := Lib.hid h1'
  have H2 := Lib.hid h2
  have Hs := Lib.hid hs
  have Hin := Lib.hid hin
  have Hhd := Lib.hid hhd
  have HB := Lib.hid hB
  have HB0 := Lib.hid hB0
  have HM := Lib.hid hM
  have hLs : L.length ≤ 999999 := by omega
  cases hh : hasId x.1 L with
  | false =>
    rw [hh] at hpc
    have Hp := Lib.hid hpc
    have Hh := Lib.hid hh
    have HL := Lib.hid hLk
    clear h1 h2 hs hpc hh hM hLk g1 h1' hB0 hB hin hhd hL
    go_enter Try.func18, Try.ntmps18
    go_wp2
    generalize hW : World.alloc w _ = W at HG H1 HB HB0 HM HL ⊢
    clear hW
    have hM := HM.out
    have hLk := LkP.mk HL.out
    have hB0 := HB0.out
    refine wp_still [some 7, some 8, some 9, some 10, some 11, some 12, some 13, some 14, some 6, some 15, some 16, some 4, some 5] [false, false, false, false, true, true, true, true, true, true, true, true, true, true, true, true, true, false, false, false, false, false, false, false, false, false, false, false, false, false, false, false, false, false, false, false, false, false, false, false] [fun v _ => v = .pointer (some ⟨q, 0, none⟩), fun v _ => v = .pointer (some ⟨q, 0, none⟩), fun v _ => v = .pointer (some ⟨q, 0, none⟩), fun v _ => v = .pointer (some ⟨q, 1, none⟩), fun v _ => v = .map m, fun v _ => v = .pointer (some ⟨w.heap.size, 0, none⟩), fun v _ => v = .int .i64 (x.1), fun v _ => v = .tuple #[.int .i64 ((plc d (x.1)).getD 0), .bool ((plc d (x.1)).isSome)], fun v _ => v = .tuple #[.int .i64 ((plc d (x.1)).getD 0), .bool ((plc d (x.1)).isSome)], fun v _ => v = .int .i64 ((plc d (x.1)).getD 0), fun v _ => v = .bool ((plc d (x.1)).isSome), fun v _ => v = .int .i64 ((plc d (x.1)).getD 0), fun v _ => v = .bool ((plc d (x.1)).isSome)] (by kernel_rfl) (by kernel_rfl) rfl ⟨?_, ?_, ?_, ?_, ?_, ?_, ?_, ?_, ?_, ?_, ?_, ?_, ?_, trivial⟩ ?_
    · intro u w hR hd; exact runs_mv (ev rfl) ⟨rfl, rfl⟩
    · intro u w hR hd; exact runs_nil (ev (hd.1 rfl)) ⟨rfl, rfl⟩
    · intro u w hR hd; exact runs_fldQ (ev (hd.1 rfl)) ⟨rfl, rfl⟩
    · intro u w hR hd; exact runs_fld63_1 (ev (hd.1 rfl)) ⟨rfl, rfl⟩
    · intro u w hR hd; exact runs_ld61 (ev (hd.1 rfl)) (hM.kept hR) ⟨rfl, rfl⟩
    · intro u w hR hd; exact runs_fld32_0 (ev rfl) ⟨rfl, rfl⟩
    · intro u w hR hd; exact runs_ld3 (ev (hd.1 rfl)) (hB0.kept hR) ⟨rfl, rfl⟩
    · intro u w hR hd; exact runs_lookP (ev (hd.1 rfl)) (ev (hd.2.1 rfl)) (hLk.kept hR) ⟨rfl, rfl⟩
    · intro u w hR hd; exact runs_mv (ev (hd.1 rfl)) ⟨rfl, rfl⟩
    · intro u w hR hd; exact runs_ext (ev (hd.1 rfl)) rfl ⟨rfl, rfl⟩
    · intro u w hR hd; exact runs_ext (ev (hd.1 rfl)) rfl ⟨rfl, rfl⟩
    · intro u w hR hd; exact runs_mva (ev (hd.1 rfl)) ⟨rfl, rfl⟩
    · intro u w hR hd; exact runs_mva (ev (hd.1 rfl)) ⟨rfl, rfl⟩
    · intro uu h
      have e4 : uu 4 = .int .i64 ((plc d x.1).getD 0) := h 11 (by decide)
      have e5 : uu 5 = .bool (plc d x.1).isSome := h 12 (by decide)
      rw [Hp.out] at e5
      simp only [mixA, mixL, cond_true, cond_false]
      rw [e4, e5]
      clear e4 e5 h hM hLk hB0
      go_wp2
      have hB := HB.out.grew (Grew.drew W.drew)
      refine wp_still_tail 6 [some 19, some 20, some 21, some 22, some 23, some 24] [false, false, false, false, false, false, false, false, false, false, false, false, false, false, false, false, false, false, false, true, true, true, true, true, true, false, false, false, false, false, false, false, false, false, false, false, false, false, false, false] [fun v _ => v = .pointer (some ⟨q, 0, none⟩), fun v _ => v = .pointer (some ⟨q, 0, none⟩), fun v _ => v = .pointer (some ⟨q, 0, none⟩), fun v _ => v = hv q, fun v _ => v = itv (x), fun v _ => v = .iface 32 (itv x)] (by kernel_rfl) (by kernel_rfl) (by kernel_rfl) rfl ⟨?_, ?_, ?_, ?_, ?_, ?_, trivial⟩ ?_
      · intro u w hR hd; exact runs_mv (ev rfl) ⟨rfl, rfl⟩
      · intro u w hR hd; exact runs_nil (ev (hd.1 rfl)) ⟨rfl, rfl⟩
      · intro u w hR hd; exact runs_fldQ (ev (hd.1 rfl)) ⟨rfl, rfl⟩
      · intro u w hR hd; exact runs_mkQ (ev (hd.1 rfl)) ⟨rfl, rfl⟩
      · intro u w hR hd; exact runs_bx32 (ev rfl) (hB.kept hR) ⟨rfl, rfl⟩
      · intro u w hR hd; exact runs_mkI (ev (hd.1 rfl)) ⟨rfl, rfl⟩
      · intro uu h
        refine wpAny_one (i := 6) (some 25) (by kernel_rfl) rfl rfl rfl (runs_c2 enters_hpush (ev (h 3 (by decide))) (ev (h 5 (by decide))) (Calls.mono (heapPush_any q d x _ (Que.grew ⟨p, c, m, H1.out⟩ (Grew.drew _)) (by rw [Hhd.out]; exact Hh.out) Hin.out (by rw [Hs.out]; omega) H2.out.heap) ?_))
        rintro e w2 ⟨rfl, d2, q2, p2, h3, o2⟩
        refine ⟨_, rfl, ?_⟩
        refine wpAny_done (by kernel_rfl) ?_ _
        have R := Lib.hid (show QRep w2 q (pushL L x) ∧ Off w.heap.size q w w2 from ⟨⟨d2, q2, H2.out.push Hh.out p2 h3⟩, Off.start (HG.out.drw) hqlt o2⟩)
        clear q2 p2 h3 o2 hB h
        simp only [Act.put, mixA, mixL, cond_true, cond_false, List.setIfInBounds_toArray, List.set_cons_succ, List.set_cons_zero]
        go_wp2
        refine bodyPost_ret (results_none rfl _ _ _) rfl ?_
        exact ⟨rfl, R.out⟩
  | true =>
    rw [hh] at hpc
    obtain ⟨v, hv'⟩ := Option.isSome_iff_exists.1 hpc
    obtain ⟨i, hi, rfl, hdi⟩ := plc_some hv'
    rw [hv'] at hLk
    replace hLk : (Instr.lookup 61 (.map m) (.int .i64 x.1) true).run Try.prog (w.alloc (.cells #[.int .i64 x.1, .int .i64 x.2] 32)).drew = .ok (.tuple #[.int .i64 (i : Int), .bool true]) (w.alloc (.cells #[.int .i64 x.1, .int .i64 x.2] 32)).drew := hLk
    obtain ⟨g, b, rfl, rfl, l1, l2, l3, hP, hgb⟩ := h1'.full (by omega)
    have HL := Lib.hid hLk
    have Hv := Lib.hid hv'
    have Hdi := Lib.hid hdi
    clear h1 h2 hs hpc hh hM hLk hv' hdi g1 h1' hB0 hB hin hhd hP l2 hL
    go_enter Try.func18, Try.ntmps18
    go_wp2
    generalize hW : World.alloc w _ = W at HG H1 HB HB0 HM HL ⊢
    clear hW
    have hM := HM.out
    have hLk := LkP.mk HL.out
    have hB0 := HB0.out
    refine wp_still [some 7, some 8, some 9, some 10, some 11, some 12, some 13, some 14, some 6, some 15, some 16, some 4, some 5] [false, false, false, false, true, true, true, true, true, true, true, true, true, true, true, true, true, false, false, false, false, false, false, false, false, false, false, false, false, false, false, false, false, false, false, false, false, false, false, false] [fun v _ => v = .pointer (some ⟨q, 0, none⟩), fun v _ => v = .pointer (some ⟨q, 0, none⟩), fun v _ => v = .pointer (some ⟨q, 0, none⟩), fun v _ => v = .pointer (some ⟨q, 1, none⟩), fun v _ => v = .map (some b), fun v _ => v = .pointer (some ⟨w.heap.size, 0, none⟩), fun v _ => v = .int .i64 (x.1), fun v _ => v = .tuple #[.int .i64 (((i : Nat) : Int)), .bool (true)], fun v _ => v = .tuple #[.int .i64 (((i : Nat) : Int)), .bool (true)], fun v _ => v = .int .i64 (((i : Nat) : Int)), fun v _ => v = .bool (true), fun v _ => v = .int .i64 (((i : Nat) : Int)), fun v _ => v = .bool (true)] (by kernel_rfl) (by kernel_rfl) rfl ⟨?_, ?_, ?_, ?_, ?_, ?_, ?_, ?_, ?_, ?_, ?_, ?_, ?_, trivial⟩ ?_
    · intro u w hR hd; exact runs_mv (ev rfl) ⟨rfl, rfl⟩
    · intro u w hR hd; exact runs_nil (ev (hd.1 rfl)) ⟨rfl, rfl⟩
    · intro u w hR hd; exact runs_fldQ (ev (hd.1 rfl)) ⟨rfl, rfl⟩
    · intro u w hR hd; exact runs_fld63_1 (ev (hd.1 rfl)) ⟨rfl, rfl⟩
    · intro u w hR hd; exact runs_ld61 (ev (hd.1 rfl)) (hM.kept hR) ⟨rfl, rfl⟩
    · intro u w hR hd; exact runs_fld32_0 (ev rfl) ⟨rfl, rfl⟩
    · intro u w hR hd; exact runs_ld3 (ev (hd.1 rfl)) (hB0.kept hR) ⟨rfl, rfl⟩
    · intro u w hR hd; exact runs_lookP (ev (hd.1 rfl)) (ev (hd.2.1 rfl)) (hLk.kept hR) ⟨rfl, rfl⟩
    · intro u w hR hd; exact runs_mv (ev (hd.1 rfl)) ⟨rfl, rfl⟩
    · intro u w hR hd; exact runs_ext (ev (hd.1 rfl)) rfl ⟨rfl, rfl⟩
    · intro u w hR hd; exact runs_ext (ev (hd.1 rfl)) rfl ⟨rfl, rfl⟩
    · intro u w hR hd; exact runs_mva (ev (hd.1 rfl)) ⟨rfl, rfl⟩
    · intro u w hR hd; exact runs_mva (ev (hd.1 rfl)) ⟨rfl, rfl⟩
    · intro uu h
      have e4 : uu 4 = .int .i64 (i : Int) := h 11 (by decide)
      have e5 : uu 5 = .bool true := h 12 (by decide)
      simp only [mixA, mixL, cond_true, cond_false]
      rw [e4, e5]
      clear e4 e5 h hM hLk hB0
      go_wp2
      have hB := HB.out.grew (Grew.drew W.drew)
      have H1d := H1.out.grew (Grew.drew W.drew)
      have hS : Cel q 0 (.slice (some ⟨g, 0, none⟩) d.size c) W.drew.drew := ⟨H1d.record.cells.1⟩
      refine wp_still_tail 7 [some 26, some 27, some 28, some 29, some 30, some 31, some 32] [false, false, false, false, false, false, false, false, false, false, false, false, false, false, false, false, false, false, false, false, false, false, false, false, false, false, true, true, true, true, true, true, true, false, false, false, false, false, false, false] [fun v _ => v = .pointer (some ⟨q, 0, none⟩), fun v _ => v = .pointer (some ⟨q, 0, none⟩), fun v _ => v = .pointer (some ⟨q, 0, none⟩), fun v _ => v = .pointer (some ⟨q, 0, none⟩), fun v _ => v = .slice (some ⟨g, 0, none⟩) (d.size) (c), fun v _ => v = .int .i64 (((i : Nat) : Int)), fun v _ => v = itv (x)] (by kernel_rfl) (by kernel_rfl) (by kernel_rfl) rfl ⟨?_, ?_, ?_, ?_, ?_, ?_, ?_, trivial⟩ ?_
      · intro u w hR hd; exact runs_mv (ev rfl) ⟨rfl, rfl⟩
      · intro u w hR hd; exact runs_nil (ev (hd.1 rfl)) ⟨rfl, rfl⟩
      · intro u w hR hd; exact runs_fldQ (ev (hd.1 rfl)) ⟨rfl, rfl⟩
      · intro u w hR hd; exact runs_fld63_0 (ev (hd.1 rfl)) ⟨rfl, rfl⟩
      · intro u w hR hd; exact runs_ld39 (ev (hd.1 rfl)) (hS.kept hR) ⟨rfl, rfl⟩
      · intro u w hR hd; exact runs_mv (ev rfl) ⟨rfl, rfl⟩
      · intro u w hR hd; exact runs_bx32 (ev rfl) (hB.kept hR) ⟨rfl, rfl⟩
      · intro uu h
        have hbi := Rd_bx H1d.own i hi
        refine wpAny_one (i := 7) (some 33) (by kernel_rfl) rfl rfl rfl (runs_ix39 (ev (h 4 (by decide))) (ev (h 5 (by decide))) hi ?_)
        refine wpAny_one (i := 8) none (by kernel_rfl) rfl rfl rfl (runs_stoI (ev rfl) (ev (h 6 (by decide))) hbi (fun k => (H1d.own.free k).2) ?_)
        refine wpAny_done (by kernel_rfl) ?_ _
        have hpl := plc_set H2.out.idsd hi Hdi.out
        have hsz : (d.setIfInBounds i x).size = d.size := by simp
        have C1 : Chg W.drew.drew ((W.drew.drew.setCell ⟨g, 0 + i * 2, none⟩ (.int .i64 x.1)).setCell ⟨g, 0 + i * 2 + 1, none⟩ (.int .i64 x.2)) (fun k => k = g) := (Chg.set _ ⟨g, 0 + i * 2, none⟩ _).trans (Chg.set _ ⟨g, 0 + i * 2 + 1, none⟩ _)
        have R1 := H1d.record.keep (C1.block q H1d.record.lt (by omega))
        have O1 := OwI.set H1d.own i x (by simpa using hi)
        have hP1 : MapP W.drew.drew b d.size (plc d) := by
          rcases H1d.map with ⟨e, _⟩ | ⟨b', e, _, h6⟩
          · cases e
          · rw [Option.some.inj e]; exact h6
        have M1 := MapG.keep hP1 (C1.block b (MapG.lt hP1) (Ne.symm hgb))
        have Q1 : QueM ((W.drew.drew.setCell ⟨g, 0 + i * 2, none⟩ (.int .i64 x.1)).setCell ⟨g, 0 + i * 2 + 1, none⟩ (.int .i64 x.2)) q (d.setIfInBounds i x) (some ⟨g, 0, none⟩) c (some b) :=
          ⟨by rw [hsz]; exact R1, by rw [hsz, Nat.zero_add, Array.toList_setIfInBounds]; exact O1, .inr ⟨b, rfl, l3, by rw [hsz, hpl.2.1]; exact M1⟩, hpl.1, fun k hk => by rw [hpl.2.2]; exact H1d.in64 k (by omega)⟩
        have OF := Off.of_rec H1d.record Q1.record (C1.mono fun k hk => .inr (.inl (by rw [hk]; rfl))) (.inl rfl) (.inl rfl)
        have hdd : ∀ k, k < (d.setIfInBounds i x).size → k ≠ i → (d.setIfInBounds i x)[k]! = d[k]! := fun k _ hne => by
          simp only [getElem!_def, Array.getElem?_setIfInBounds]
          rw [if_neg (Ne.symm hne)]
        have HF := Lib.hid (fix_any q i (d.setIfInBounds i x) d (i : Int) _ ⟨_, _, _, Q1⟩ rfl (by rw [hsz]; exact hi) (by rw [hsz, Hs.out]; omega) (by rw [hsz]; exact H2.out.heap) hdd)
        have OF' := Lib.hid (Off.start (HG.out.drw) hqlt OF)
        clear hpl C1 R1 O1 hP1 M1 Q1 OF hdd hbi H1d hS hB h
        simp only [Act.put, mixA, mixL, cond_true, cond_false, List.setIfInBounds_toArray, List.set_cons_succ, List.set_cons_zero]
        generalize World.setCell (World.setCell W.drew.drew _ _) _ _ = W2 at HF OF' ⊢
        go_wp2_with fail
        (with_reducible refine HF.out.mono ?_)
        rintro e w3 ⟨rfl, d2, q2, p2, h3, o2⟩
        have R := Lib.hid (show QRep w3 q (pushL L x) ∧ Off w.heap.size q w w3 from ⟨⟨d2, q2, H2.out.replace hi Hdi.out (by rwa [Array.toList_setIfInBounds] at p2) h3⟩, OF'.out.trans (o2.mono OF'.out.size)⟩)
        clear q2 p2 h3 o2
        go_wp2
        go_end0
        exact ⟨rfl, R.out⟩
end Go.Proofs.Ytjcoghjkjnhljaa
