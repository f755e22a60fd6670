/-
  LAYER 10 (sensor): rows of one cell: what is made and stored; contracts of Merge.
-/
import Derived.Test.YtaehlpdnjfblbaaDoorSeLaws1
namespace Go.Proofs.YtaehlpdnjfblbaaDoor
open Go Go.RowKit Go.IntWalk
set_option linter.unusedSimpArgs false
set_option linter.unusedVariables false
set_option maxRecDepth 8000

theorem flatL_one {α : Type} {enc : α → List Value} {f : α → Value} (h : ∀ x, enc x = [f x]) (xs : List α) : flatL enc xs = xs.map f := by
  induction xs with
  | nil => rfl
  | cons x xs ih => rw [flatL_cons, h, ih]; rfl
/-- One element of one cell is stored. -/
theorem OwR.set1 {α : Type} {enc : α → List Value} (E : Enc 1 enc) {f : α → Value} (hf : ∀ x, enc x = [f x]) {w : World} {base : Nat} {e : TypeId} {xs : List α} {b n c : Nat} (h : OwR w base e 1 enc (.slice (some ⟨b, 0, none⟩) n c) xs) (i : Nat) (x : α) :
    OwR (w.setCell ⟨b, i, none⟩ (f x)) base e 1 enc (.slice (some ⟨b, 0, none⟩) n c) (xs.set i x) := by
  obtain ⟨rfl, _⟩ := h.rd E
  have h2 : World.ownsRow w base e 1 (.slice (some ⟨b, 0, none⟩) xs.length c) xs.length (flatL enc xs) := h
  have h3 := (World.ownsRow.stored h2 i (f x)).1
  show World.ownsRow _ _ _ _ _ _ _
  rw [List.length_set, flatL_one hf, List.map_set]
  rw [flatL_one hf] at h3
  exact h3
theorem flatL_rep {α : Type} {enc : α → List Value} {x0 : α} {z : Value} (h : enc x0 = [z]) (n : Nat) : flatL enc (List.replicate n x0) = List.replicate n z := by
  induction n with
  | zero => rfl
  | succ n ih => rw [List.replicate_succ, List.replicate_succ, flatL_cons, h, ih]; rfl
/-- 'make([]T, n)' of elements of one cell. -/
theorem wpList_make_row1 {α : Type} {enc : α → List Value} {P : Program} {w : World} {ops : Array Oper} {rest : List Oper} {o : Oper} {a : Act} {Q : Exit → Act → World → Prop} (hg : o.guard = none) (l c : Operand) (t : TypeId) (hop : o.op = Op.makeSlice t l c) (E : Enc 1 enc)
    (base : Nat) (e : TypeId) (z : Value) (by' : Nat) (x0 : α) (hx0 : enc x0 = [z]) (ht : P.underlying t = some (.slice e)) (hi : (P.info? e).map (fun i => (i.zero, i.size, i.bytes)) = some (some z, 1, by')) (hzc : z.cells = #[z])
    (kl kc : IntKind) (L C : Int) (n : Nat) (hl : a.eval l = .int kl L) (hc : a.eval c = .int kc C) (hL : L = (n : Int)) (hC : C = (n : Int)) (hn : by' * n ≤ 281474976710656 ∧ n ≤ 9223372036854775807) (hbase : base ≤ w.heap.size)
    (h : ∀ w', OwR w' base e 1 enc (.slice (some ⟨w.heap.size, 0, none⟩) n n) (List.replicate n x0) → Below base w w' → wpList P ops Q rest (a.put o.dst (.slice (some ⟨w.heap.size, 0, none⟩) n n)) w') : wpList P ops Q (o :: rest) a w := by
  obtain ⟨i, hi, hz0, hz1, hz2⟩ := info_parts hi
  refine wpList_make_full w hg l c t hop base e i _ 1 ht hi hz0 hz1 kl kc L C n hl hc hL hC (by rw [hz2]; exact hn.1) (by simp only [maxLen]; omega) hbase fun w' h1 h2 => h w' ?_ ((Below.refl base w).grown h2 hbase (fun k hk => by cases hk))
  have e1 : (madeCells z.cells (n * 1)).toList = flatL enc (List.replicate n x0) := by
    rw [hzc, toList_madeCells_one, Nat.mul_one, flatL_rep hx0]
  rw [e1] at h1
  show World.ownsRow _ _ _ _ _ _ _
  rw [List.length_replicate]
  exact h1
/-- Traces as pointers; values. -/
abbrev ptc (q : Nat × List It) : List Value := [.pointer (some ⟨q.1, 0, none⟩)]
abbrev h16 (z : Int) : List Value := [.int .i16 z]
theorem encP : Enc 1 ptc := ⟨fun _ => rfl, fun x u hu => by simp at hu; subst hu; rfl, by decide⟩
theorem encH : Enc 1 h16 := ⟨fun _ => rfl, fun x u hu => by simp at hu; subst hu; rfl, by decide⟩
theorem infoH : (Tryd.prog.info? 32).map (fun i => (i.zero, i.size, i.bytes)) = some (some (.int .i16 0), 1, 2) := by kernel_rfl
def vals (ts : List (Nat × List It)) (time : Int) (k : Nat) : List Int := (ts.take k).map (fun q => valAt q.2 time) ++ List.replicate (ts.length - k) 0
theorem vals_len (ts : List (Nat × List It)) (time : Int) (k : Nat) (hk : k ≤ ts.length) : (vals ts time k).length = ts.length := by
  unfold vals; simp; omega
theorem vals_next (ts : List (Nat × List It)) (time : Int) (k : Nat) (q : Nat × List It) (hq : ts[k]? = some q) : (vals ts time k)[k]? = some 0 ∧ (vals ts time k).set k (valAt q.2 time) = vals ts time (k + 1) := by
  have hk : k < ts.length := (List.getElem?_eq_some_iff.1 hq).1
  have ht := List.take_succ_eq_append_getElem hk
  rw [List.getElem?_eq_getElem hk] at hq
  have hl : ((ts.take k).map (fun q => valAt q.2 time)).length = k := by simp; omega
  have hr : List.replicate (ts.length - k) (0 : Int) = 0 :: List.replicate (ts.length - (k + 1)) 0 := by
    rw [show ts.length - k = (ts.length - (k + 1)) + 1 by omega, List.replicate_succ]
  unfold vals
  rw [hr]
  constructor
  · rw [List.getElem?_append_right (by omega), hl, Nat.sub_self]; rfl
  · rw [List.set_append_right _ _ (by omega), hl, Nat.sub_self, List.set_cons_zero, ht, Option.some.inj hq]
    simp
set_option maxHeartbeats 4000000 in
theorem merge_any (p : Option Addr) (n c : Nat) (ts : List (Nat × List It)) (time : Int) (w : World) (h : Rw 1 ptc w p c ts) (hn : ts.length = n) (hl : n ≤ 1000) (ht : ∀ q ∈ ts, TrR q.1 q.2 w ∧ asc (-1) q.2 = true ∧ q.2.length ≤ 100000) :
    Calls Tryd.prog 23 #[.slice p n c, .int .i64 time] w fun e w' => ∃ g, e = .returned (.slice (some ⟨g, 0, none⟩) n n) ∧ Rw 1 h16 w' (some ⟨g, 0, none⟩) n (ts.map fun q => valAt q.2 time) ∧ Grew w w' := by
  subst hn
  have HX := Lib.hid h
  have HT := Lib.hid ht
  have hcap := h.cap
  have hmax := h.max
  clear h ht
  go_enter Tryd.func23, Tryd.ntmps23
  go_wp2_with (at_make; refine wpList_make_row1 rfl _ _ 51 rfl encH w.heap.size 32 (.int .i16 0) 2 (0 : Int) rfl Tryd.underlying51 infoH rfl _ _ _ _ ts.length rfl rfl rfl rfl (by omega) (Nat.le_refl _) ?_; intro w1 ho1 hb1; have HO1 := Lib.hid ho1; have HB1 := Lib.hid hb1; clear ho1 hb1)
  obtain ⟨g, hg⟩ : ∃ g, g = w.heap.size := ⟨_, rfl⟩
  rw [← hg]
  replace HO1 : Hid (OwR w1 w.heap.size 32 1 h16 (.slice (some ⟨g, 0, none⟩) ts.length ts.length) (List.replicate ts.length 0)) := Lib.hid (by rw [hg]; exact HO1.out)
  have HGW := Lib.hid (Nat.le_of_eq hg.symm)
  clear hg
  go_loopg [13] ts.length (fun gg iv wr => ∃ (k : Nat), iv = .int .i64 (k : Int) ∧ k ≤ ts.length ∧ gg = ts.length - k ∧ Hid (OwR wr w.heap.size 32 1 h16 (.slice (some ⟨g, 0, none⟩) ts.length ts.length) (vals ts time k)) ∧ Hid (Grew w wr))
  case atStart => exact ⟨0, rfl, Nat.zero_le _, rfl, Lib.hid (by simpa [vals] using HO1.out), Lib.hid HB1.out⟩
  clear HO1
  case round =>
    obtain ⟨k, rfl, hk, rfl, HO, HG⟩ := hrel
    by_cases hlt : k < ts.length
    · obtain ⟨b', o', rfl, hcc⟩ := (HX.out.kept HG.out).rd.cells (by omega)
      have hx : ts[k]? = some ts[k] := by simp [hlt]
      have hc1 := hcc k ts[k] hx 0 _ rfl
      have hlb : b' < wr.heap.size := World.block_lt_of_cell? _ _ hc1
      have HLT := Lib.hid (Nat.succ_le_of_lt hlt)
      have HV := Lib.hid (vals_next ts time k _ hx)
      have hq := HT.out ts[k] (List.getElem_mem hlt)
      generalize ts[k] = q at hc1 hq HV
      have d0 : wr.cell? ⟨b', o' + k, none⟩ = some (.pointer (some ⟨q.1, 0, none⟩)) := by simpa using hc1
      have HC := Lib.hid (at_any q.1 q.2 time wr (hq.1.grew HG.out) hq.2.1 hq.2.2)
      generalize valAt q.2 time = v at HC HV
      clear hcc hc1 hx hq
      go_wp2_with (go_at_call 17; (with_reducible refine (HC.out).mono ?_); rintro e w2 ⟨rfl, g1⟩; have HO2 := Lib.hid (HO.out.kept g1); have HG2 := Lib.hid (HG.out.trans g1); clear g1; have v0 : w2.cell? ⟨g, k, none⟩ = some (.int .i16 0) := (by have h1 := (OwR.rd encH HO2.out).2.cell HV.out.1 (j := 0) rfl; simpa using h1); have vf := (OwR.free encH HO2.out k).2; have vl : g < w2.heap.size := World.block_lt_of_cell? _ _ v0)
      go_roundg (ts.length - (k + 1))
      case measure => have := HLT.out; omega
      case rel => exact ⟨k + 1, by go_num, HLT.out, rfl, Lib.hid (by rw [← HV.out.2]; exact OwR.set1 encH (f := fun z => .int .i16 z) (fun _ => rfl) HO2.out k v), Lib.hid (HG2.out.sc HGW.out _ _)⟩
    · obtain rfl : k = ts.length := by omega
      have HZ : Hid (vals ts time ts.length = ts.map fun q => valAt q.2 time) := Lib.hid (by unfold vals; simp)
      go_wp2
      go_ret
      exact ⟨g, rfl, by rw [← HZ.out]; exact (OwR.rd encH HO.out).2, HG.out⟩
theorem merge_nil (time : Int) (w : World) : Calls Tryd.prog 23 #[.slice none 0 0, .int .i64 time] w fun e w' => ∃ q, e = .returned (.slice q 0 0) ∧ Grew w w' :=
  (merge_any none 0 0 [] time w (Rw.nil _ _ _) rfl (by omega) (fun q hq => by cases hq)).mono fun _ _ ⟨g, h1, _, h3⟩ => ⟨_, h1, h3⟩
/-- The values of Merge in memory. -/
structure M3 (g : Nat) (a b : Int) (w : World) : Prop where
  m0 : Atv ⟨g, 0 + 0, none⟩ (.int .i16 a) w
  m1 : Atv ⟨g, 0 + 1, none⟩ (.int .i16 b) w
  m2 : Atv ⟨g, 0 + 2, none⟩ (.int .i16 a) w
theorem M3.grew {g : Nat} {a b : Int} {w w' : World} (h : M3 g a b w) (hg : Grew w w') : M3 g a b w' := ⟨h.m0.grew hg, h.m1.grew hg, h.m2.grew hg⟩
theorem merge3 (S t u : Nat) (xs ys : List It) (time a b : Int) (w : World) (hb : Blk S [.pointer (some ⟨t, 0, none⟩), .pointer (some ⟨u, 0, none⟩), .pointer (some ⟨t, 0, none⟩)] 23 w) (ht : TrR t xs w) (hu : TrR u ys w) (hx : asc (-1) xs = true) (hy : asc (-1) ys = true) (lx : xs.length ≤ 60) (ly : ys.length ≤ 60) (ha : valAt xs time = a) (hbb : valAt ys time = b) :
    Calls Tryd.prog 23 #[.slice (some ⟨S, 0, none⟩) 3 3, .int .i64 time] w fun e w' => ∃ g, e = .returned (.slice (some ⟨g, 0, none⟩) 3 3) ∧ M3 g a b w' ∧ Grew w w' := by
  have hr : Rw 1 ptc w (some ⟨S, 0, none⟩) 3 [(t, xs), (u, ys), (t, xs)] := ⟨⟨Nat.le_refl _, by omega, fun _ => ⟨S, 0, rfl, fun i x hi j v hv => by
    obtain rfl : j = 0 := by
      have := (List.getElem?_eq_some_iff.1 hv).1
      simp at this; exact this
    obtain rfl : Value.pointer (some ⟨x.1, 0, none⟩) = v := by simpa using hv
    match i, hi with
    | 0, hi => obtain rfl := Option.some.inj hi; exact hb.cell 0
    | 1, hi => obtain rfl := Option.some.inj hi; exact hb.cell 1
    | 2, hi => obtain rfl := Option.some.inj hi; exact hb.cell 2
    | i + 3, hi => simp at hi⟩⟩, fun h => by cases h⟩
  refine (merge_any _ 3 3 _ time w hr rfl (by omega) (fun q hq => ?_)).mono ?_
  · rcases List.mem_cons.1 hq with rfl | hq
    · exact ⟨ht, hx, by show xs.length ≤ _; omega⟩
    · rcases List.mem_cons.1 hq with rfl | hq
      · exact ⟨hu, hy, by show ys.length ≤ _; omega⟩
      · rw [List.mem_singleton.1 hq]
        exact ⟨ht, hx, by show xs.length ≤ _; omega⟩
  · rintro e w' ⟨g, h1, h2, h3⟩
    refine ⟨g, h1, ⟨?_, ?_, ?_⟩, h3⟩
    · rw [← ha]; exact h2.cell (i := 0) rfl (j := 0) rfl
    · rw [← hbb]; exact h2.cell (i := 1) rfl (j := 0) rfl
    · rw [← ha]; exact h2.cell (i := 2) rfl (j := 0) rfl
theorem enters_rch : Enters Tryd.prog 13 := fun args w => by go_simp
theorem enters_rat : Enters Tryd.prog 18 := fun args w => by go_simp
theorem enters_mrg : Enters Tryd.prog 23 := fun args w => by go_simp
theorem enters_ex : Enters Tryd.prog 11 := fun args w => by go_simp
theorem enters_at : Enters Tryd.prog 17 := fun args w => by go_simp
end Go.Proofs.YtaehlpdnjfblbaaDoor
