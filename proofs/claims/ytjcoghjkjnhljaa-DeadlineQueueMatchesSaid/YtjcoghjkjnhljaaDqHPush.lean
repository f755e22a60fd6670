/-
  LAYER 6 (deadlinequeue): the heap's own Push and Len.
-/
import Derived.Test.YtjcoghjkjnhljaaDqSwap
import Derived.Test.YtjcoghjkjnhljaaPostsFree
import Derived.Carry
namespace Go.Proofs.Ytjcoghjkjnhljaa
open Go Go.RowKit Go.IntWalk Go.Sort
set_option maxRecDepth 8000
set_option linter.unusedSimpArgs false

theorem hlen_any (q n c : Nat) (p : Option Addr) (w : World) (hS : w.cell? ⟨q, 0, none⟩ = some (.slice p n c)) :
    Calls Try.prog 29 #[.pointer (some ⟨q, 0, none⟩)] w fun e w' => e = .returned (.int .i64 (n : Int)) ∧ w = w' := by
  go_enter Try.func29, Try.ntmps29
  go_wp2
  go_ret
  exact ⟨rfl, rfl⟩
theorem plc_push {d : Array It} {x : It} (hd : Ids d.toList) (hx : hasId x.1 d.toList = false) : Ids (d.push x).toList ∧ plc (d.push x) = fun k => if k = x.1 then some (d.size : Int) else plc d k := by
  have hids : Ids (d.push x).toList := by
    rw [Array.toList_push]
    have := ids_ins hd hx
    exact ids_perm ((ins_perm x d.toList).trans (List.perm_append_singleton x d.toList).symm) this
  refine ⟨hids, (plc_ext hids _ (fun k hk => ?_) (fun k v hv => ?_)).symm⟩
  · rw [Array.size_push] at hk
    by_cases e : k = d.size
    · subst e
      have : (d.push x)[d.size]! = x := by simp
      rw [this]
      simp
    · have hk' : k < d.size := by omega
      have e1 : (d.push x)[k]! = d[k]! := by simp [hk', Array.getElem_push, show k < d.size + 1 by omega]
      have hne : d[k]!.1 ≠ x.1 := fun e => by
        rw [← Bool.not_eq_true, hasId_iff] at hx
        exact hx ⟨d[k]!, (mem_get d).2 ⟨k, hk', rfl⟩, e⟩
      rw [e1]
      show (if d[k]!.1 = x.1 then some (d.size : Int) else plc d d[k]!.1) = some (k : Int)
      rw [if_neg hne, plc_at hd hk']
  · rw [Array.size_push]
    replace hv : (if k = x.1 then some (d.size : Int) else plc d k) = some v := hv
    split at hv
    · rename_i e
      exact ⟨d.size, by omega, by simp [e]⟩
    · obtain ⟨k', hk', _, rfl⟩ := plc_some hv
      exact ⟨k', by omega, by simp [hk', Array.getElem_push, show k' < d.size + 1 by omega]⟩
theorem ownBlock_slice2 (p : Option Addr) (n c : Nat) : Value.ownBlock (.slice p n c) = p.map (·.block) := by cases p <;> rfl
theorem Rec.setS {w : World} {q : Nat} {p : Option Addr} {n c : Nat} {m : Option Nat} (h : Rec w q p n c m) (p' : Option Addr) (n' c' : Nat) : Rec (w.setCell ⟨q, 0, none⟩ (.slice p' n' c')) q p' n' c' m := by
  have := heap_setCell_same w q 0 _ _ (.slice p' n' c') h
  exact this
theorem Rec.setM {w : World} {q : Nat} {p : Option Addr} {n c : Nat} {m : Option Nat} (h : Rec w q p n c m) (m' : Option Nat) : Rec (w.setCell ⟨q, 1, none⟩ (.map m')) q p n c m' := by
  have := heap_setCell_same w q 1 _ _ (.map m') h
  exact this
/-- A slice of one item, in new memory. -/
def One (x : It) (N : Nat) (v : Value) (w : World) : Prop := ∃ B, v = .slice (some ⟨B, 0, none⟩) 1 1 ∧ N ≤ B ∧ RdI w (some ⟨B, 0, none⟩) 1 [x]
theorem One.grew {x : It} {N : Nat} {v : Value} {w w' : World} (h : One x N v w) (hg : Grew w w') : One x N v w' := by
  obtain ⟨B, h1, h2, h3⟩ := h
  exact ⟨B, h1, h2, h3.kept hg⟩
theorem One.made (x : It) {N : Nat} (w : World) (hN : N ≤ w.heap.size) : One x N (.slice (some ⟨w.heap.size, 0, none⟩) 1 1) (w.alloc (.cells #[.int .i64 x.1, .int .i64 x.2] 32)) :=
  ⟨_, rfl, hN, RdI.made w [x] 1 _ _ _ rfl rfl (by omega)⟩
theorem infoI : (Try.prog.info? 32).map (fun i => (i.zero, i.size, i.bytes)) = some (some (itv (0, 0)), 2, 16) := by kernel_rfl
section
variable {dst : Option Tmp} {ty : TypeId} {pos : String} {after : Array Edge} {g : Option (Nat × Bool)} {a : Act} {w : World} {T : Value → World → Prop}
theorem runs_bsI {y : Nat} {x : It} (hx : a.eval (.tmp y) = itv x) (h : T (.slice (some ⟨w.heap.size, 0, none⟩) 1 1) (w.alloc (.cells #[.int .i64 x.1, .int .i64 x.2] 32))) :
    Runs Try.prog ⟨dst, .buildSlice 39 1 #[(0, .tmp y)], ty, pos, after, g⟩ a w T := by
  rw [slot_eval, ← slot_get] at hx
  refine Runs.value (v := .slice (some ⟨w.heap.size, 0, none⟩) 1 1) (w' := w.alloc (.cells #[.int .i64 x.1, .int .i64 x.2] 32)) ?_ h
  simp only [execOp]
  go_simp
theorem runs_appendI {s y : Nat} {p p2 : Option Addr} {n c n2 c2 base : Nat} {xs ys : List It} (hs : a.eval (.tmp s) = .slice p n c) (hy : a.eval (.tmp y) = .slice p2 n2 c2) (hO : OwI w base 32 (.slice p n c) xs) (hR : RdI w p2 c2 ys)
    (hl : ys.length = n2) (hsz : xs.length + ys.length ≤ 2000000) (hb : base ≤ w.heap.size)
    (h : ∀ p' c' w', OwI w' base 32 (.slice p' (n + n2) c') (xs ++ ys) → w.grownBy w' (Value.ownBlock (.slice p n c)) → (p'.map (·.block) = p.map (·.block) ∨ p'.map (·.block) = some w.heap.size) → T (.slice p' (n + n2) c') w') :
    Runs Try.prog ⟨dst, .call { callee := .builtin .append, args := #[.tmp s, .tmp y], argTypes := #[39, 39] }, ty, pos, after, g⟩ a w T := by
  obtain ⟨v', w', hrun, h2, _, h4, h5⟩ := run_append_its (P := Try.prog) 39 ty base 32 (itv (0, 0)) 16 Try.underlying39 infoI rfl (.slice p n c) xs hO p2 n2 c2 ys hl hR (by omega) (by omega) hb
  obtain ⟨hn, _⟩ := hO.rd
  obtain ⟨p', c', rfl, _, _⟩ := h2.parts
  rw [List.length_append, ← hn, hl] at h2 hrun h5
  rw [ownBlock_slice2, ownBlock_slice2] at h5
  refine Runs.value (v := .slice p' (n + n2) c') (w' := w') ?_ (h p' c' w' h2 h4 h5)
  simp [execOp, resolve, invoke, builtin, hs, hy, hrun, Result.andThen]
theorem runs_stoS {y z q : Nat} {p : Option Addr} {n c : Nat} {u : Value} (hx : a.eval (.tmp y) = .pointer (some ⟨q, 0, none⟩)) (hz : a.eval (.tmp z) = .slice p n c) (hc : w.cell? ⟨q, 0, none⟩ = some u) (hf : w.frozen? ⟨q, 0, none⟩ = false) (h : T undef (w.setCell ⟨q, 0, none⟩ (.slice p n c))) :
    Runs Try.prog ⟨dst, .store 39 (.tmp y) (.tmp z), ty, pos, after, g⟩ a w T := by
  rw [slot_eval, ← slot_get] at hx hz
  refine Runs.skip (w' := w.setCell ⟨q, 0, none⟩ (.slice p n c)) ?_ h
  simp only [execOp]
  go_simp
end
section
variable {P : Program} {id : Nat} {ops : Array Oper} {Q : Exit → Act → World → Prop} {a0 : Act} {w0 : World}
theorem wp_grew_free (f x d : Nat) (v : Value) (n : Nat) (sl : List (Option Nat)) (D : List Bool) (ps : List (Value → World → Prop)) (hm : P.follows .mixedOrders = true) (hok : regionOkN ops n sl D = true) (htl : (decide (n ≤ ops.size) && tailOkF ops n [f]) = true) (hD : D.length = a0.tmps.size)
    (hf : (match ops[f]? with | some o => (match o.op with | .move (.tmp y) => decide (y = x) | _ => false) && o.guard.isNone && (o.dst == some d) && o.after.isEmpty | none => false) = true) (hns : Region.noSelect ops = true)
    (hfree : Region.free .any ops (Array.replicate ops.size false) f = true) (hready : (Region.ready .any ops (Array.replicate ops.size false)).contains f = true) (hfn : f < n) (hv : slot a0 x = v) (hQ : ∀ c a w, Q (.panic c) (a.put (some d) v) w → Q (.panic c) a w)
    (hps : Monos ps) (hF0 : postAt ps f v w0.drew)
    (hs : Steps P Grew (postAt ps) sl (mixA D a0) w0.drew 0 (ops.toList.take n)) (hend : ∀ u w, Grew w0.drew w → (∀ i, i < n → postAt ps i (uval sl u i) w) → wpAny P .any ops Q (ops.size - n) (listedN n ops.size) (mixA D a0 u) w) : (Code.region id ops true).wp P Q a0 w0 :=
  wp_region_free f x d v n sl D Grew (postAt ps) hm hok htl hD hf hns hfree hready hfn hv hQ Grew.refl Grew.trans hps.at hF0 hs hend
end
set_option maxHeartbeats 4000000 in
theorem hpush_any (q : Nat) (d : Array It) (x : It) (p : Option Addr) (c : Nat) (m : Option Nat) (w : World) (h : QueM w q d p c m) (hx : hasId x.1 d.toList = false) (hi : In64 x.1) (hsz : d.size ≤ 1000000) :
    Calls Try.prog 84 #[.pointer (some ⟨q, 0, none⟩), .iface 32 (itv x)] w fun e w' => e = .returned (.tuple #[]) ∧ Que w' q (d.push x) ∧ Off w.heap.size q w w' := by
  obtain ⟨N, eN0⟩ : ∃ N, N = w.heap.size := ⟨_, rfl⟩
  have eN := Lib.hid eN0
  clear eN0
  have hpl := plc_push h.ids hx
  have hids' := Lib.hid hpl.1
  have hplc := Lib.hid hpl.2
  have hin := Lib.hid hi
  have hin' : Hid (∀ k, k < (d.push x).size → In64 (d.push x)[k]!.1) := Lib.hid fun k hk => by
    rw [Array.size_push] at hk
    by_cases e : k = d.size
    · subst e; simpa using hi
    · have hk' : k < d.size := by omega
      have e1 : (d.push x)[k]! = d[k]! := by simp [hk', Array.getElem_push, show k < d.size + 1 by omega]
      rw [e1]; exact h.in64 k hk'
  have hnone : Hid ((plc d x.1).isSome = false) := Lib.hid (by rw [plc_isSome]; exact hx)
  have qT : ∀ (w : World) (r : Option Nat), (binOp .eql 61 (.map r) (.map none)).run Try.prog w = .ok (.bool r.isNone) w := fun w r => run_eql_map_nil w _ _ _ r Try.underlying61
  have hmm := @run_makeMap Try.prog
  have hta : ∀ w, (Instr.typeAssert (.iface 32 (itv x)) 20 32 false).run Try.prog w = .ok (itv x) w := fun _ => by kernel_rfl
  have hrec := h.record
  obtain ⟨c0, c1, fr⟩ := hrec.cells
  have hown := h.own
  have hqlt := hrec.lt
  have f1 := fr 1
  rcases h.map with ⟨rfl, hd0⟩ | ⟨b, rfl, hqb, hP0⟩
  · have fin : Hid (∀ (p' : Option Addr) (c' : Nat) (w' : World), Rec w' q p' (d.size + 1) c' (some (w.heap.size + 1)) → Chg w w' (fun k => k = q ∨ p.map (·.block) = some k ∨ k = w.heap.size + 1) → (p'.map (·.block) = p.map (·.block) ∨ ∀ k, p'.map (·.block) = some k → w.heap.size ≤ k) → Off w.heap.size q w w') := Lib.hid fun p' c' w' hr hc hp =>
      Off.of_rec hrec hr ⟨hc.os, hc.tape, hc.output, hc.size, fun k hk hs => hc.block k hk fun h' => hs (h'.imp id fun h' => h'.elim .inl fun e => by omega)⟩ hp (.inr fun k hk => by have := Option.some.inj hk; omega)
    have hpp := Lib.hid hown.place
    have HH := Lib.hid h
    have Hd0 := Lib.hid hd0
    clear hpl fr hd0 h hx hi
    go_enter Try.func84, Try.ntmps84
    go_wp2
    clear c0 c1 f1 qT hmm hta
    have g1 : Grew (w.setCell ⟨q, 1, none⟩ (.map (some (w.heap.size + 1)))) (((w.setCell ⟨q, 1, none⟩ (.map (some (w.heap.size + 1)))).alloc (.cells #[.int .i64 x.1, .int .i64 x.2] 32)).alloc (.map #[] 0)) := ((Grew.refl _).alloc _).alloc _
    have hR1 : Rec (w.setCell ⟨q, 1, none⟩ (.map (some (w.heap.size + 1)))) q p d.size c (some (w.heap.size + 1)) := HH.out.record.setM _
    have hR : Rec (((w.setCell ⟨q, 1, none⟩ (.map (some (w.heap.size + 1)))).alloc (.cells #[.int .i64 x.1, .int .i64 x.2] 32)).alloc (.map #[] 0)) q p d.size c (some (w.heap.size + 1)) := hR1.keep (g1.block q hR1.lt)
    have hO : OwI (((w.setCell ⟨q, 1, none⟩ (.map (some (w.heap.size + 1)))).alloc (.cells #[.int .i64 x.1, .int .i64 x.2] 32)).alloc (.map #[] 0)) (q + 1) 32 (.slice p d.size c) d.toList := OwI.kept (hown.keep fun a ha _ => heap_setCell_other _ ⟨q, 1, none⟩ a.block _ (by have := (hpp.out a ha).1; simp; omega)) g1
    have hP : MapP (((w.setCell ⟨q, 1, none⟩ (.map (some (w.heap.size + 1)))).alloc (.cells #[.int .i64 x.1, .int .i64 x.2] 32)).alloc (.map #[] 0)) (w.heap.size + 1) d.size (plc d) := by
      have := MapG.made (P := Try.prog) (k := 3) (E := elmInt Try.underlying3 zero_int) ((w.setCell ⟨q, 1, none⟩ (.map (some (w.heap.size + 1)))).alloc (.cells #[.int .i64 x.1, .int .i64 x.2] 32))
      have e1 : ((w.setCell ⟨q, 1, none⟩ (.map (some (w.heap.size + 1)))).alloc (.cells #[.int .i64 x.1, .int .i64 x.2] 32)).heap.size = w.heap.size + 1 := by simp
      rw [e1] at this
      have e2 : d.size = 0 := by rw [Hd0.out]; rfl
      have e3 : plc d = fun _ => none := by funext k; exact plc_none (by rw [Hd0.out]; rfl)
      rw [e2, e3]
      exact this
    have hB : Bx w.heap.size 0 x (((w.setCell ⟨q, 1, none⟩ (.map (some (w.heap.size + 1)))).alloc (.cells #[.int .i64 x.1, .int .i64 x.2] 32)).alloc (.map #[] 0)) := by
      have hne : q ≠ w.heap.size := by omega
      exact ⟨by go_simp, by go_simp⟩
    have hC : Hid (Chg w (((w.setCell ⟨q, 1, none⟩ (.map (some (w.heap.size + 1)))).alloc (.cells #[.int .i64 x.1, .int .i64 x.2] 32)).alloc (.map #[] 0)) (fun k => k = q)) := Lib.hid ((Chg.set w ⟨q, 1, none⟩ _).trans (Chg.of_grew g1 _))
    have hab : Hid (∀ a, p = some a → a.block ≠ w.heap.size + 1) := Lib.hid fun a ha => by have := (hpp.out a ha).2; omega
    have hSnb : Hid (w.heap.size ≠ w.heap.size + 1) := Lib.hid (by omega)
    have hqb : q < w.heap.size + 1 := by omega
    generalize hb : w.heap.size + 1 = b at hR hO hP hB hC hab hSnb hqb fin ⊢
    clear g1 hR1
    generalize World.alloc (World.alloc (World.setCell w _ _) _) _ = W at hR hO hP hB hC ⊢
    clear hb HH Hd0 hown hrec
    go_wp2_with fail
    have hS : Cel q 0 (.slice p d.size c) W.drew := ⟨(Rec.cells hR).1⟩
    have hM : Cel q 1 (.map (some b)) W.drew := ⟨(Rec.cells hR).2.1⟩
    have hB0 : Cel w.heap.size 0 (.int .i64 x.1) W.drew := ⟨hB.c0⟩
    refine wp_still_tail 11 [some 16, some 17, some 18, some 19, some 20, some 21, some 22, some 23, some 24, some 25, some 26] [false, false, false, false, false, false, false, false, false, false, false, false, false, false, false, false, true, true, true, true, true, true, true, true, true, true, true, false, false, false, false, false, false, false, false, false, false] [fun v _ => v = .pointer (some ⟨q, 0, none⟩), fun v _ => v = .pointer (some ⟨q, 0, none⟩), fun v _ => v = .pointer (some ⟨q, 1, none⟩), fun v _ => v = .map (some b), fun v _ => v = .pointer (some ⟨w.heap.size, 0, none⟩), fun v _ => v = .int .i64 (x.1), fun v _ => v = .pointer (some ⟨q, 0, none⟩), fun v _ => v = .pointer (some ⟨q, 0, none⟩), fun v _ => v = .pointer (some ⟨q, 0, none⟩), fun v _ => v = .slice p d.size c, fun v _ => v = .int .i64 ((d.size : Nat) : Int)] (by kernel_rfl) (by kernel_rfl) (by kernel_rfl) rfl ⟨?_, ?_, ?_, ?_, ?_, ?_, ?_, ?_, ?_, ?_, ?_, trivial⟩ ?_
    · intro u w hR hd; exact runs_mv (ev rfl) ⟨rfl, rfl⟩
    · intro u w hR hd; exact runs_nil (ev (hd.1 rfl)) ⟨rfl, rfl⟩
    · intro u w hR hd; exact runs_fld63_1 (ev (hd.1 rfl)) ⟨rfl, rfl⟩
    · intro u w hR hd; exact runs_ld61 (ev (hd.1 rfl)) (hM.kept hR) ⟨rfl, rfl⟩
    · intro u w hR hd; exact runs_fld32_0 (ev rfl) ⟨rfl, rfl⟩
    · intro u w hR hd; exact runs_ld3 (ev (hd.1 rfl)) (hB0.kept hR) ⟨rfl, rfl⟩
    · intro u w hR hd; exact runs_mv (ev rfl) ⟨rfl, rfl⟩
    · intro u w hR hd; exact runs_nil (ev (hd.1 rfl)) ⟨rfl, rfl⟩
    · intro u w hR hd; exact runs_fld63_0 (ev (hd.1 rfl)) ⟨rfl, rfl⟩
    · intro u w hR hd; exact runs_ld39 (ev (hd.1 rfl)) (hS.kept hR) ⟨rfl, rfl⟩
    · intro u w hR hd; exact runs_len39 (ev (hd.1 rfl)) ⟨rfl, rfl⟩
    · intro uu h
      refine wpAny_one (i := 11) none (by kernel_rfl) rfl rfl rfl (runs_mapupP (ev (h 3 (by decide))) (ev (h 5 (by decide))) (ev (h 10 (by decide))) (show MapP W.drew b d.size (plc d) from hP) (by unfold maxLen; omega) hin.out (by unfold In64; omega) fun w2 M2 T2 => ?_)
      refine wpAny_done (by kernel_rfl) ?_ _
      rw [hnone.out, if_neg (by simp)] at M2
      rw [← hplc.out] at M2
      have R2 : Rec w2 q p d.size c (some b) := Rec.turned (w := W.drew) hR T2 (by omega)
      have O2 : OwI w2 (q + 1) 32 (.slice p d.size c) d.toList := OwI.keep (w := W.drew) hO fun a ha _ => mapTurned_other T2 a.block (hab.out a ha)
      have C2 : Chg w w2 (fun k => k = q ∨ p.map (·.block) = some k ∨ k = b) := (hC.out.mono fun k hk => Or.inl hk).turn (Grew.drew W) T2 (.inr (.inr rfl))
      have hSb : w.heap.size < W.heap.size := World.block_lt_of_cell? _ _ hB.c0
      have B2 : Bx w.heap.size 0 x w2 := by
        have e := mapTurned_other T2 w.heap.size hSnb.out
        exact ⟨(World.cell?_of_block (w := W.drew) (w' := w2) (a := ⟨w.heap.size, 0, none⟩) e).trans hB.c0, (World.cell?_of_block (w := W.drew) (w' := w2) (a := ⟨w.heap.size, 0 + 1, none⟩) e).trans hB.c1⟩
      have hN : N ≤ w2.heap.size := by rw [eN.out]; exact C2.size
      clear hS hM hB0 hR hO hP hB hSb T2
      simp only [Act.put, mixA, mixL, cond_true, cond_false]
      go_wp2_with fail
      replace B2 := B2.grew (Grew.drew w2)
      have hB := B2
      have hS : Cel q 0 (.slice p d.size c) w2.drew := ⟨(Rec.cells R2).1⟩
      replace hN : N ≤ w2.drew.heap.size := hN
      refine wp_grew_free 0 0 27 (.pointer (some ⟨q, 0, none⟩)) 7 [some 27, some 28, some 29, some 30, some 31, some 32, some 33] [false, false, false, false, false, false, false, false, false, false, false, false, false, false, false, false, false, false, false, false, false, false, false, false, false, false, false, true, true, true, true, true, true, true, false, false, false] [fun v _ => v = .pointer (some ⟨q, 0, none⟩), fun v _ => v = .pointer (some ⟨q, 0, none⟩), fun v _ => v = .pointer (some ⟨q, 0, none⟩), fun v _ => v = .pointer (some ⟨q, 0, none⟩), fun v _ => v = .slice p d.size c, fun v _ => v = itv (x), fun v w => One x N v w] (by kernel_rfl) (by kernel_rfl) (by kernel_rfl) rfl (by kernel_rfl) (by kernel_rfl) (by kernel_rfl) (by kernel_rfl) (by decide) rfl (fun _ _ _ h => h) ?_ rfl ⟨?_, ?_, ?_, ?_, ?_, ?_, ?_, trivial⟩ ?_
      · exact ⟨fun _ _ _ _ h => h, fun _ _ _ _ h => h, fun _ _ _ _ h => h, fun _ _ _ _ h => h, fun _ _ _ _ h => h, fun _ _ _ _ h => h, fun v w w1 hg h => h.grew hg, trivial⟩
      · intro u w hR hd; exact runs_mv (ev rfl) ⟨Grew.refl _, rfl⟩
      · intro u w hR hd; exact runs_mv (ev rfl) ⟨Grew.refl _, rfl⟩
      · intro u w hR hd; exact runs_nil (ev (hd.1 rfl)) ⟨Grew.refl _, rfl⟩
      · intro u w hR hd; exact runs_fld63_0 (ev (hd.1 rfl)) ⟨Grew.refl _, rfl⟩
      · intro u w hR hd; exact runs_ld39 (ev (hd.1 rfl)) (hS.kept hR) ⟨Grew.refl _, rfl⟩
      · intro u w hR hd; exact runs_bx32 (ev rfl) (hB.kept hR) ⟨Grew.refl _, rfl⟩
      · intro u w hR hd; exact runs_bsI (ev (hd.1 rfl)) ⟨(Grew.refl _).alloc _, One.made x _ (Nat.le_trans hN hR.size)⟩
      · intro uu w3 hR3 h
        obtain ⟨B, hv, hB3, hone⟩ := h 6 (by decide)
        have O3 : OwI w3 (q + 1) 32 (.slice p d.size c) d.toList := OwI.kept (w := w2.drew) O2 hR3
        refine wpAny_one (i := 7) (some 34) (by kernel_rfl) rfl rfl rfl (runs_appendI (ev (h 4 (by decide))) (ev hv) O3 hone (by simp) (by simp; omega) (by have := hR3.size; have := Rec.lt R2; have : w2.drew.heap.size = w2.heap.size := rfl; omega) fun p' c' w4 O4 G4 L4 => ?_)
        refine wpAny_one (i := 8) (some 35) (by kernel_rfl) rfl rfl rfl (runs_nil (ev (h 0 (by decide))) ?_)
        refine wpAny_one (i := 9) (some 36) (by kernel_rfl) rfl rfl rfl (runs_fld63_0 (ev rfl) ?_)
        have R3 : Rec w3 q p d.size c (some b) := Rec.keep (w := w2.drew) R2 (hR3.block q (Rec.lt R2))
        have hpq : ∀ a, p = some a → a.block ≠ q := fun a ha e => by have := (O3.place a ha).1; omega
        have R4 : Rec w4 q p d.size c (some b) := R3.keep (G4.block q (Rec.lt R3) (fun e => by
          cases p with
          | none => cases e
          | some a => exact hpq a rfl (Option.some.inj e).symm))
        refine wpAny_one (i := 10) none (by kernel_rfl) rfl rfl rfl (runs_stoS (ev rfl) (ev rfl) (R4.cells.1) (R4.cells.2.2 0) ?_)
        refine wpAny_done (by kernel_rfl) ?_ _
        have R5 := R4.setS p' (d.size + 1) c'
        have M3 : MapP w3 b (d.size + 1) (plc (d.push x)) := MapG.keep (w := w2.drew) M2 (hR3.block b (MapG.lt M2))
        have M4 : MapP w4 b (d.size + 1) (plc (d.push x)) := MapG.keep M3 (G4.block b (MapG.lt M3) (fun e => by
          cases p with
          | none => cases e
          | some a => exact hab.out a rfl (Option.some.inj e).symm))
        have hbq : q < b := hqb
        have M5 : MapP (w4.setCell ⟨q, 0, none⟩ (.slice p' (d.size + 1) c')) b (d.size + 1) (plc (d.push x)) := MapG.keep M4 (heap_setCell_other w4 ⟨q, 0, none⟩ b _ (by simp; omega))
        have O5 : OwI (w4.setCell ⟨q, 0, none⟩ (.slice p' (d.size + 1) c')) (q + 1) 32 (.slice p' (d.size + 1) c') (d.push x).toList := by
          rw [Array.toList_push]
          exact OwI.keep O4 fun a ha _ => heap_setCell_other w4 ⟨q, 0, none⟩ a.block _ (by have := (O4.place a ha).1; simp; omega)
        have C5 : Chg w (w4.setCell ⟨q, 0, none⟩ (.slice p' (d.size + 1) c')) (fun k => k = q ∨ p.map (·.block) = some k ∨ k = b) :=
          (((C2.trans (Chg.of_grew (Grew.drew w2) _)).trans (Chg.of_grew hR3 _)).trans ((Chg.of_grown G4).mono fun k hk => .inr (.inl (by rw [← ownBlock_slice2 p d.size c]; exact hk)))).trans ((Chg.set w4 ⟨q, 0, none⟩ _).mono fun k hk => .inl hk)
        simp only [Act.put, mixA, mixL, cond_true, cond_false, List.setIfInBounds_toArray, List.set_cons_succ, List.set_cons_zero]
        go_end0
        refine ⟨rfl, ⟨p', c', some b, ⟨by rw [Array.size_push]; exact R5, by rw [Array.size_push]; exact O5, .inr ⟨b, rfl, hbq, by rw [Array.size_push]; exact M5⟩, hids'.out, hin'.out⟩⟩, ?_⟩
        have hNw : w.heap.size ≤ w3.heap.size := Nat.le_trans C2.size hR3.size
        refine fin.out p' c' _ R5 C5 (L4.imp id fun h4 k hk => ?_)
        rw [h4] at hk
        have := Option.some.inj hk
        omega
  · have fin : Hid (∀ (p' : Option Addr) (c' : Nat) (w' : World), Rec w' q p' (d.size + 1) c' (some b) → Chg w w' (fun k => k = q ∨ p.map (·.block) = some k ∨ k = b) → (p'.map (·.block) = p.map (·.block) ∨ ∀ k, p'.map (·.block) = some k → w.heap.size ≤ k) → Off w.heap.size q w w') := Lib.hid fun p' c' w' hr hc hp =>
      Off.of_rec hrec hr (hc.mono fun k hk => hk.imp id fun h' => h'.imp id fun e => by rw [e]) hp (.inl rfl)
    have hab : Hid (∀ a, p = some a → a.block ≠ b) := Lib.hid fun a ha e => by
      obtain ⟨es, clock, hm⟩ := MapG.ismap hP0
      rcases hown.parts with ⟨p', c', hv, _, ⟨hp, _⟩ | ⟨g', cur, hp, _, hg, _⟩⟩
      · simp only [Value.slice.injEq] at hv
        rw [← hv.1, ha] at hp
        cases hp
      · simp only [Value.slice.injEq] at hv
        rw [← hv.1, ha] at hp
        rw [← e, Option.some.inj hp, hg] at hm
        cases hm
    have hSnb : Hid (w.heap.size ≠ b) := Lib.hid (by have := MapG.lt hP0; omega)
    have HH := Lib.hid h
    have HP := Lib.hid hP0
    clear hpl fr h hx hi hP0
    go_enter Try.func84, Try.ntmps84
    go_wp2
    clear c0 c1 f1 qT hmm hta
    have g1 : Grew w (w.alloc (.cells #[.int .i64 x.1, .int .i64 x.2] 32)) := (Grew.refl w).alloc _
    have hR : Rec (w.alloc (.cells #[.int .i64 x.1, .int .i64 x.2] 32)) q p d.size c (some b) := HH.out.record.keep (g1.block q hqlt)
    have hO : OwI (w.alloc (.cells #[.int .i64 x.1, .int .i64 x.2] 32)) (q + 1) 32 (.slice p d.size c) d.toList := hown.kept g1
    have hP : MapP (w.alloc (.cells #[.int .i64 x.1, .int .i64 x.2] 32)) b d.size (plc d) := MapG.keep HP.out (g1.block b (MapG.lt HP.out))
    have hB : Bx w.heap.size 0 x (w.alloc (.cells #[.int .i64 x.1, .int .i64 x.2] 32)) := by
      exact ⟨by go_simp, by go_simp⟩
    have hC : Hid (Chg w (w.alloc (.cells #[.int .i64 x.1, .int .i64 x.2] 32)) (fun k => k = q)) := Lib.hid (Chg.of_grew g1 _)
    generalize World.alloc _ _ = W at hR hO hP hB hC ⊢
    clear g1 HH HP hown hrec
    go_wp2_with fail
    have hS : Cel q 0 (.slice p d.size c) W.drew := ⟨(Rec.cells hR).1⟩
    have hM : Cel q 1 (.map (some b)) W.drew := ⟨(Rec.cells hR).2.1⟩
    have hB0 : Cel w.heap.size 0 (.int .i64 x.1) W.drew := ⟨hB.c0⟩
    refine wp_still_tail 11 [some 16, some 17, some 18, some 19, some 20, some 21, some 22, some 23, some 24, some 25, some 26] [false, false, false, false, false, false, false, false, false, false, false, false, false, false, false, false, true, true, true, true, true, true, true, true, true, true, true, false, false, false, false, false, false, false, false, false, false] [fun v _ => v = .pointer (some ⟨q, 0, none⟩), fun v _ => v = .pointer (some ⟨q, 0, none⟩), fun v _ => v = .pointer (some ⟨q, 1, none⟩), fun v _ => v = .map (some b), fun v _ => v = .pointer (some ⟨w.heap.size, 0, none⟩), fun v _ => v = .int .i64 (x.1), fun v _ => v = .pointer (some ⟨q, 0, none⟩), fun v _ => v = .pointer (some ⟨q, 0, none⟩), fun v _ => v = .pointer (some ⟨q, 0, none⟩), fun v _ => v = .slice p d.size c, fun v _ => v = .int .i64 ((d.size : Nat) : Int)] (by kernel_rfl) (by kernel_rfl) (by kernel_rfl) rfl ⟨?_, ?_, ?_, ?_, ?_, ?_, ?_, ?_, ?_, ?_, ?_, trivial⟩ ?_
    · intro u w hR hd; exact runs_mv (ev rfl) ⟨rfl, rfl⟩
    · intro u w hR hd; exact runs_nil (ev (hd.1 rfl)) ⟨rfl, rfl⟩
    · intro u w hR hd; exact runs_fld63_1 (ev (hd.1 rfl)) ⟨rfl, rfl⟩
    · intro u w hR hd; exact runs_ld61 (ev (hd.1 rfl)) (hM.kept hR) ⟨rfl, rfl⟩
    · intro u w hR hd; exact runs_fld32_0 (ev rfl) ⟨rfl, rfl⟩
    · intro u w hR hd; exact runs_ld3 (ev (hd.1 rfl)) (hB0.kept hR) ⟨rfl, rfl⟩
    · intro u w hR hd; exact runs_mv (ev rfl) ⟨rfl, rfl⟩
    · intro u w hR hd; exact runs_nil (ev (hd.1 rfl)) ⟨rfl, rfl⟩
    · intro u w hR hd; exact runs_fld63_0 (ev (hd.1 rfl)) ⟨rfl, rfl⟩
    · intro u w hR hd; exact runs_ld39 (ev (hd.1 rfl)) (hS.kept hR) ⟨rfl, rfl⟩
    · intro u w hR hd; exact runs_len39 (ev (hd.1 rfl)) ⟨rfl, rfl⟩
    · intro uu h
      refine wpAny_one (i := 11) none (by kernel_rfl) rfl rfl rfl (runs_mapupP (ev (h 3 (by decide))) (ev (h 5 (by decide))) (ev (h 10 (by decide))) (show MapP W.drew b d.size (plc d) from hP) (by unfold maxLen; omega) hin.out (by unfold In64; omega) fun w2 M2 T2 => ?_)
      refine wpAny_done (by kernel_rfl) ?_ _
      rw [hnone.out, if_neg (by simp)] at M2
      rw [← hplc.out] at M2
      have R2 : Rec w2 q p d.size c (some b) := Rec.turned (w := W.drew) hR T2 (by omega)
      have O2 : OwI w2 (q + 1) 32 (.slice p d.size c) d.toList := OwI.keep (w := W.drew) hO fun a ha _ => mapTurned_other T2 a.block (hab.out a ha)
      have C2 : Chg w w2 (fun k => k = q ∨ p.map (·.block) = some k ∨ k = b) := (hC.out.mono fun k hk => Or.inl hk).turn (Grew.drew W) T2 (.inr (.inr rfl))
      have hSb : w.heap.size < W.heap.size := World.block_lt_of_cell? _ _ hB.c0
      have B2 : Bx w.heap.size 0 x w2 := by
        have e := mapTurned_other T2 w.heap.size hSnb.out
        exact ⟨(World.cell?_of_block (w := W.drew) (w' := w2) (a := ⟨w.heap.size, 0, none⟩) e).trans hB.c0, (World.cell?_of_block (w := W.drew) (w' := w2) (a := ⟨w.heap.size, 0 + 1, none⟩) e).trans hB.c1⟩
      have hN : N ≤ w2.heap.size := by rw [eN.out]; exact C2.size
      clear hS hM hB0 hR hO hP hB hSb T2
      simp only [Act.put, mixA, mixL, cond_true, cond_false]
      go_wp2_with fail
      replace B2 := B2.grew (Grew.drew w2)
      have hB := B2
      have hS : Cel q 0 (.slice p d.size c) w2.drew := ⟨(Rec.cells R2).1⟩
      replace hN : N ≤ w2.drew.heap.size := hN
      refine wp_grew_free 0 0 27 (.pointer (some ⟨q, 0, none⟩)) 7 [some 27, some 28, some 29, some 30, some 31, some 32, some 33] [false, false, false, false, false, false, false, false, false, false, false, false, false, false, false, false, false, false, false, false, false, false, false, false, false, false, false, true, true, true, true, true, true, true, false, false, false] [fun v _ => v = .pointer (some ⟨q, 0, none⟩), fun v _ => v = .pointer (some ⟨q, 0, none⟩), fun v _ => v = .pointer (some ⟨q, 0, none⟩), fun v _ => v = .pointer (some ⟨q, 0, none⟩), fun v _ => v = .slice p d.size c, fun v _ => v = itv (x), fun v w => One x N v w] (by kernel_rfl) (by kernel_rfl) (by kernel_rfl) rfl (by kernel_rfl) (by kernel_rfl) (by kernel_rfl) (by kernel_rfl) (by decide) rfl (fun _ _ _ h => h) ?_ rfl ⟨?_, ?_, ?_, ?_, ?_, ?_, ?_, trivial⟩ ?_
      · exact ⟨fun _ _ _ _ h => h, fun _ _ _ _ h => h, fun _ _ _ _ h => h, fun _ _ _ _ h => h, fun _ _ _ _ h => h, fun _ _ _ _ h => h, fun v w w1 hg h => h.grew hg, trivial⟩
      · intro u w hR hd; exact runs_mv (ev rfl) ⟨Grew.refl _, rfl⟩
      · intro u w hR hd; exact runs_mv (ev rfl) ⟨Grew.refl _, rfl⟩
      · intro u w hR hd; exact runs_nil (ev (hd.1 rfl)) ⟨Grew.refl _, rfl⟩
      · intro u w hR hd; exact runs_fld63_0 (ev (hd.1 rfl)) ⟨Grew.refl _, rfl⟩
      · intro u w hR hd; exact runs_ld39 (ev (hd.1 rfl)) (hS.kept hR) ⟨Grew.refl _, rfl⟩
      · intro u w hR hd; exact runs_bx32 (ev rfl) (hB.kept hR) ⟨Grew.refl _, rfl⟩
      · intro u w hR hd; exact runs_bsI (ev (hd.1 rfl)) ⟨(Grew.refl _).alloc _, One.made x _ (Nat.le_trans hN hR.size)⟩
      · intro uu w3 hR3 h
        obtain ⟨B, hv, hB3, hone⟩ := h 6 (by decide)
        have O3 : OwI w3 (q + 1) 32 (.slice p d.size c) d.toList := OwI.kept (w := w2.drew) O2 hR3
        refine wpAny_one (i := 7) (some 34) (by kernel_rfl) rfl rfl rfl (runs_appendI (ev (h 4 (by decide))) (ev hv) O3 hone (by simp) (by simp; omega) (by have := hR3.size; have := Rec.lt R2; have : w2.drew.heap.size = w2.heap.size := rfl; omega) fun p' c' w4 O4 G4 L4 => ?_)
        refine wpAny_one (i := 8) (some 35) (by kernel_rfl) rfl rfl rfl (runs_nil (ev (h 0 (by decide))) ?_)
        refine wpAny_one (i := 9) (some 36) (by kernel_rfl) rfl rfl rfl (runs_fld63_0 (ev rfl) ?_)
        have R3 : Rec w3 q p d.size c (some b) := Rec.keep (w := w2.drew) R2 (hR3.block q (Rec.lt R2))
        have hpq : ∀ a, p = some a → a.block ≠ q := fun a ha e => by have := (O3.place a ha).1; omega
        have R4 : Rec w4 q p d.size c (some b) := R3.keep (G4.block q (Rec.lt R3) (fun e => by
          cases p with
          | none => cases e
          | some a => exact hpq a rfl (Option.some.inj e).symm))
        refine wpAny_one (i := 10) none (by kernel_rfl) rfl rfl rfl (runs_stoS (ev rfl) (ev rfl) (R4.cells.1) (R4.cells.2.2 0) ?_)
        refine wpAny_done (by kernel_rfl) ?_ _
        have R5 := R4.setS p' (d.size + 1) c'
        have M3 : MapP w3 b (d.size + 1) (plc (d.push x)) := MapG.keep (w := w2.drew) M2 (hR3.block b (MapG.lt M2))
        have M4 : MapP w4 b (d.size + 1) (plc (d.push x)) := MapG.keep M3 (G4.block b (MapG.lt M3) (fun e => by
          cases p with
          | none => cases e
          | some a => exact hab.out a rfl (Option.some.inj e).symm))
        have hbq : q < b := hqb
        have M5 : MapP (w4.setCell ⟨q, 0, none⟩ (.slice p' (d.size + 1) c')) b (d.size + 1) (plc (d.push x)) := MapG.keep M4 (heap_setCell_other w4 ⟨q, 0, none⟩ b _ (by simp; omega))
        have O5 : OwI (w4.setCell ⟨q, 0, none⟩ (.slice p' (d.size + 1) c')) (q + 1) 32 (.slice p' (d.size + 1) c') (d.push x).toList := by
          rw [Array.toList_push]
          exact OwI.keep O4 fun a ha _ => heap_setCell_other w4 ⟨q, 0, none⟩ a.block _ (by have := (O4.place a ha).1; simp; omega)
        have C5 : Chg w (w4.setCell ⟨q, 0, none⟩ (.slice p' (d.size + 1) c')) (fun k => k = q ∨ p.map (·.block) = some k ∨ k = b) :=
          (((C2.trans (Chg.of_grew (Grew.drew w2) _)).trans (Chg.of_grew hR3 _)).trans ((Chg.of_grown G4).mono fun k hk => .inr (.inl (by rw [← ownBlock_slice2 p d.size c]; exact hk)))).trans ((Chg.set w4 ⟨q, 0, none⟩ _).mono fun k hk => .inl hk)
        simp only [Act.put, mixA, mixL, cond_true, cond_false, List.setIfInBounds_toArray, List.set_cons_succ, List.set_cons_zero]
        go_end0
        refine ⟨rfl, ⟨p', c', some b, ⟨by rw [Array.size_push]; exact R5, by rw [Array.size_push]; exact O5, .inr ⟨b, rfl, hbq, by rw [Array.size_push]; exact M5⟩, hids'.out, hin'.out⟩⟩, ?_⟩
        have hNw : w.heap.size ≤ w3.heap.size := Nat.le_trans C2.size hR3.size
        refine fin.out p' c' _ R5 C5 (L4.imp id fun h4 k hk => ?_)
        rw [h4] at hk
        have := Option.some.inj hk
        omega
end Go.Proofs.Ytjcoghjkjnhljaa
