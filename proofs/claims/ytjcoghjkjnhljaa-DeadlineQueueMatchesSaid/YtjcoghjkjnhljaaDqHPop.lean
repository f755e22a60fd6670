/-
  LAYER 6 (deadlinequeue): the heap's own Pop.
-/
import Derived.Test.YtjcoghjkjnhljaaDqHPush
namespace Go.Proofs.Ytjcoghjkjnhljaa
open Go Go.RowKit Go.IntWalk Go.Sort
open Go.ChangeShapes Go.WideShapes Go.ChangeAt
set_option maxRecDepth 8000
set_option linter.unusedSimpArgs false

theorem plc_pop {d : Array It} {k : Nat} (hd : Ids d.toList) (hk : d.size = k + 1) : Ids d.pop.toList ∧ plc d.pop = fun i => if i = d[k]!.1 then none else plc d i := by
  have hids : Ids d.pop.toList := by
    rw [Array.toList_pop]
    exact List.Pairwise.sublist (List.dropLast_sublist _) hd
  have hs : d.pop.size = k := by rw [Array.size_pop]; omega
  have hg : ∀ j, j < k → d.pop[j]! = d[j]! := fun j hj => by simp [hs, hj, show j < d.size by omega, Array.getElem_pop]
  refine ⟨hids, (plc_ext hids _ (fun j hj => ?_) (fun i v hv => ?_)).symm⟩
  · have hj' : j < k := by omega
    rw [hg j hj']
    show (if d[j]!.1 = d[k]!.1 then none else plc d d[j]!.1) = some (j : Int)
    rw [if_neg (ids_ne hd (by omega) (by omega) (by omega)), plc_at hd (by omega)]
  · replace hv : (if i = d[k]!.1 then none else plc d i) = some v := hv
    split at hv
    · cases hv
    · rename_i e
      obtain ⟨j, hj, _, rfl⟩ := plc_some hv
      have hjk : j ≠ k := fun e' => e (by rw [e'])
      exact ⟨j, by omega, by rw [hg j (by omega)]⟩
theorem cut_zero (p : Option Addr) (c s : Nat) : (if c = 0 then p else p.map (·.add (0 * s))) = p := by
  split
  · rfl
  · cases p
    · rfl
    · rename_i ad
      obtain ⟨b, o, s⟩ := ad
      simp [Addr.add]
section
variable {P : Program} {w : World} {ops : Array Oper} {rest : List Oper} {o : Oper} {a : Act} {Q : Exit → Act → World → Prop}
/-- 'b[:h]', elements of s cells. -/
theorem wpList_topS (s : Nat) (hg : o.guard = none) (x : Operand) (t : TypeId) (y : Operand) (hop : o.op = Op.slice t x none (some y) none)
    (ht : P.underlying t = some (.slice (P.elem t))) (hs : ∀ w : World, (sizeOf (P.elem t)).run P w = .ok s w)
    (p : Option Addr) (n c : Nat) (hx : a.eval x = .slice p n c) (hcap : n ≤ c) (kh : IntKind) (H : Nat) (hy : a.eval y = .int kh (H : Int)) (hH : H ≤ n)
    (h : wpList P ops Q rest (a.put o.dst (.slice p H c)) w) : wpList P ops Q (o :: rest) a w := by
  have hrun : (Instr.sliceAt t (.slice p n c) none (some (.int kh H)) none).run P w = .ok (.slice p H c) w := by
    rw [run_sliceAt_slice w t _ _ _ _ ht, run_slice_h w t p n c ht kh H (by omega) (by omega), hs]
    simp only [Result.andThen, Int.toNat_natCast]
    unfold sliced
    rw [cut_zero, Nat.sub_zero, Nat.sub_zero]
  refine wpList_plain hg fun K hK => ?_
  unfold Oper.wp
  simp [execOp, hop, hx, hy, hrun, Result.andThen]
  exact hK _ _ h
end
theorem elemQ : Try.prog.elem 39 = 32 := by kernel_rfl
theorem underQ : Try.prog.underlying 39 = some (.slice (Try.prog.elem 39)) := by rw [elemQ]; exact Try.underlying39
theorem sizeQ (w : World) : (sizeOf (Try.prog.elem 39)).run Try.prog w = .ok 2 w := by rw [elemQ]; kernel_rfl
section
variable {dst : Option Tmp} {ty : TypeId} {pos : String} {after : Array Edge} {g : Option (Nat × Bool)} {a : Act} {w : World} {T : Value → World → Prop}
theorem runs_delP {x y : Nat} {b s : Nat} {i : Int} {f : Int → Option Int} (hx : a.eval (.tmp x) = .map (some b)) (hy : a.eval (.tmp y) = .int .i64 i) (hM : MapP w b s f) (hi : In64 i)
    (h : ∀ w', MapP w' b (if (f i).isSome then s - 1 else s) (fun j => if j = i then none else f j) → w.mapTurned w' b → T (.tuple #[]) w') :
    Runs Try.prog ⟨dst, .call { callee := .builtin .delete, args := #[.tmp x, .tmp y], argTypes := #[61, 3] }, ty, pos, after, g⟩ a w T := by
  obtain ⟨w', hrun, h1, h2⟩ := MapG.drop Try.underlying3 Try.underlying61 hM hi ty
  refine Runs.value (v := .tuple #[]) (w' := w') ?_ (h w' h1 h2)
  simp [execOp, resolve, invoke, builtin, hx, hy, hrun, Result.andThen]
end
set_option maxHeartbeats 4000000 in
theorem hpop_any (q k : Nat) (d : Array It) (p : Option Addr) (c : Nat) (m : Option Nat) (w : World) (h : QueM w q d p c m) (hk : d.size = k + 1) (hsz : d.size ≤ 1000000) :
    Calls Try.prog 83 #[.pointer (some ⟨q, 0, none⟩)] w fun e w' => e = .returned (.iface 32 (itv d[k]!)) ∧ Que w' q d.pop ∧ Off w.heap.size q w w' := by
  obtain ⟨g, b, rfl, rfl, l1, l2, l3, hP, hgb⟩ := h.full (by omega)
  have hpl := plc_pop h.ids hk
  have Hpl := Lib.hid hpl
  have hrec := h.record
  have hown := h.own
  have hlen : d.pop.size = k := by rw [Array.size_pop]; omega
  obtain ⟨hxb0, hxb1⟩ := Rd_bx hown k (by omega)
  rw [Nat.zero_add] at hxb0 hxb1
  have hpop : d.toList.take k = d.pop.toList := by
    rw [Array.toList_pop, List.dropLast_eq_take]
    congr 1
    simp [hk]
  have hcap := hown.rd.2.cap
  have hin := Lib.hid (h.in64 k (by omega))
  have hinp : Hid (∀ j, j < d.pop.size → In64 d.pop[j]!.1) := Lib.hid fun j hj => by
    have e : d.pop[j]! = d[j]! := by simp [hlen, show j < k by omega, show j < d.size by omega, Array.getElem_pop]
    rw [e]; exact h.in64 j (by omega)
  have hsome : Hid ((plc d d[k]!.1).isSome = true) := Lib.hid (by rw [plc_at h.ids (by omega)]; rfl)
  generalize hx : d[k]! = x at *
  have Hx := Lib.hid hx
  have hcap' : k + 1 ≤ c := by rw [← hk]; simpa using hcap
  rw [hk] at hrec hown hP
  have hup : OwI w (q + 1) 32 (.slice (some ⟨g, 0, none⟩) k c) d.pop.toList := by
    have := hown.upto k (by simp; omega)
    rwa [hpop] at this
  obtain ⟨c0, c1, fr⟩ := hrec.cells
  have f0 := fr 0
  have Hrec := Lib.hid hrec
  have Hup := Lib.hid hup
  have HP := Lib.hid hP
  have Hlen := Lib.hid hlen
  have hsz' : k + 1 ≤ 1000000 := by omega
  have hqlt : q < w.heap.size := by omega
  clear hpl fr hx hpop hcap h hlen hk hrec hown hup hP hsz
  go_enter Try.func83, Try.ntmps83
  go_wp2_with (with_reducible refine wpList_topS 2 rfl _ _ _ rfl underQ sizeQ (some ⟨g, 0, none⟩) (k + 1) c (by rfl) hcap' .i64 k (by rfl) (Nat.le_succ k) ?_)
  clear c0 c1 f0 hxb0 hxb1
  have hR1 : Rec (w.setCell ⟨q, 0, none⟩ (.slice (some ⟨g, 0, none⟩) k c)) q (some ⟨g, 0, none⟩) k c (some b) := Hrec.out.setS _ _ _
  have g1 : Grew (w.setCell ⟨q, 0, none⟩ (.slice (some ⟨g, 0, none⟩) k c)) ((w.setCell ⟨q, 0, none⟩ (.slice (some ⟨g, 0, none⟩) k c)).alloc (.cells #[.int .i64 x.1, .int .i64 x.2] 32)) := (Grew.refl _).alloc _
  have hR := hR1.keep (g1.block q hR1.lt)
  have hO : OwI ((w.setCell ⟨q, 0, none⟩ (.slice (some ⟨g, 0, none⟩) k c)).alloc (.cells #[.int .i64 x.1, .int .i64 x.2] 32)) (q + 1) 32 (.slice (some ⟨g, 0, none⟩) k c) d.pop.toList :=
    (Hup.out.keep fun a ha _ => heap_setCell_other w ⟨q, 0, none⟩ a.block _ (by obtain rfl := Option.some.inj ha; simp; omega)).kept g1
  have hP1 : MapP (w.setCell ⟨q, 0, none⟩ (.slice (some ⟨g, 0, none⟩) k c)) b (k + 1) (plc d) := MapG.keep HP.out (heap_setCell_other w ⟨q, 0, none⟩ b _ (by simp; omega))
  have hP : MapP ((w.setCell ⟨q, 0, none⟩ (.slice (some ⟨g, 0, none⟩) k c)).alloc (.cells #[.int .i64 x.1, .int .i64 x.2] 32)) b (k + 1) (plc d) := MapG.keep hP1 (g1.block b (MapG.lt hP1))
  have hB : Bx w.heap.size 0 x ((w.setCell ⟨q, 0, none⟩ (.slice (some ⟨g, 0, none⟩) k c)).alloc (.cells #[.int .i64 x.1, .int .i64 x.2] 32)) := ⟨by go_simp, by go_simp⟩
  have hC : Hid (Chg w ((w.setCell ⟨q, 0, none⟩ (.slice (some ⟨g, 0, none⟩) k c)).alloc (.cells #[.int .i64 x.1, .int .i64 x.2] 32)) (fun k' => k' = q)) := Lib.hid ((Chg.set w ⟨q, 0, none⟩ _).trans (Chg.of_grew g1 _))
  have hbS : w.heap.size ≠ b := by have := MapG.lt HP.out; omega
  clear hR1 g1 hP1
  generalize World.alloc (World.setCell w _ _) _ = W at hR hO hP hB hC ⊢
  have hM : Cel q 1 (.map (some b)) W.drew := ⟨(Rec.cells hR).2.1⟩
  have hB0 : Cel w.heap.size 0 (.int .i64 x.1) W.drew := ⟨hB.c0⟩
  refine wp_still_tail 6 [some 27, some 28, some 29, some 30, some 31, some 32] [false, false, false, false, false, false, false, false, false, false, false, false, false, false, false, false, false, false, false, false, false, false, false, false, false, false, false, true, true, true, true, true, true, false, false] [fun v _ => v = .pointer (some ⟨q, 0, none⟩), fun v _ => v = .pointer (some ⟨q, 0, none⟩), fun v _ => v = .pointer (some ⟨q, 1, none⟩), fun v _ => v = .map (some b), fun v _ => v = .pointer (some ⟨w.heap.size, 0, none⟩), fun v _ => v = .int .i64 (x.1)] (by kernel_rfl) (by kernel_rfl) (by kernel_rfl) rfl ⟨?_, ?_, ?_, ?_, ?_, ?_, trivial⟩ ?_
  · intro u w hR hd; exact runs_mv (ev rfl) ⟨rfl, rfl⟩
  · intro u w hR hd; exact runs_nil (ev (hd.1 rfl)) ⟨rfl, rfl⟩
  · intro u w hR hd; exact runs_fld63_1 (ev (hd.1 rfl)) ⟨rfl, rfl⟩
  · intro u w hR hd; exact runs_ld61 (ev (hd.1 rfl)) (hM.kept hR) ⟨rfl, rfl⟩
  · intro u w hR hd; exact runs_fld32_0 (ev rfl) ⟨rfl, rfl⟩
  · intro u w hR hd; exact runs_ld3 (ev (hd.1 rfl)) (hB0.kept hR) ⟨rfl, rfl⟩
  · intro uu h
    refine wpAny_one (i := 6) none (by kernel_rfl) rfl rfl rfl (runs_delP (ev (h 3 (by decide))) (ev (h 5 (by decide))) (show MapP W.drew b (k + 1) (plc d) from hP) hin.out fun w2 M2 T2 => ?_)
    refine wpAny_done (by kernel_rfl) ?_ _
    rw [hsome.out, if_pos rfl, Nat.add_sub_cancel, ← Hpl.out.2] at M2
    have R2 : Rec w2 q (some ⟨g, 0, none⟩) k c (some b) := Rec.turned (w := W.drew) hR T2 (by omega)
    have O2 : OwI w2 (q + 1) 32 (.slice (some ⟨g, 0, none⟩) k c) d.pop.toList := OwI.keep (w := W.drew) hO fun a ha _ => by
      obtain rfl := Option.some.inj ha
      exact mapTurned_other T2 g hgb
    have C2 : Chg w w2 (fun k' => k' = q ∨ (some (⟨g, 0, none⟩ : Addr)).map (·.block) = some k' ∨ some b = some k') := (hC.out.mono fun k hk => Or.inl hk).turn (Grew.drew W) T2 (.inr (.inr rfl))
    have B2 : Bx w.heap.size 0 x w2 := by
      have e := mapTurned_other T2 w.heap.size hbS
      exact ⟨(World.cell?_of_block (w := W.drew) (w' := w2) (a := ⟨w.heap.size, 0, none⟩) e).trans hB.c0, (World.cell?_of_block (w := W.drew) (w' := w2) (a := ⟨w.heap.size, 0 + 1, none⟩) e).trans hB.c1⟩
    obtain ⟨b0, b1⟩ := B2
    rw [Nat.zero_add] at b1
    have off := Lib.hid (Off.of_rec Hrec.out R2 C2 (.inl rfl) (.inl rfl))
    have que : Hid (Que w2 q d.pop) := Lib.hid ⟨some ⟨g, 0, none⟩, c, some b, ⟨by rw [Hlen.out]; exact R2, by rw [Hlen.out]; exact O2, .inr ⟨b, rfl, l3, by rw [Hlen.out]; exact M2⟩, Hpl.out.1, hinp.out⟩⟩
    clear hM hB0 hR hO hP hB T2 R2 O2 C2 M2
    simp only [Act.put, mixA, mixL, cond_true, cond_false]
    go_wp2
    go_ret
    exact ⟨rfl, que.out, off.out⟩
end Go.Proofs.Ytjcoghjkjnhljaa
