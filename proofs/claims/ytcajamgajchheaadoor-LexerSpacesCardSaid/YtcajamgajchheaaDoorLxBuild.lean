/-
  LAYER 15: strings.Builder, made and written by one call.
-/
import Derived.Test.YtcajamgajchheaaDoorLxErrR
import Derived.Lib.Builder
import Derived.Lib.FrozenHead
import Derived.Lib.OthersKept
import Derived.Lib.BufferKept
namespace Go.Proofs.YtcajamgajchheaaDoor
open Go Go.RowKit Go.IntWalk
open Go.Lib (itoa)
set_option linter.unusedSimpArgs false
set_option linter.unusedVariables false
set_option maxRecDepth 8000

abbrev PtrTo (b : Nat) : Value := .pointer (some ⟨b, 0, none⟩)
/-- A builder at b that holds the bytes xs: its row is the call's own (from N on). -/
def Bld (N b : Nat) (xs : List UInt8) (w : World) : Prop :=
  N ≤ b ∧ ∃ p v, (p = .pointer none ∨ p = PtrTo b) ∧ Blk b [p, v] 56 w ∧ Own w N 5 v xs
/-- What a write leaves alone: all that was there before, and every block that is neither the builder nor a row of bytes. -/
def Wrote (N b : Nat) (w w' : World) : Prop := Below N w w' ∧ Lib.OthersKept 5 (some b) w w'
theorem Wrote.refl (N b : Nat) (w : World) : Wrote N b w w := ⟨Below.refl N w, Lib.OthersKept.refl _ _ w⟩
theorem Wrote.trans {N b : Nat} {u v w : World} (h : Wrote N b u v) (h' : Wrote N b v w) : Wrote N b u w := ⟨h.1.trans h'.1, h.2.trans h'.2⟩
theorem Wrote.grew {N b : Nat} {u v w : World} (h : Wrote N b u v) (hg : Grew v w) (hN : N ≤ u.heap.size) : Wrote N b u w :=
  ⟨h.1.trans (hg.mono (Nat.le_trans hN h.1.size)), h.2.below hg⟩
theorem Wrote.of_grew {N b : Nat} {u v : World} (hg : Grew u v) (hN : N ≤ u.heap.size) : Wrote N b u v := (Wrote.refl N b u).grew hg hN
theorem Blk.wrote {N b S : Nat} {vs : List Value} {e : TypeId} {w w' : World} (h : Blk S vs e w) (hw : Wrote N b w w') (hS : S ≠ b) (he : e ≠ 5) : Blk S vs e w' :=
  hw.2 S _ h (fun hh => hS (Option.some.inj hh)) (fun c fz hh => by cases hh; exact he rfl)
theorem OwR.wrote {α : Type} {k : Nat} {enc : α → List Value} (E : Enc k enc) {N b base : Nat} {e : TypeId} {p : Option Addr} {n c : Nat} {xs : List α} {w w' : World} (h : OwR w base e k enc (.slice p n c) xs) (hw : Wrote N b w w') (he : e ≠ 5) (hb : ∀ a, p = some a → a.block ≠ b) : OwR w' base e k enc (.slice p n c) xs := by
  refine ⟨h.1, ?_⟩
  rcases h.2 with hn | ⟨g, cap, cur, hv, h1, hg, rest⟩
  · exact .inl hn
  · refine .inr ⟨g, cap, cur, hv, h1, hw.2 g _ hg (fun hh => ?_) (fun c fz hh => by cases hh; exact he rfl), rest⟩
    simp only [Value.slice.injEq] at hv
    exact hb _ hv.1 (Option.some.inj hh)
theorem Bld.made (N : Nat) (w : World) (hN : N ≤ w.heap.size) : Bld N w.heap.size [] (w.alloc (.cells #[.pointer none, .slice none 0 0] 56)) :=
  ⟨hN, .pointer none, .slice none 0 0, .inl rfl, Blk.new w [.pointer none, .slice none 0 0] _, Own.empty _ _ _⟩
theorem Bld.grew {N b : Nat} {xs : List UInt8} {w w' : World} (h : Bld N b xs w) (hg : Grew w w') : Bld N b xs w' := by
  obtain ⟨h1, p, v, h2, h3, h4⟩ := h
  exact ⟨h1, p, v, h2, h3.grew hg, h4.gr hg⟩
theorem Bld.lt {N b : Nat} {xs : List UInt8} {w : World} (h : Bld N b xs w) : b < w.heap.size := by
  obtain ⟨h1, p, v, h2, h3, h4⟩ := h
  exact h3.lt
/-- The builder knows its own place. -/
def BldU (N b : Nat) (xs : List UInt8) (w : World) : Prop := N ≤ b ∧ ∃ v, Blk b [PtrTo b, v] 56 w ∧ Own w N 5 v xs
theorem BldU.bld {N b : Nat} {xs : List UInt8} {w : World} (h : BldU N b xs w) : Bld N b xs w := by
  obtain ⟨h1, v, h3, h4⟩ := h
  exact ⟨h1, _, v, .inr rfl, h3, h4⟩
theorem infoU8 : (Tryd.prog.info? 5).map (fun i => (i.zero, i.size, i.bytes)) = some (some (.int .u8 0), 1, 1) := by kernel_rfl
theorem infoBd : ∃ j, Tryd.prog.info? 56 = some j ∧ j.size = 2 := by
  have h : (Tryd.prog.info? 56).map (fun i => i.size) = some 2 := by kernel_rfl
  obtain ⟨j, h1, h2⟩ := Option.map_eq_some_iff.1 h
  exact ⟨j, h1, h2⟩
theorem infoPb : ∃ j, Tryd.prog.info? 53 = some j := by
  have h : (Tryd.prog.info? 53).map (fun i => i.size) = some 1 := by kernel_rfl
  obtain ⟨j, h1, h2⟩ := Option.map_eq_some_iff.1 h
  exact ⟨j, h1⟩
theorem Own.set_other {w : World} {N : Nat} {e e' : TypeId} {v : Value} {xs : List UInt8} (h : Own w N e v xs) (he : e ≠ e') {S i : Nat} {vs : List Value} (hb : Blk S vs e' w) (u : Value) : Own (w.setCell ⟨S, i, none⟩ u) N e v xs := by
  refine ⟨h.1, ?_⟩
  rcases h.2 with hn | ⟨g, cap, cur, hv, h1, hg, rest⟩
  · exact .inl hn
  · refine .inr ⟨g, cap, cur, hv, h1, ?_, rest⟩
    have hne : g ≠ S := fun hh => by
      have h2 : w.heap[S]? = _ := hb
      rw [hh, h2] at hg
      simp at hg
      exact he hg.2.symm
    exact (heap_setCell_other w ⟨S, i, none⟩ g u hne).trans hg
set_option maxHeartbeats 1000000 in
set_option maxRecDepth 100000 in
theorem check_any (N b : Nat) (xs : List UInt8) (w : World) (h : Bld N b xs w) :
    Calls Tryd.prog 50 #[PtrTo b] w fun e w' => e = .returned (.tuple #[]) ∧ BldU N b xs w' ∧ Wrote N b w w' ∧ w'.heap.size = w.heap.size := by
  obtain ⟨hN, p, v, hp, hb, ho⟩ := h
  obtain ⟨j, hj, hjs⟩ := infoBd
  have c0 : w.cell? ⟨b, 0, none⟩ = some p := hb.cell 0
  have f0 := hb.free 0
  have hsh : w.shape? b = some (56, 2) := by
    have h2 : w.heap[b]? = _ := hb
    simp [World.shape?, h2]
  rcases hp with rfl | rfl
  · have h1 := Lib.run_to_unsafe (P := Tryd.prog) w ⟨b, 0, none⟩ (src := 53) (dst := 79) Tryd.underlying53 Tryd.underlying79 hj (by rw [hjs]; decide) hsh (Nat.zero_lt_succ 1)
    have h2 := Lib.run_from_unsafe (P := Tryd.prog) w ⟨b, 0, none⟩ (src := 79) (dst := 53) Tryd.underlying79 Tryd.underlying53 hj hsh (by kernel_rfl)
    have HF : Hid (BldU N b xs (w.setCell ⟨b, 0, none⟩ (PtrTo b)) ∧ Wrote N b w (w.setCell ⟨b, 0, none⟩ (PtrTo b))) :=
      Lib.hid ⟨⟨hN, v, hb.set 0 _, ho.set_other (by decide) hb _⟩, (Below.refl N w).setCell (p := ⟨b, 0, none⟩) hN _, (Lib.OthersKept.refl _ _ w).setCell ⟨b, 0, none⟩ rfl _⟩
    clear hb ho hsh
    go_enter Tryd.func50, Tryd.ntmps50
    go_wp2
    rw [run_callFunc_extern Tryd.func60 (by kernel_rfl) (by kernel_rfl) (by kernel_rfl) (e := Extern.AbiNoEscape.same) (by kernel_rfl)]
    rw [Lib.run_noEscape]
    simp only [Result.andThen]
    rw [Oper.upon_value]
    go_wp2
    go_end0
    exact ⟨rfl, HF.out.1, HF.out.2, by simp⟩
  · obtain ⟨jp, hjp⟩ := infoPb
    have hne := Lib.run_neq_ptr_same (P := Tryd.prog) w (tp := 53) ⟨b, 0, none⟩ Tryd.underlying53 hj
    have HF : Hid (BldU N b xs w) := Lib.hid ⟨hN, v, hb, ho⟩
    clear hb ho hsh
    go_enter Tryd.func50, Tryd.ntmps50
    go_wp2
    go_end0
    exact ⟨rfl, HF.out, Wrote.refl _ _ _, rfl⟩
section
variable {P : Program} {w : World} {ops : Array Oper} {rest : List Oper} {o : Oper} {a : Act} {Q : Exit → Act → World → Prop}
theorem wpList_append_bytesC (hgd : o.guard = none) (s x : Operand) (t : TypeId)
    (ho : o.op = .call { callee := .builtin .append, args := #[s, x], argTypes := #[t, t] })
    (base : Nat) (e : TypeId) (z : Value) (ht : P.underlying t = some (.slice e)) (hi : (P.info? e).map (fun i => (i.zero, i.size, i.bytes)) = some (some z, 1, 1)) (hzs : z.cells.size = 1)
    (v : Value) (xs : List UInt8) (hs : a.eval s = v) (hown : Own w base e v xs)
    (ad : Addr) (n c : Nat) (ys : List UInt8) (hx : a.eval x = .slice (some ad) n c) (hl : ys.length = n) (hin : Bin w (some ad) c ys)
    (hbytes : xs.length + ys.length ≤ 140737488355328) (hbase : base ≤ w.heap.size)
    (h : ∀ p' c' zs w', Hid (zs = xs ++ ys) → Own w' base e (.slice p' zs.length c') zs → Below base w w' → Chg w w' (fun j => v.ownBlock = some j) → wpList P ops Q rest (a.put o.dst (.slice p' zs.length c')) w') : wpList P ops Q (o :: rest) a w := by
  obtain ⟨i, hi, hz0, hz1, hz2⟩ := info_parts hi
  subst hl
  refine wpList_append_own w hgd s x t ho base e i z 1 1 ht hi hz0 hz1 hz2 hzs (by omega) v xs.length (bvs xs) hs hown ad ys.length c (bvs ys) hx (by rw [bvs_len]; omega) (fun j u hj => ?_) (bvs_one ys) (by simp only [maxLen]; omega) (by omega) hbase fun v' w' h2 h3 _ => ?_
  · have hjl : j < ys.length := by have := (List.getElem?_eq_some_iff.1 hj).1; rwa [bvs_len] at this
    rw [bvs_get hjl] at hj
    obtain rfl := Option.some.inj hj
    obtain ⟨b, o, hp, hc⟩ := hin.cells (by omega)
    obtain rfl := Option.some.inj hp
    rw [Go.WideShapes.add_plain]
    exact hc j hjl
  · have h4 : Own w' base e v' (xs ++ ys) := by
      show World.ownsRow _ _ _ _ _ _ _
      rw [List.length_append, bvs_append]
      exact h2
    obtain ⟨p', c', rfl, _, _⟩ := h4.shape
    exact h p' c' _ w' rfl h4 (hown.grown_below h3 (Nat.le_refl _) hbase) (Chg.of_grownBy h3)
end
/-- The row has been exchanged. -/
theorem BldU.put {N b : Nat} {v v' : Value} {xs : List UInt8} {w : World} (hN : N ≤ b) (hb : Blk b [PtrTo b, v] 56 w) (ho : Own w N 5 v' xs) : BldU N b xs (w.setCell ⟨b, 1, none⟩ v') :=
  ⟨hN, v', hb.set 1 _, ho.set_other (by decide) hb _⟩
theorem wrote_put {N b : Nat} {v v' : Value} {xs : List UInt8} {u w w' : World} (hN : N ≤ b) (hu : N ≤ u.heap.size) (h : Wrote N b u w) (ho : Own w N 5 v xs) (hb : Below N w w') (hc : Chg w w' (fun j => v.ownBlock = some j)) : Wrote N b u (w'.setCell ⟨b, 1, none⟩ v') := by
  refine ⟨(h.1.trans hb).setCell (p := ⟨b, 1, none⟩) hN _, Lib.OthersKept.setCell (h.2.trans fun k o hk hne hno => ?_) ⟨b, 1, none⟩ rfl _⟩
  refine (hc.block k (lt_of_heap hk) fun hs => ?_).trans hk
  rcases ho.2 with ⟨hv, _⟩ | ⟨g, cap, cur, hv, _, hg, _⟩
  · rw [hv] at hs
    cases hs
  · rw [hv, ownBlock_sl] at hs
    obtain rfl : g = k := Option.some.inj hs
    rw [hk] at hg
    exact hno _ _ (Option.some.inj hg)
set_option maxHeartbeats 2000000 in
set_option maxRecDepth 100000 in
theorem wstr_any (N b : Nat) (xs l : List UInt8) (w : World) (h : Bld N b xs w) (hl : xs.length + l.length ≤ 140737488355328) (hN : N ≤ w.heap.size) :
    Calls Tryd.prog 35 #[PtrTo b, .string ⟨l.toArray⟩] w fun e w' => (∃ v, e = .returned v) ∧ Bld N b (xs ++ l) w' ∧ Wrote N b w w' := by
  have HC := Lib.hid (check_any N b xs w h)
  have hsz : (⟨l.toArray⟩ : ByteArray).size = l.length := rfl
  clear h
  go_enter Tryd.func35, Tryd.ntmps35
  go_wp2_with (go_at_call 50; (with_reducible refine (HC.out).mono ?_))
  rintro e w1 ⟨rfl, ⟨hNb, v, hb1, ho1⟩, hw1, hz1⟩
  have c0 : w1.cell? ⟨b, 0, none⟩ = some (PtrTo b) := hb1.cell 0
  have c1 : w1.cell? ⟨b, 1, none⟩ = some v := hb1.cell 1
  have HO := Lib.hid ho1
  have HB := Lib.hid hb1
  have HW := Lib.hid hw1
  have HN := Lib.hid hNb
  have hN1 : N ≤ w1.heap.size := by omega
  clear ho1 hb1 hw1 hNb
  go_wp2_with (at_builtin; refine wpList_append_str rfl _ _ 54 9 rfl N 5 Tryd.underlying54 Tryd.underlying9 infoU8 _ xs rfl HO.out l rfl hl hN1 ?_)
  intro p2 c2 zs2 w2 hz2 ho2 hb2 hc2
  have hbk : Blk b [PtrTo b, v] 56 w2 := HB.out.chg hc2 (fun hs => by
    obtain ⟨p', c', hv, _⟩ := HO.out.shape
    rw [hv] at hs
    exact Own.apart (hv ▸ HO.out) (by decide) HB.out hs)
  have d0 : w2.cell? ⟨b, 0, none⟩ = some (PtrTo b) := hbk.cell 0
  have d1 : w2.cell? ⟨b, 1, none⟩ = some v := hbk.cell 1
  have f1 : w2.frozen? ⟨b, 1, none⟩ = false := hbk.free 1
  obtain rfl := hz2.out
  have HP := Lib.hid (BldU.put HN.out hbk ho2)
  have HQ := Lib.hid (wrote_put (v' := .slice p2 (xs ++ l).length c2) HN.out hN HW.out HO.out hb2 hc2)
  rw [List.length_append] at HP HQ
  clear hbk ho2 hb2 hc2 hz2
  go_wp2
  refine bodyPost_ret (v := .tuple #[.int .i64 (l.length : Int), .nilIface]) (by simp [results, Tryd.results35, go_sem, hsz]) rfl ?_
  exact ⟨⟨_, rfl⟩, HP.out.bld, HQ.out⟩
set_option maxHeartbeats 2000000 in
set_option maxRecDepth 100000 in
theorem wbyte_any (N b : Nat) (xs : List UInt8) (c : UInt8) (w : World) (h : Bld N b xs w) (hl : xs.length + 1 ≤ 140737488355328) (hN : N ≤ w.heap.size) :
    Calls Tryd.prog 34 #[PtrTo b, .int .u8 (c.toNat : Nat)] w fun e w' => e = .returned .nilIface ∧ Bld N b (xs ++ [c]) w' ∧ Wrote N b w w' := by
  have HC := Lib.hid (check_any N b xs w h)
  clear h
  go_enter Tryd.func34, Tryd.ntmps34
  go_wp2_with (go_at_call 50; (with_reducible refine (HC.out).mono ?_))
  rintro e w1 ⟨rfl, ⟨hNb, v, hb1, ho1⟩, hw1, hz1⟩
  have c0 : w1.cell? ⟨b, 0, none⟩ = some (PtrTo b) := hb1.cell 0
  have c1 : w1.cell? ⟨b, 1, none⟩ = some v := hb1.cell 1
  have HO := Lib.hid (ho1.alloc (.cells #[.int .u8 (c.toNat : Nat)] 5))
  have hga : Grew w1 (w1.alloc (.cells #[.int .u8 (c.toNat : Nat)] 5)) := (Grew.refl _).alloc _
  have HB := Lib.hid (hb1.grew hga)
  have hN1 : N ≤ w1.heap.size := by omega
  have HW := Lib.hid (hw1.grew hga hN)
  have HN := Lib.hid hNb
  have HM := Lib.hid (Bin.made w1 [c] 1 5 #[.int .u8 (c.toNat : Nat)] (0, 0) rfl rfl (by omega))
  have hN2 : N ≤ (w1.alloc (.cells #[.int .u8 (c.toNat : Nat)] 5)).heap.size := by simp; omega
  clear ho1 hb1 hw1 hNb hga hz1
  go_wp2_with (at_builtin; refine wpList_append_bytesC rfl _ _ 54 rfl N 5 _ Tryd.underlying54 infoU8 rfl _ xs rfl HO.out ⟨w1.heap.size, 0, none⟩ 1 1 [c] rfl rfl HM.out hl hN2 ?_)
  intro p2 c2 zs2 w2 hz2 ho2 hb2 hc2
  have hbk : Blk b [PtrTo b, v] 56 w2 := HB.out.chg hc2 (fun hs => by
    obtain ⟨p', c', hv, _⟩ := HO.out.shape
    rw [hv] at hs
    exact Own.apart (hv ▸ HO.out) (by decide) HB.out hs)
  have d0 : w2.cell? ⟨b, 0, none⟩ = some (PtrTo b) := hbk.cell 0
  have d1 : w2.cell? ⟨b, 1, none⟩ = some v := hbk.cell 1
  have f1 : w2.frozen? ⟨b, 1, none⟩ = false := hbk.free 1
  obtain rfl := hz2.out
  have HP := Lib.hid (BldU.put HN.out hbk ho2)
  have HQ := Lib.hid (wrote_put (v' := .slice p2 (xs ++ [c]).length c2) HN.out hN HW.out HO.out hb2 hc2)
  rw [List.length_append, List.length_singleton] at HP HQ
  clear hbk ho2 hb2 hc2 hz2
  go_wp2
  go_ret
  exact ⟨rfl, HP.out.bld, HQ.out⟩
theorem Bld.isF {N b : Nat} {xs : List UInt8} {w : World} (h : Bld N b xs w) : Lib.IsBuilderF 56 5 N b (Lib.byteCells xs) w := by
  obtain ⟨h1, p, v, hp, hb, ho⟩ := h
  have key : Lib.BuilderAtF 56 5 N b p (Lib.byteCells xs) w := by
    refine ⟨h1, v, hb, ?_, fun hs => ?_⟩
    · have e1 : Lib.byteCells xs = bvs xs := rfl
      rw [e1, bvs_len]
      exact World.ownsRowF_of ho
    · obtain ⟨p', c', hv, _⟩ := ho.shape
      rw [hv] at hs
      exact Own.apart (hv ▸ ho) (by decide) hb hs
  rcases hp with rfl | rfl
  · exact .inl key
  · exact .inr key
theorem str_any (N b : Nat) (xs : List UInt8) (w : World) (h : Bld N b xs w) (hN : N ≤ w.heap.size) :
    Calls Tryd.prog 36 #[PtrTo b] w fun e w' => e = .returned (.string ⟨xs.toArray⟩) ∧ Below N w w' :=
  (Tryd.Builder_String_any_k N b xs w h.isF hN).mono fun _ _ ⟨h1, _, h2, _⟩ => ⟨h1, h2⟩
end Go.Proofs.YtcajamgajchheaaDoor
