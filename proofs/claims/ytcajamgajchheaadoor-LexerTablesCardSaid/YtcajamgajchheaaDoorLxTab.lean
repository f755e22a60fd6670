/-
  LAYER 15: Keywords and Punctuation of the program.
-/
import Derived.Test.YtcajamgajchheaaDoorLxWakes
namespace Go.Proofs.YtcajamgajchheaaDoor
open Go Go.RowKit Go.IntWalk
set_option linter.unusedSimpArgs false
set_option linter.unusedVariables false
set_option maxRecDepth 20000
theorem setCells_chg (b : Nat) : ∀ (vs : List Value) (o : Nat) (w : World), Chg w (w.setCells b o vs) (fun k => k = b)
  | [], _, w => Chg.refl w _
  | v :: r, o, w => by
    rw [World.setCells]
    exact (Chg.set w ⟨b, o, none⟩ v).trans (setCells_chg b r (o + 1) _)
theorem setCells_blk {b : Nat} {e : TypeId} : ∀ (r : List Value) (o : Nat) (vs : List Value) (w : World), o + r.length ≤ vs.length → Blk b vs e w → Blk b (vs.take o ++ r ++ vs.drop (o + r.length)) e (w.setCells b o r)
  | [], o, vs, w, _, h => by simpa [World.setCells] using h
  | v :: r, o, vs, w, hl, h => by
    rw [World.setCells]
    have h1 := setCells_blk r (o + 1) (vs.set o v) _ (by simp at hl ⊢; omega) (h.set o v)
    have e0 : (vs.set o v).take (o + 1) = vs.take o ++ [v] := by
      simp only [List.length_cons] at hl
      rw [List.take_set, List.take_succ_eq_append_getElem (by omega : o < vs.length), List.set_append_right _ _ (by simp; omega)]
      simp [show o - min o vs.length = 0 by omega]
    have e : (vs.set o v).take (o + 1) ++ r ++ (vs.set o v).drop (o + 1 + r.length) = vs.take o ++ (v :: r) ++ vs.drop (o + (v :: r).length) := by
      rw [e0, List.drop_set_of_lt (by omega), List.length_cons, show o + 1 + r.length = o + (r.length + 1) by omega]
      simp
    rw [e] at h1
    exact h1
theorem Blk.setAll {b : Nat} {e : TypeId} {vs us : List Value} {w : World} (h : Blk b vs e w) (hl : us.length = vs.length) : Blk b us e (w.setCells b 0 us) := by
  have := setCells_blk us 0 vs w (by omega) h
  simpa [hl] using this
theorem Blk.there {b : Nat} {e : TypeId} {vs : List Value} {w : World} (h : Blk b vs e w) {n : Nat} (hn : n = vs.length) : w.there b 0 n := fun j hj => ⟨by rw [Nat.zero_add, h.cell, List.getElem?_eq_getElem (by omega)]; rfl, h.free _⟩
theorem Blk.range {b : Nat} {e : TypeId} {vs : List Value} {w : World} (h : Blk b vs e w) : w.rangeAt b 0 vs := fun j v hv => by rw [Nat.zero_add, h.cell]; exact hv
section
variable {ops : Array Oper} {rest : List Oper} {o : Oper} {a : Act} {Q : Exit → Act → World → Prop} {w : World}
/-- A variable of a struct type is made. -/
theorem wpList_alloc_whole {P : Program} (hg : o.guard = none) (T : TypeId) (ho : o.op = .alloc T) (zs : Array Value) (hz : ∀ w, (zeroValue T).run P w = .ok (.agg zs) w)
    (h : wpList P ops Q rest (a.put o.dst (.pointer (some ⟨w.heap.size, 0, none⟩))) (w.alloc (.cells zs T))) : wpList P ops Q (o :: rest) a w := by
  refine wpList_plain hg fun K hK => ?_
  unfold Oper.wp
  have hrun : (Instr.alloc T true (.tuple #[])).run P w = .ok (.pointer (some ⟨w.heap.size, 0, none⟩)) (w.alloc (.cells zs T)) := by
    unfold Instr.alloc
    simp only [Sem.run_bind, hz, Result.andThen_ok]
    rfl
  simp only [execOp, ho, Sem.run_bind, hrun, Result.andThen_ok, Sem.run_pure]
  exact hK _ _ h
end
set_option maxHeartbeats 8000000 in
theorem kwP_any (w : World) (hE : Env w) : Calls Tryd.prog 21 #[] w fun e w' => ∃ S, e = .returned (.slice (some ⟨S, 0, none⟩) 22 22) ∧ w.heap.size ≤ S ∧ Blk S (kwl.map (fun l => Value.string ⟨l.toArray⟩)) 63 w' ∧ Grew w w' := by
  have hr := hE.rangeK
  have hlen : (kwl.map (fun l => Value.string ⟨l.toArray⟩)).length = 22 := rfl
  have hone : ∀ v ∈ kwl.map (fun l => Value.string ⟨l.toArray⟩), v.oneCell' = true := fun v hv => by
    obtain ⟨l, _, rfl⟩ := List.mem_map.1 hv
    rfl
  clear hE
  generalize kwl.map (fun l => Value.string ⟨l.toArray⟩) = vs at hr hlen hone ⊢
  go_enter Tryd.func21, Tryd.ntmps21
  go_upto_region 1 with fail
  refine wp_region_list ?_
  refine wpList_load_mid rfl 63 (.global 0) rfl 0 0 rfl vs _ hr Tryd.underlying63 rfl (by rw [hlen]; kernel_rfl) ?_
  refine wpList_alloc_whole rfl 63 rfl (List.replicate 22 (Value.string ⟨#[]⟩)).toArray (fun w => by kernel_rfl) ?_
  have hb : Blk w.heap.size (List.replicate 22 (Value.string ⟨#[]⟩)) 63 (w.alloc (.cells (List.replicate 22 (Value.string ⟨#[]⟩)).toArray 63)) := Blk.new w _ _
  have hg : Grew w (w.alloc (.cells (List.replicate 22 (Value.string ⟨#[]⟩)).toArray 63)) := (Grew.refl _).alloc _
  generalize (w.alloc (.cells (List.replicate 22 (Value.string ⟨#[]⟩)).toArray 63)) = V at hb hg ⊢
  refine wpList_store_mid rfl 63 (.tmp 1) (.tmp 2) rfl w.heap.size 0 vs.toArray (by go_simp) (by go_simp) (hb.there (by simp [hlen])) (by simp only [List.size_toArray, hlen]; kernel_rfl) (all_oneCell_toArray hone) ?_
  have hb2 : Blk w.heap.size vs 63 (V.setCells w.heap.size 0 vs.toArray.toList) := by simpa using hb.setAll (us := vs) (by rw [hlen]; simp)
  have hg2 : Grew w (V.setCells w.heap.size 0 vs.toArray.toList) := by simpa using grew_lift hg (setCells_chg w.heap.size vs 0 V) (fun k hk => by subst hk; exact Nat.le_refl _)
  generalize V.setCells w.heap.size 0 vs.toArray.toList = U at hb2 hg2 ⊢
  have HB := Lib.hid hb2
  have HG := Lib.hid hg2
  clear hb2 hg2 hb hg hr hone
  go_wp2
  go_ret
  exact ⟨_, rfl, Nat.le_refl _, HB.out, HG.out⟩
set_option maxHeartbeats 8000000 in
theorem mkP_any (w : World) (hE : Env w) : Calls Tryd.prog 22 #[] w fun e w' => ∃ S, e = .returned (.slice (some ⟨S, 0, none⟩) 23 23) ∧ w.heap.size ≤ S ∧ Blk S (mks.map (fun l => Value.string ⟨l.toArray⟩)) 64 w' ∧ Grew w w' := by
  have hr := hE.rangeM
  have hlen : (mks.map (fun l => Value.string ⟨l.toArray⟩)).length = 23 := rfl
  have hone : ∀ v ∈ mks.map (fun l => Value.string ⟨l.toArray⟩), v.oneCell' = true := fun v hv => by
    obtain ⟨l, _, rfl⟩ := List.mem_map.1 hv
    rfl
  clear hE
  generalize mks.map (fun l => Value.string ⟨l.toArray⟩) = vs at hr hlen hone ⊢
  go_enter Tryd.func22, Tryd.ntmps22
  go_upto_region 1 with fail
  refine wp_region_list ?_
  refine wpList_load_mid rfl 64 (.global 1) rfl 1 0 rfl vs _ hr Tryd.underlying64 rfl (by rw [hlen]; kernel_rfl) ?_
  refine wpList_alloc_whole rfl 64 rfl (List.replicate 23 (Value.string ⟨#[]⟩)).toArray (fun w => by kernel_rfl) ?_
  have hb : Blk w.heap.size (List.replicate 23 (Value.string ⟨#[]⟩)) 64 (w.alloc (.cells (List.replicate 23 (Value.string ⟨#[]⟩)).toArray 64)) := Blk.new w _ _
  have hg : Grew w (w.alloc (.cells (List.replicate 23 (Value.string ⟨#[]⟩)).toArray 64)) := (Grew.refl _).alloc _
  generalize (w.alloc (.cells (List.replicate 23 (Value.string ⟨#[]⟩)).toArray 64)) = V at hb hg ⊢
  refine wpList_store_mid rfl 64 (.tmp 1) (.tmp 2) rfl w.heap.size 0 vs.toArray (by go_simp) (by go_simp) (hb.there (by simp [hlen])) (by simp only [List.size_toArray, hlen]; kernel_rfl) (all_oneCell_toArray hone) ?_
  have hb2 : Blk w.heap.size vs 64 (V.setCells w.heap.size 0 vs.toArray.toList) := by simpa using hb.setAll (us := vs) (by rw [hlen]; simp)
  have hg2 : Grew w (V.setCells w.heap.size 0 vs.toArray.toList) := by simpa using grew_lift hg (setCells_chg w.heap.size vs 0 V) (fun k hk => by subst hk; exact Nat.le_refl _)
  generalize V.setCells w.heap.size 0 vs.toArray.toList = U at hb2 hg2 ⊢
  have HB := Lib.hid hb2
  have HG := Lib.hid hg2
  clear hb2 hg2 hb hg hr hone
  go_wp2
  go_ret
  exact ⟨_, rfl, Nat.le_refl _, HB.out, HG.out⟩
end Go.Proofs.YtcajamgajchheaaDoor
