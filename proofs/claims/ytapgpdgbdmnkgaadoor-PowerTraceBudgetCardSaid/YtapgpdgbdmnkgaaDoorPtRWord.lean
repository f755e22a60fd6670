/-
  CONTRACTS OF LAYER 13 (powertrace): the reference's period.
-/
import Derived.Test.YtapgpdgbdmnkgaaDoorPtWord
import Derived.Test.YtapgpdgbdmnkgaaDoorPtRNum
namespace Go.Proofs.YtapgpdgbdmnkgaaDoor
open Go Go.RowKit Go.IntWalk
open Go.Lib (itoa)
set_option linter.unusedSimpArgs false
set_option linter.unusedVariables false
set_option maxRecDepth 8000

section
variable {dst : Option Tmp} {ty : TypeId} {pos : String} {after : Array Edge} {g : Option (Nat × Bool)} {a : Act} {w : World} {T : Value → World → Prop}
theorem rn_add_3 {o1 o2 : Operand} {b c : Int} (hx : a.eval o1 = .int .i64 b) (hy : a.eval o2 = .int .i64 c) (hb : -9223372036854775808 ≤ b + c ∧ b + c ≤ 9223372036854775807) (h : T (.int .i64 (b + c)) w) : Runs Tryd.prog ⟨dst, .binOp .add 3 o1 o2 3, ty, pos, after, g⟩ a w T := by
  refine Runs.value (v := .int .i64 (b + c)) (w' := w) ?_ h
  have hw : IntKind.i64.wrap (b + c) = b + c := IntWalk.i64_in _ hb
  simp only [execOp, hx, hy]
  go_simp
theorem rn_bld_52_01 {x0 x1 : Nat} {v0_0 : Int} {v1_0 : Int} (hx0 : a.eval (.tmp x0) = .int .i64 v0_0) (hx1 : a.eval (.tmp x1) = .int .i64 v1_0) (h : T (.agg #[.int .i64 v0_0, .int .i64 v1_0]) w) : Runs Tryd.prog ⟨dst, .build 52 #[(0, .tmp x0), (1, .tmp x1)], ty, pos, after, g⟩ a w T := by
  rw [slot_eval, ← slot_get] at hx0 hx1
  refine Runs.value (v := .agg #[.int .i64 v0_0, .int .i64 v1_0]) (w' := w) ?_ h
  simp only [execOp]
  go_simp
theorem rn_alloc_52 (h : T (.pointer (some ⟨w.heap.size, 0, none⟩)) (w.alloc (.cells #[.int .i64 (0), .int .i64 (0)] 52))) : Runs Tryd.prog ⟨dst, .alloc 52, ty, pos, after, g⟩ a w T := by
  refine Runs.value (v := .pointer (some ⟨w.heap.size, 0, none⟩)) (w' := w.alloc (.cells #[.int .i64 (0), .int .i64 (0)] 52)) ?_ h
  simp only [execOp]
  go_simp
theorem rn_st_52 {x y : Operand} {S o : Nat} {v0 : Int} {v1 : Int} {u0 u1 : Value} (hx : a.eval x = .pointer (some ⟨S, o, none⟩)) (hy : a.eval y = .agg #[.int .i64 v0, .int .i64 v1]) (h0 : w.cell? ⟨S, o, none⟩ = some u0) (h1 : w.cell? ⟨S, o + 1, none⟩ = some u1) (hf : ∀ i, w.frozen? ⟨S, i, none⟩ = false) (h : T undef ((w.setCell ⟨S, o, none⟩ (.int .i64 v0)).setCell ⟨S, o + 1, none⟩ (.int .i64 v1))) : Runs Tryd.prog ⟨dst, .store 52 x y, ty, pos, after, g⟩ a w T := by
  have hf0 := hf o
  have hf1 := hf (o + 1)
  refine Runs.skip (w' := ((w.setCell ⟨S, o, none⟩ (.int .i64 v0)).setCell ⟨S, o + 1, none⟩ (.int .i64 v1))) ?_ h
  simp only [execOp, hx, hy]
  go_simp
end
theorem turns_of {S : Nat} {old new : List Value} {e : TypeId} {f : FuncId} {vs : Array Value} {x : Value} {w : World} (h : Calls Tryd.prog f vs w fun e w' => e = .returned x ∧ Grew w w') : Calls Tryd.prog f vs w fun en w' => en = .returned x ∧ Turns S old new e w w' :=
  h.mono fun _ _ ⟨h1, h2⟩ => ⟨h1, Turns.of_grew h2⟩
theorem turn_store {dst : Option Tmp} {ty : TypeId} {pos : String} {after : Array Edge} {g : Option (Nat × Bool)} {a : Act} {w : World} {x y : Operand} {S : Nat} {old : It} {new : It} (hx : a.eval x = .pointer (some ⟨S, 0, none⟩)) (hy : a.eval y = itv new) (h : Blk S (itc old) 52 w ∨ Blk S (itc new) 52 w) {T : Value → World → Prop} (hT : ∀ w', Turns S (itc old) (itc new) 52 w w' → Blk S (itc new) 52 w' → T undef w') :
    Runs Tryd.prog ⟨dst, .store 52 x y, ty, pos, after, g⟩ a w T := by
  have key : ∀ q : It, Blk S (itc q) 52 w → Runs Tryd.prog ⟨dst, .store 52 x y, ty, pos, after, g⟩ a w T := fun q hq => by
    have hn : Blk S (itc new) 52 ((w.setCell ⟨S, 0, none⟩ (.int .i64 new.1)).setCell ⟨S, 0 + 1, none⟩ (.int .i64 new.2)) := by
      have := (hq.set 0 (.int .i64 new.1)).set 1 (.int .i64 new.2)
      simpa using this
    exact rn_st_52 (S := S) (o := 0) hx hy (hq.cell 0) (hq.cell 1) hq.free (hT _ ⟨(Chg.set w ⟨S, 0, none⟩ _).trans (Chg.set _ ⟨S, 0 + 1, none⟩ _), fun _ => .inr hn, fun _ => hn⟩ hn)
  rcases h with h | h
  · exact key old h
  · exact key new h
theorem enters_num : Enters Tryd.prog 49 := fun args w => by go_simp
theorem enters_right : Enters Tryd.prog 35 := fun args w => by go_simp
theorem enters_rfm : Enters Tryd.prog 16 := fun args w => by go_simp
theorem rnum_c (s : ByteArray) (hs : s.size ≤ 100000) (w : World) : Calls Tryd.prog 49 #[.string s] w fun e w' => e = .returned (.int .i64 (numV s.data.toList)) ∧ Grew w w' :=
  (rnumber_any s hs w).mono fun _ _ ⟨h1, h2⟩ => ⟨h1, h2 ▸ Grew.refl _⟩
section
variable {dst : Option Tmp} {ty : TypeId} {pos : String} {after : Array Edge} {g : Option (Nat × Bool)} {a : Act} {w : World} {T : Value → World → Prop}
theorem rn_cutl {x y : Nat} {s : ByteArray} {k : Nat} (hx : a.eval (.tmp x) = .string s) (hy : a.eval (.tmp y) = .int .i64 (k : Int)) (hk : k < s.size) (h : T (.string (s.extract 0 k)) w) : Runs Tryd.prog ⟨dst, .slice 9 (.tmp x) none (some (.tmp y)) none, ty, pos, after, g⟩ a w T := by
  rw [slot_eval, ← slot_get] at hx hy
  refine Runs.value (v := .string (s.extract 0 k)) (w' := w) ?_ h
  have h1 : (k : Int) ≤ (s.size : Int) := by omega
  simp only [execOp]
  go_simp
theorem rn_cutr {x y : Nat} {s : ByteArray} {k : Nat} (hx : a.eval (.tmp x) = .string s) (hy : a.eval (.tmp y) = .int .i64 ((k : Int) + 1)) (hk : k < s.size) (h : T (.string (s.extract (k + 1) s.size)) w) : Runs Tryd.prog ⟨dst, .slice 9 (.tmp x) (some (.tmp y)) none none, ty, pos, after, g⟩ a w T := by
  rw [slot_eval, ← slot_get] at hx hy
  refine Runs.value (v := .string (s.extract (k + 1) s.size)) (w' := w) ?_ h
  have h1 : (k : Int) + 1 ≤ (s.size : Int) := by omega
  have h0 : ¬ (k : Int) + 1 < 0 := by omega
  simp only [execOp]
  go_simp
theorem rn_eqs {o1 o2 : Operand} {b : List UInt8} {s : ByteArray} (hx : a.eval o1 = .string ⟨b.toArray⟩) (hy : a.eval o2 = .string s) (h : T (.bool (b == s.data.toList)) w) : Runs Tryd.prog ⟨dst, .binOp .eql 9 o1 o2 9, ty, pos, after, g⟩ a w T := by
  obtain ⟨⟨c⟩⟩ := s
  refine Runs.value (v := .bool (b == c)) (w' := w) ?_ h
  simp only [execOp, hx, hy]
  go_simp
theorem runs_bsP {y : Nat} {x : It} (hx : a.eval (.tmp y) = itv x) (h : T (.slice (some ⟨w.heap.size, 0, none⟩) 1 1) (w.alloc (.cells (itc x).toArray 52))) :
    Runs Tryd.prog ⟨dst, .buildSlice 22 1 #[(0, .tmp y)], ty, pos, after, g⟩ a w T := by
  rw [slot_eval, ← slot_get] at hx
  refine Runs.value (v := .slice (some ⟨w.heap.size, 0, none⟩) 1 1) (w' := w.alloc (.cells (itc x).toArray 52)) ?_ h
  simp only [execOp]
  go_simp
end
theorem extract_take (s : ByteArray) (k : Nat) : (s.extract 0 k).data.toList = s.data.toList.take k := by
  rw [ByteArray.data_extract]; simp
theorem extract_drop (s : ByteArray) (k : Nat) : (s.extract k s.size).data.toList = s.data.toList.drop k := by
  rw [ByteArray.data_extract]
  simp only [Array.toList_extract, List.extract_eq_take_drop]
  rw [List.take_of_length_le]
  rw [List.length_drop]
  exact Nat.le_refl _
theorem u8_64 {c : UInt8} (h : (c.toNat : Int) = 64) : c = 64 := UInt8.toNat_inj.1 (show c.toNat = 64 by omega)
theorem u8_32 {c : UInt8} (h : (c.toNat : Int) = 32) : c = 32 := UInt8.toNat_inj.1 (show c.toNat = 32 by omega)
set_option maxHeartbeats 4000000 in
theorem rper_any (s : ByteArray) (hs : s.size ≤ 100000) (w : World) : Calls Tryd.prog 39 #[.string s] w (Word s.data.toList w) := by
  go_enter Tryd.func39, Tryd.ntmps39
  go_wp2
  obtain ⟨S, hS⟩ : ∃ S, S = w.heap.size := ⟨_, rfl⟩
  rw [← hS]
  refine wp_at9 (fun W => Blk S (itc (0, 0)) 52 W ∧ Grew w W) ⟨by rw [hS]; exact Blk.new w _ _, (Grew.refl _).alloc _⟩ ?_
  intro W hW
  have HS := Lib.hid hW
  have HSL := Lib.hid (Nat.le_of_eq hS.symm)
  clear hW hS
  go_loopg [4] s.size (fun gg iv wr => ∃ (k : Nat), iv = .int .i64 (k : Int) ∧ k ≤ s.size ∧ gg = s.size - k ∧ Hid ((64 : UInt8) ∉ s.data.toList.take k) ∧ Hid (Blk S (itc (0, 0)) 52 wr) ∧ Hid (Grew w wr))
  case atStart => exact ⟨0, rfl, Nat.zero_le _, rfl, Lib.hid (by simp), Lib.hid HS.out.1, Lib.hid HS.out.2⟩
  clear HS
  case round =>
    obtain ⟨k, rfl, hk, rfl, HN, HB, HG⟩ := hrel
    by_cases hlt : k < s.size
    · have HT := Lib.hid (take_snoc s k hlt)
      have HLT := Lib.hid (Nat.succ_le_of_lt hlt)
      by_cases hc : s[k] = 64
      · have hcb : ((s[k].toNat : Int) == 64) = true := by rw [hc]; rfl
        have HDD : Hid (s.data.toList = s.data.toList.take k ++ 64 :: s.data.toList.drop (k + 1)) := Lib.hid (by
          have h1 := List.drop_eq_getElem_cons (l := s.data.toList) (show k < s.data.toList.length from hlt)
          have h2 := List.take_append_drop k s.data.toList
          have h3 : s.data.toList[k]'hlt = 64 := hc
          rw [h1, h3] at h2
          exact h2.symm)
        have HKX : Hid (∀ y, okP y = true → s.data.toList = wordT y → y = (numV (s.extract 0 k).data.toList, numV (s.extract (k + 1) s.size).data.toList)) := Lib.hid (fun y hy e => by
          obtain ⟨h1, h2⟩ := okP_bd hy
          rw [HDD.out] at e
          obtain ⟨e1, e2⟩ := split_one e HN.out (itoa_no64 _)
          rw [extract_take, extract_drop, e1, e2, numV_itoa h1.1 (by omega), numV_itoa (by omega) h2.2])
        have hb1 := numV_bd (s.extract 0 k).data.toList
        have hb2 := numV_bd (s.extract (k + 1) s.size).data.toList
        clear hc
        have hB : Below wr.heap.size wr wr.drew := (Grew.refl _).drw
        go_wp2
        refine wp_grew_tail 11 [some 16, some 17, some 18, some 19, some 20, some 21, some 22, some 23, some 24, some 25, some 5] [false, false, false, false, false, true, false, false, false, false, false, false, false, false, false, false, true, true, true, true, true, true, true, true, true, true, false, false, false, false, false, false, false, false, false, false, false] [fun v _ => v = .string s, fun v _ => v = .int .i64 (((k : Nat) : Int)), fun v _ => v = .string (s.extract 0 k), fun v _ => v = .int .i64 (numV (s.extract 0 k).data.toList), fun v _ => v = .string s, fun v _ => v = .int .i64 (((k : Nat) : Int)), fun v _ => v = .int .i64 ((((k : Nat) : Int)) + (1)), fun v _ => v = .string (s.extract (k + 1) s.size), fun v _ => v = .int .i64 (numV (s.extract (k + 1) s.size).data.toList), fun v _ => v = .agg #[.int .i64 (numV (s.extract 0 k).data.toList), .int .i64 (numV (s.extract (k + 1) s.size).data.toList)], fun v w => ∃ S, v = .pointer (some ⟨S, 0, none⟩) ∧ wr.heap.size ≤ S ∧ Blk S [.int .i64 (0), .int .i64 (0)] 52 w] (by kernel_rfl) (by kernel_rfl) (by kernel_rfl) rfl ?_ ⟨?_, ?_, ?_, ?_, ?_, ?_, ?_, ?_, ?_, ?_, ?_, trivial⟩ ?_
        · exact ⟨fun _ _ _ _ h => h, fun _ _ _ _ h => h, fun _ _ _ _ h => h, fun _ _ _ _ h => h, fun _ _ _ _ h => h, fun _ _ _ _ h => h, fun _ _ _ _ h => h, fun _ _ _ _ h => h, fun _ _ _ _ h => h, fun _ _ _ _ h => h, fun _ _ _ hg ⟨S, h1, h2, h3⟩ => ⟨S, h1, h2, h3.grew hg⟩, trivial⟩
        · intro u w hR hd; exact runs_mv (ev rfl) ⟨Grew.refl _, rfl⟩
        · intro u w hR hd; exact runs_mv (ev rfl) ⟨Grew.refl _, rfl⟩
        · intro u w hR hd; exact rn_cutl (ev (hd.1 rfl)) (ev (hd.2.1 rfl)) hlt ⟨Grew.refl _, rfl⟩
        · intro u w hR hd; exact runs_c1 enters_num (ev (hd.1 rfl)) (callp (fun _ e => e) (rnum_c _ (by rw [ByteArray.size_extract]; omega) _))
        · intro u w hR hd; exact runs_mv (ev rfl) ⟨Grew.refl _, rfl⟩
        · intro u w hR hd; exact runs_mv (ev rfl) ⟨Grew.refl _, rfl⟩
        · intro u w hR hd; exact rn_add_3 (ev (hd.1 rfl)) rfl (by omega) ⟨Grew.refl _, rfl⟩
        · intro u w hR hd; exact rn_cutr (ev (hd.1 rfl)) (ev (hd.2.1 rfl)) hlt ⟨Grew.refl _, rfl⟩
        · intro u w hR hd; exact runs_c1 enters_num (ev (hd.1 rfl)) (callp (fun _ e => e) (rnum_c _ (by rw [ByteArray.size_extract]; omega) _))
        · intro u w hR hd; exact rn_bld_52_01 (ev (hd.1 rfl)) (ev (hd.2.1 rfl)) ⟨Grew.refl _, rfl⟩
        · intro u w hR hd; exact rn_alloc_52 ⟨(Grew.refl _).alloc _, ⟨_, rfl, Nat.le_trans hB.size hR.size, heap_alloc_new _ _⟩⟩
        · intro u5 w5 hR5 h5
          obtain ⟨S5, hv5, hS5, hb5⟩ := h5 10 (by decide)
          have hv9 : u5 25 = .agg #[.int .i64 (numV (s.extract 0 k).data.toList), .int .i64 (numV (s.extract (k + 1) s.size).data.toList)] := h5 9 (by decide)
          refine wpAny_one (i := 11) none (by kernel_rfl) rfl rfl rfl (rn_st_52 (S := S5) (o := 0) (ev hv5) (ev hv9) (hb5.cell 0) (hb5.cell 1) hb5.free ?_)
          refine wpAny_done (by kernel_rfl) ?_ _
          simp only [Act.put, mixA, mixL, cond_true, cond_false, List.setIfInBounds_toArray, List.set_cons_succ, List.set_cons_zero]
          have hv5' : u5 5 = .pointer (some ⟨S5, 0, none⟩) := hv5
          rw [hv5']
          clear hv5'
          have hA0 := (hb5.set 0 (.int .i64 (numV (s.extract 0 k).data.toList))).set 1 (.int .i64 (numV (s.extract (k + 1) s.size).data.toList))
          have hlS := HB.out.lt
          have hgA : Grew wr ((w5.setCell ⟨S5, 0, none⟩ (.int .i64 (numV (s.extract 0 k).data.toList))).setCell ⟨S5, 0 + 1, none⟩ (.int .i64 (numV (s.extract (k + 1) s.size).data.toList))) := Grew.sc (Grew.sc (Below.trans hB hR5) hS5 _ _) hS5 _ _
          generalize hW6 : World.setCell _ _ _ = w6 at hA0 hgA ⊢
          clear hW6 h5 hv5 hv9 hb5 hR5 hB
          generalize hx1 : (numV (s.extract 0 k).data.toList) = v1 at HKX hb1 hA0
          generalize hx2 : (numV (s.extract (k + 1) s.size).data.toList) = v2 at HKX hb2 hA0
          clear hx1 hx2
          have hxx : ∃ x : It, x = (v1, v2) := ⟨_, rfl⟩
          obtain ⟨x, hx⟩ := hxx
          rw [← hx] at HKX
          have hx1 : v1 = x.1 := by rw [hx]
          have hx2 : v2 = x.2 := by rw [hx]
          rw [hx1, hx2] at hA0
          rw [hx1] at hb1
          rw [hx2] at hb2
          have hA : Blk S5 (itc x) 52 w6 := by simpa using hA0
          clear hx hx1 hx2 hA0
          go_wp2
          have HG6 : Hid (Grew w w6.drew) := Lib.hid (HG.out.trans hgA).drw
          have hA2 : Hid (Blk S (itc (0, 0)) 52 w6.drew) := Lib.hid ((HB.out.grew hgA).grew (Grew.refl _).drw)
          have hne : S5 ≠ S := by have := HB.out.lt; omega
          have hL2 : Hid (∀ {w9 : World}, Turns S (itc (0, 0)) (itc x) 52 w6.drew w9 → S < w9.heap.size) := Lib.hid fun h => Nat.lt_of_lt_of_le hA2.out.lt h.chg.size
          have c0 : Sta (Turns S (itc (0, 0)) (itc x) 52) w6.drew ⟨S5, 0, none⟩ (.int .i64 x.1) := fun w9 h => (h.blk (hA.grew (Grew.refl _).drw) hne).cell 0
          have c1 : Sta (Turns S (itc (0, 0)) (itc x) 52) w6.drew ⟨S5, 1, none⟩ (.int .i64 x.2) := fun w9 h => (h.blk (hA.grew (Grew.refl _).drw) hne).cell 1
          cases hok : okP x
          · refine wp_postsR (Turns S (itc (0, 0)) (itc x) 52) Turns.refl Turns.trans [some 26, some 27, some 28, some 29, some 30, some 31, some 32, some 33, some 34, some 35, none, some 3] [false, false, false, true, false, false, false, false, false, false, false, false, false, false, false, false, false, false, false, false, false, false, false, false, false, false, true, true, true, true, true, true, true, true, true, true, false] [fun v _ => v = .agg #[.int .i64 (x.1), .int .i64 (x.2)], fun v _ => v = .agg #[.int .i64 (x.1), .int .i64 (x.2)], fun v _ => v = .bool (false), fun v _ => v = .bool (false), fun v _ => v = undef, fun v _ => v = undef, fun v _ => v = undef, fun v _ => v = undef, fun v _ => v = undef, fun v _ => v = .bool (false), fun v w => v = undef ∧ Blk S (itc x) 52 w, fun v _ => v = .bool (false)] (by kernel_rfl) (by kernel_rfl) rfl ?_ ⟨?_, ?_, ?_, ?_, ?_, ?_, ?_, ?_, ?_, ?_, ?_, ?_, trivial⟩ ?_
            · exact ⟨fun _ _ _ _ h => h, fun _ _ _ _ h => h, fun _ _ _ _ h => h, fun _ _ _ _ h => h, fun _ _ _ _ h => h, fun _ _ _ _ h => h, fun _ _ _ _ h => h, fun _ _ _ _ h => h, fun _ _ _ _ h => h, fun _ _ _ _ h => h, fun _ _ _ h ⟨a, b⟩ => ⟨a, h.stay b⟩, fun _ _ _ _ h => h, trivial⟩
            · intro u w hR hd; exact rn_ld_52 (ev rfl) (c0.kept hR) (c1.kept hR) ⟨Turns.refl _, rfl⟩
            · intro u w hR hd; exact rn_ld_52 (ev rfl) (c0.kept hR) (c1.kept hR) ⟨Turns.refl _, rfl⟩
            · intro u w hR hd; exact runs_c1 enters_right (ev (hd.1 rfl)) (callp (fun _ e => e.trans (congrArg Value.bool (hok))) (turns_of (right_any x _)))
            · intro u w hR hd; exact runs_mv (ev (hd.1 rfl)) ⟨Turns.refl _, rfl⟩
            · intro u w hR hd; exact ⟨fun hg => absurd ((hd.1 rfl).symm.trans hg) (fun h => by first | cases h | (simp [undef] at h)), fun _ => rfl⟩
            · intro u w hR hd; exact ⟨fun hg => absurd ((hd.2.1 rfl).symm.trans hg) (fun h => by first | cases h | (simp [undef] at h)), fun _ => rfl⟩
            · intro u w hR hd; exact ⟨fun hg => absurd ((hd.2.1 rfl).symm.trans hg) (fun h => by first | cases h | (simp [undef] at h)), fun _ => rfl⟩
            · intro u w hR hd; exact ⟨fun hg => absurd ((hd.1 rfl).symm.trans hg) (fun h => by first | cases h | (simp [undef] at h)), fun _ => rfl⟩
            · intro u w hR hd; exact ⟨fun hg => absurd ((hd.2.2.1 rfl).symm.trans hg) (fun h => by first | cases h | (simp [undef] at h)), fun _ => rfl⟩
            · intro u w hR hd; exact runs_andF (ev (hd.1 rfl)) ⟨Turns.refl _, rfl⟩
            · intro u w hR hd; exact (by refine turn_store (old := (0, 0)) (new := x) ?_ ?_ (hR.some (.inl hA2.out)) (fun w9 h1 h2 => ⟨h1, rfl, h2⟩); exact ev rfl; exact ev (hd.1 rfl))
            · intro u w hR hd; exact runs_mva (ev (hd.1 rfl)) ⟨Turns.refl _, rfl⟩
            · intro u7 w7 hR7 h7
              have he : u7 3 = .bool (false) := h7 11 (by decide)
              obtain ⟨-, hB8⟩ := h7 10 (by decide)
              have HB8 := Lib.hid hB8
              have HG8 := Lib.hid (grew_lift HG6.out hR7.chg (fun k hk => by have hk' : k = S := hk; have := HSL.out; omega))
              simp only [mixA, mixL, cond_true, cond_false]
              rw [he]
              clear h7 he hB8 hR7 c0 c1
              go_wp2
              refine rn_ret_c52_t Tryd.results39 (S0 := S) (v0_0 := .int .i64 x.1) (v0_1 := .int .i64 x.2) (v1 := .bool (false)) rfl (HB8.out.cell 0) (HB8.out.cell 1) rfl ⟨x, false, rfl, fun hh => ?_, fun hh => ?_, HG8.out⟩
              · cases hh
              · refine readW_none.2 fun y hy e => ?_
                rw [HKX.out y hy e, hok] at hy
                cases hy
          · refine wp_postsR (Turns S (itc (0, 0)) (itc x) 52) Turns.refl Turns.trans [some 26, some 27, some 28, some 29, some 30, some 31, some 32, some 33, some 34, some 35, none, some 3] [false, false, false, true, false, false, false, false, false, false, false, false, false, false, false, false, false, false, false, false, false, false, false, false, false, false, true, true, true, true, true, true, true, true, true, true, false] [fun v _ => v = .agg #[.int .i64 (x.1), .int .i64 (x.2)], fun v _ => v = .agg #[.int .i64 (x.1), .int .i64 (x.2)], fun v _ => v = .bool (true), fun v _ => v = .bool (true), fun v _ => v = .agg #[.int .i64 (x.1), .int .i64 (x.2)], fun v w => ∃ B, v = .slice (some ⟨B, 0, none⟩) 1 1 ∧ Rw 2 itc w (some ⟨B, 0, none⟩) 1 [x] ∧ B ≠ S, fun v _ => v = .string ⟨(fmtL [x]).toArray⟩, fun v _ => v = .string s, fun v _ => v = .bool (fmtL [x] == s.data.toList), fun v _ => v = .bool (fmtL [x] == s.data.toList), fun v w => v = undef ∧ Blk S (itc x) 52 w, fun v _ => v = .bool (fmtL [x] == s.data.toList)] (by kernel_rfl) (by kernel_rfl) rfl ?_ ⟨?_, ?_, ?_, ?_, ?_, ?_, ?_, ?_, ?_, ?_, ?_, ?_, trivial⟩ ?_
            · exact ⟨fun _ _ _ _ h => h, fun _ _ _ _ h => h, fun _ _ _ _ h => h, fun _ _ _ _ h => h, fun _ _ _ _ h => h, fun _ _ _ hg ⟨B, h1, h2, h3⟩ => ⟨B, h1, h2.chg hg.chg (fun a ha hs => h3 (by cases ha; exact hs)), h3⟩, fun _ _ _ _ h => h, fun _ _ _ _ h => h, fun _ _ _ _ h => h, fun _ _ _ _ h => h, fun _ _ _ h ⟨a, b⟩ => ⟨a, h.stay b⟩, fun _ _ _ _ h => h, trivial⟩
            · intro u w hR hd; exact rn_ld_52 (ev rfl) (c0.kept hR) (c1.kept hR) ⟨Turns.refl _, rfl⟩
            · intro u w hR hd; exact rn_ld_52 (ev rfl) (c0.kept hR) (c1.kept hR) ⟨Turns.refl _, rfl⟩
            · intro u w hR hd; exact runs_c1 enters_right (ev (hd.1 rfl)) (callp (fun _ e => e.trans (congrArg Value.bool (hok))) (turns_of (right_any x _)))
            · intro u w hR hd; exact runs_mv (ev (hd.1 rfl)) ⟨Turns.refl _, rfl⟩
            · intro u w hR hd; exact ⟨fun _ => rn_ld_52 (ev rfl) (c0.kept hR) (c1.kept hR) ⟨Turns.refl _, rfl⟩, fun hn => absurd (hd.1 rfl) hn⟩
            · intro u w hR hd; exact ⟨fun _ => runs_bsP (ev ((hd.1 rfl))) ⟨Turns.of_grew ((Grew.refl _).alloc _), ⟨_, rfl, Rw.made encI _ [x] 1 _ _ _ rfl rfl (by decide), (by have := hL2.out hR; omega)⟩⟩, fun hn => absurd (hd.2.1 rfl) hn⟩
            · intro u w hR hd; exact ⟨fun _ => (by obtain ⟨B, hv, hb, -⟩ := (hd.1 rfl); exact runs_c1 enters_rfm (ev hv) (callp (fun _ e => e) (turns_of (rformat_any _ _ _ [x] _ hb rfl (by simp))))), fun hn => absurd (hd.2.1 rfl) hn⟩
            · intro u w hR hd; exact ⟨fun _ => runs_mv (ev rfl) ⟨Turns.refl _, rfl⟩, fun hn => absurd (hd.1 rfl) hn⟩
            · intro u w hR hd; exact ⟨fun _ => rn_eqs (ev (hd.1 rfl)) (ev (hd.2.1 rfl)) ⟨Turns.refl _, rfl⟩, fun hn => absurd (hd.2.2.1 rfl) hn⟩
            · intro u w hR hd; exact runs_an (ev (hd.1 rfl)) (fun hb => ev ((hd.2.1 rfl))) ⟨Turns.refl _, rfl⟩
            · intro u w hR hd; exact (by refine turn_store (old := (0, 0)) (new := x) ?_ ?_ (hR.some (.inl hA2.out)) (fun w9 h1 h2 => ⟨h1, rfl, h2⟩); exact ev rfl; exact ev (hd.1 rfl))
            · intro u w hR hd; exact runs_mva (ev (hd.1 rfl)) ⟨Turns.refl _, rfl⟩
            · intro u7 w7 hR7 h7
              have he : u7 3 = .bool (fmtL [x] == s.data.toList) := h7 11 (by decide)
              obtain ⟨-, hB8⟩ := h7 10 (by decide)
              have HB8 := Lib.hid hB8
              have HG8 := Lib.hid (grew_lift HG6.out hR7.chg (fun k hk => by have hk' : k = S := hk; have := HSL.out; omega))
              simp only [mixA, mixL, cond_true, cond_false]
              rw [he]
              clear h7 he hB8 hR7 c0 c1
              go_wp2
              refine rn_ret_c52_t Tryd.results39 (S0 := S) (v0_0 := .int .i64 x.1) (v0_1 := .int .i64 x.2) (v1 := .bool (fmtL [x] == s.data.toList)) rfl (HB8.out.cell 0) (HB8.out.cell 1) rfl ⟨x, fmtL [x] == s.data.toList, rfl, fun hh => ?_, fun hh => ?_, HG8.out⟩
              · have h1 := eq_of_beq hh
                rw [show fmtL [x] = wordT x by unfold fmtL okL; simp [hok, textT_one]] at h1
                exact readW_some.2 ⟨hok, h1.symm⟩
              · refine readW_none.2 fun y hy e => ?_
                rw [← HKX.out y hy e] at hh
                rw [show fmtL [y] = wordT y by unfold fmtL okL; simp [hy, textT_one], e] at hh
                simp at hh
      · have hcb : ((s[k].toNat : Int) == 64) = false := beq_eq_false_iff_ne.2 fun h => hc (u8_64 h)
        have HC := Lib.hid hc
        clear hc
        go_wp2
        go_roundg (s.size - (k + 1))
        case measure => have := HLT.out; omega
        case rel => exact ⟨k + 1, by go_num, HLT.out, rfl, Lib.hid (by
          rw [HT.out]
          simp only [List.mem_append, List.mem_singleton, not_or]
          exact ⟨HN.out, fun e => HC.out e.symm⟩), HB, HG⟩
    · obtain rfl : k = s.size := by omega
      have hall : s.data.toList.take s.size = s.data.toList := List.take_of_length_le (Nat.le_refl _)
      rw [hall] at HN
      have HZ : Hid (readW s.data.toList = none) := Lib.hid (readW_none.2 fun x _ e => HN.out (by rw [e]; unfold wordT; simp))
      clear hall
      have b0 := HB.out.cell 0
      have b1 := HB.out.cell 1
      have bf := HB.out.free
      have bl := HB.out.lt
      simp only [List.getElem?_cons_zero, List.getElem?_cons_succ] at b0 b1
      go_wp2
      refine rn_ret_c52_t Tryd.results39 (S0 := S) (v0_0 := .int .i64 0) (v0_1 := .int .i64 0) (v1 := .bool false) rfl (by go_simp) (by go_simp) rfl ⟨(0, 0), false, rfl, (fun h => by cases h), fun _ => HZ.out, ?_⟩
      exact (HG.out.sc HSL.out _ _).sc HSL.out _ _
end Go.Proofs.YtapgpdgbdmnkgaaDoor
