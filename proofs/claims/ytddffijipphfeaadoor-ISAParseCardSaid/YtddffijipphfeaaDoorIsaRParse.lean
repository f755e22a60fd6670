/-
  LAYER 11's REFERENCE: Parse.
-/
import Derived.Test.YtddffijipphfeaaDoorIsaRVal
import Derived.Test.YtddffijipphfeaaDoorIsaRFmt
import Derived.Test.YtddffijipphfeaaDoorIsaParse3
import Derived.Deep.CutBlock
import Derived.Deep.DeepCutAuto
namespace Go.Proofs.YtddffijipphfeaaDoor
open Go Go.RowKit Go.IntWalk
open Go.Lib (itoa)
set_option linter.unusedSimpArgs false
set_option linter.unusedVariables false
set_option maxRecDepth 8000
section
variable {dst : Option Tmp} {ty : TypeId} {pos : String} {after : Array Edge} {g : Option (Nat × Bool)} {a : Act} {w : World} {T : Value → World → Prop}
end

theorem enters_mn : Enters Tryd.prog 39 := fun args w => by go_simp
section
variable {dst : Option Tmp} {ty : TypeId} {pos : String} {after : Array Edge} {g : Option (Nat × Bool)} {a : Act} {w : World} {T : Value → World → Prop}
theorem rn_slc {x y : Nat} {s : ByteArray} {k : Nat} (hx : a.eval (.tmp x) = .string s) (hy : a.eval (.tmp y) = .int .i64 (k : Int)) (hk : k ≤ s.size) (h : T (.string (s.extract 0 k)) w) : Runs Tryd.prog ⟨dst, .slice 9 (.tmp x) none (some (.tmp y)) none, ty, pos, after, g⟩ a w T := by
  rw [slot_eval, ← slot_get] at hx hy
  refine Runs.value (v := .string (s.extract 0 k)) (w' := w) ?_ h
  simp only [execOp]
  go_simp
theorem rn_eqs {o1 o2 : Operand} {b : List UInt8} {s : ByteArray} (hx : a.eval o1 = .string ⟨b.toArray⟩) (hy : a.eval o2 = .string s) (h : T (.bool (b == s.toList)) w) : Runs Tryd.prog ⟨dst, .binOp .eql 9 o1 o2 9, ty, pos, after, g⟩ a w T := by
  refine Runs.value (v := .bool (b == s.toList)) (w' := w) ?_ h
  simp only [execOp, hx, hy]
  go_simp
end
theorem shape_v (op : Int) (w : World) : Calls Tryd.prog 40 #[.int .i64 op] w fun e w' => ∃ t : ByteArray, e = .returned (.string t) ∧ t.data.toList = sh op ∧ Grew w w' := (shape_any op w).mono fun e w' ⟨h1, h2⟩ => ⟨_, h1, by simp, h2⟩
/-- A part of joined operands. -/
theorem seg (l x : List UInt8) (R : List (List UInt8)) (n : Nat) (h : l = jn (x :: R)) (hx : (44 : UInt8) ∉ x) (hn : (44 : UInt8) ∉ l.take n) (hN : n = l.length ∨ l[n]? = some 44) : l.take n = x ∧ (R ≠ [] → n + 2 ≤ l.length ∧ l.drop (n + 2) = jn R) := by
  cases R with
  | nil =>
    obtain rfl : l = x := h
    rcases hN with rfl | hN
    · exact ⟨List.take_length, fun h => absurd rfl h⟩
    · exact absurd (List.mem_of_getElem? hN) hx
  | cons y r =>
    replace h : l = x ++ 44 :: 32 :: jn (y :: r) := h
    rcases hN with rfl | hN
    · rw [List.take_length, h] at hn; exact absurd (by simp) hn
    · have hl := (List.getElem?_eq_some_iff.1 hN).1
      have h2 : l.take n ++ 44 :: l.drop (n + 1) = x ++ 44 :: 32 :: jn (y :: r) := by
        rw [← h]
        have := List.take_append_drop n l
        rw [List.drop_eq_getElem_cons hl] at this
        rw [List.getElem?_eq_getElem hl] at hN
        rw [Option.some.inj hN] at this
        exact this
      obtain ⟨e1, e2⟩ := split_one h2 hn hx
      refine ⟨e1, fun _ => ?_⟩
      have h3 : (l.drop (n + 1)).length = (32 :: jn (y :: r)).length := by rw [e2]
      rw [List.length_drop, List.length_cons] at h3
      refine ⟨by omega, ?_⟩
      rw [show n + 2 = n + 1 + 1 from rfl, ← List.drop_drop, e2]
      rfl
def Wd (s : ByteArray) (k : Nat) : Prop := (32 : UInt8) ∉ s.data.toList.take k ∧ (k = s.size ∨ s.data.toList[k]? = some 32)
theorem word_of {s : ByteArray} {k : Nat} {y : Cd} (h : Wd s k) (hf : Fits s y) : s.data.toList.take k = (opr y.op).mn ∧ (sh y.op ≠ [] → k + 1 ≤ s.size ∧ s.data.toList.drop (k + 1) = jn ((sh y.op).map (item y))) := by
  obtain ⟨hn, hN⟩ := h
  have hb := hf.2
  rw [fmt_ok hf.1] at hb
  have hsz : s.data.toList.length = s.size := by simp
  unfold body at hb
  by_cases hs : sh y.op = []
  · rw [if_pos hs, List.append_nil] at hb
    refine ⟨?_, fun h => absurd hs h⟩
    rcases hN with rfl | hN
    · rw [← hsz, List.take_length, hb]
    · exact absurd (hb ▸ List.mem_of_getElem? hN) (mn_no32 _)
  · rw [if_neg hs] at hb
    rcases hN with rfl | hN
    · rw [← hsz, List.take_length, ← hb] at hn; exact absurd (by simp) hn
    · have hl := (List.getElem?_eq_some_iff.1 hN).1
      have h2 : s.data.toList.take k ++ 32 :: s.data.toList.drop (k + 1) = (opr y.op).mn ++ 32 :: jn ((sh y.op).map (item y)) := by
        rw [hb]
        have := List.take_append_drop k s.data.toList
        rw [List.drop_eq_getElem_cons hl] at this
        rw [List.getElem?_eq_getElem hl] at hN
        rw [Option.some.inj hN] at this
        exact this
      obtain ⟨e1, e2⟩ := split_one h2 hn (mn_no32 _)
      exact ⟨e1, fun _ => ⟨by omega, e2⟩⟩
def Ops (s : ByteArray) (k j : Nat) (o : Int) : Prop := (o = 0 ∨ (opr o).mn = s.data.toList.take k) ∧ ∀ i : Nat, 1 ≤ i → i < j → (opr (i : Int)).mn = s.data.toList.take k → o = i
theorem ops_yes {s : ByteArray} {k j : Nat} {o : Int} (h : Ops s k j o) (hj : j ≤ 30) (he : (opr (j : Int)).mn = s.data.toList.take k) : Ops s k (j + 1) (j : Int) :=
  ⟨.inr he, fun i h1 h2 h3 => by have := mn_inj ⟨j, by omega⟩ ⟨i, by omega⟩ (he.trans h3.symm); have := congrArg Fin.val this; simp only at this; omega⟩
theorem ops_no {s : ByteArray} {k j : Nat} {o : Int} (h : Ops s k j o) (he : (opr (j : Int)).mn ≠ s.data.toList.take k) : Ops s k (j + 1) o :=
  ⟨h.1, fun i h1 h2 h3 => by
    rcases Nat.lt_or_eq_of_le (Nat.le_of_lt_succ h2) with h4 | rfl
    · exact h.2 i h1 h4 h3
    · exact absurd h3 he⟩
def fld (L : List UInt8) (i : Nat) (ch : UInt8) (v z : Int) : Prop := (ch ∈ L.take i → v = z) ∧ (ch ∉ L.take i → v = 0)
def Rr (s : ByteArray) (o : Int) (i at1 : Nat) (a b c z : Int) : Prop := ∀ y, Fits s y → o = y.op ∧ (i < (sh o).length → at1 ≤ s.size ∧ s.data.toList.drop at1 = jn (((sh o).drop i).map (item y))) ∧ fld (sh o) i 97 a y.a ∧ fld (sh o) i 98 b y.b ∧ fld (sh o) i 99 c y.c ∧ fld (sh o) i 105 z y.i
theorem rr_start {s : ByteArray} {k : Nat} {o : Int} (hw : Wd s k) (ho : Ops s k 31 o) : Rr s o 0 (k + 1) 0 0 0 0 := fun y hy => by
  have h1 := word_of hw hy
  obtain ⟨j, hj, hj1⟩ := valid_op hy.1
  have h2 := ho.2 j.val hj1 j.isLt (by rw [← hj, h1.1])
  have e : o = y.op := by rw [h2, hj]
  have hf : ∀ (ch : UInt8) (z : Int), fld (sh o) 0 ch 0 z := fun ch z => ⟨fun h => by simp at h, fun _ => rfl⟩
  refine ⟨e, fun hl => ?_, hf _ _, hf _ _, hf _ _, hf _ _⟩
  rw [e] at hl ⊢
  exact h1.2 (List.length_pos_iff.1 hl)
theorem fld_same {L : List UInt8} {i : Nat} {ch d : UInt8} {v z : Int} (h : fld L i ch v z) (hl : i < L.length) (hd : L[i] = d) (hne : ch ≠ d) : fld L (i + 1) ch v z := by
  unfold fld
  rw [List.take_succ_eq_append_getElem hl, hd]
  exact ⟨fun hm => h.1 ((List.mem_append.1 hm).resolve_right (fun hm => hne (List.mem_singleton.1 hm))), fun hm => h.2 (fun h2 => hm (List.mem_append.2 (.inl h2)))⟩
theorem fld_new {L : List UInt8} {i : Nat} {d : UInt8} {v z : Int} (hl : i < L.length) (hd : L[i] = d) (he : v = z) : fld L (i + 1) d v z := by
  unfold fld
  rw [List.take_succ_eq_append_getElem hl, hd]
  exact ⟨fun _ => he, fun hm => absurd (List.mem_append.2 (.inr (List.mem_singleton.2 rfl))) hm⟩
/-- The part of an operand, and what is behind it. -/
def Sg (s : ByteArray) (at1 en : Nat) : Prop := (44 : UInt8) ∉ (s.data.toList.drop at1).take (en - at1) ∧ (en = s.size ∨ s.data.toList[en]? = some 44)
theorem rr_part {s : ByteArray} {o : Int} {i at1 en : Nat} {a b c z : Int} (h : Rr s o i at1 a b c z) (hl : i < (sh o).length) (ha : at1 ≤ en) (he : en ≤ s.size) (hs : Sg s at1 en) (y : Cd) (hy : Fits s y) :
    (s.data.toList.drop at1).take (en - at1) = item y (sh o)[i] ∧ (i + 1 < (sh o).length → en + 2 ≤ s.size ∧ s.data.toList.drop (en + 2) = jn (((sh o).drop (i + 1)).map (item y))) := by
  obtain ⟨_, h2, _⟩ := h y hy
  obtain ⟨h3, h4⟩ := h2 hl
  have hsz : s.data.toList.length = s.size := by simp
  rw [List.drop_eq_getElem_cons hl, List.map_cons] at h4
  have h5 := seg _ _ _ (en - at1) h4 (item_no44 _ _) hs.1 (by
    rcases hs.2 with rfl | h
    · left; rw [List.length_drop]; omega
    · right; rw [List.getElem?_drop, show at1 + (en - at1) = en by omega]; exact h)
  refine ⟨h5.1, fun hl2 => ?_⟩
  obtain ⟨h6, h7⟩ := h5.2 (by intro h0; have := congrArg List.length h0; simp at this; omega)
  rw [List.length_drop] at h6
  rw [List.drop_drop, show at1 + (en - at1 + 2) = en + 2 by omega] at h7
  exact ⟨by omega, h7⟩
theorem rr_97 {s : ByteArray} {o : Int} {i at1 en : Nat} {a b c z v : Int} (h : Rr s o i at1 a b c z) (hl : i < (sh o).length) (ha : at1 ≤ en) (he : en ≤ s.size) (hs : Sg s at1 en) (hv : v = valF ((s.data.toList.drop at1).take (en - at1))) (hd : (sh o)[i] = 97) : Rr s o (i + 1) (en + 2) v b c z := fun y hy => by
  obtain ⟨h1, h2⟩ := rr_part h hl ha he hs y hy
  obtain ⟨e, _, k0, k1, k2, k3⟩ := h y hy
  obtain ⟨_, b0, b1, b2, b3, _⟩ := valid_bd hy.1
  have hv2 : v = y.a := by rw [hv, h1, hd]; exact valF_reg _ b0
  refine ⟨e, h2, fld_new hl hd hv2, fld_same k1 hl hd (by decide), fld_same k2 hl hd (by decide), fld_same k3 hl hd (by decide)⟩
theorem rr_98 {s : ByteArray} {o : Int} {i at1 en : Nat} {a b c z v : Int} (h : Rr s o i at1 a b c z) (hl : i < (sh o).length) (ha : at1 ≤ en) (he : en ≤ s.size) (hs : Sg s at1 en) (hv : v = valF ((s.data.toList.drop at1).take (en - at1))) (hd : (sh o)[i] = 98) : Rr s o (i + 1) (en + 2) a v c z := fun y hy => by
  obtain ⟨h1, h2⟩ := rr_part h hl ha he hs y hy
  obtain ⟨e, _, k0, k1, k2, k3⟩ := h y hy
  obtain ⟨_, b0, b1, b2, b3, _⟩ := valid_bd hy.1
  have hv2 : v = y.b := by rw [hv, h1, hd]; exact valF_reg _ b1
  refine ⟨e, h2, fld_same k0 hl hd (by decide), fld_new hl hd hv2, fld_same k2 hl hd (by decide), fld_same k3 hl hd (by decide)⟩
theorem rr_99 {s : ByteArray} {o : Int} {i at1 en : Nat} {a b c z v : Int} (h : Rr s o i at1 a b c z) (hl : i < (sh o).length) (ha : at1 ≤ en) (he : en ≤ s.size) (hs : Sg s at1 en) (hv : v = valF ((s.data.toList.drop at1).take (en - at1))) (hd : (sh o)[i] = 99) : Rr s o (i + 1) (en + 2) a b v z := fun y hy => by
  obtain ⟨h1, h2⟩ := rr_part h hl ha he hs y hy
  obtain ⟨e, _, k0, k1, k2, k3⟩ := h y hy
  obtain ⟨_, b0, b1, b2, b3, _⟩ := valid_bd hy.1
  have hv2 : v = y.c := by rw [hv, h1, hd]; exact valF_reg _ b2
  refine ⟨e, h2, fld_same k0 hl hd (by decide), fld_same k1 hl hd (by decide), fld_new hl hd hv2, fld_same k3 hl hd (by decide)⟩
theorem rr_105 {s : ByteArray} {o : Int} {i at1 en : Nat} {a b c z v : Int} (h : Rr s o i at1 a b c z) (hl : i < (sh o).length) (ha : at1 ≤ en) (he : en ≤ s.size) (hs : Sg s at1 en) (hv : v = valF ((s.data.toList.drop at1).take (en - at1))) (hd : (sh o)[i] = 105) : Rr s o (i + 1) (en + 2) a b c (IntKind.i16.wrap v) := fun y hy => by
  obtain ⟨h1, h2⟩ := rr_part h hl ha he hs y hy
  obtain ⟨e, _, k0, k1, k2, k3⟩ := h y hy
  obtain ⟨_, b0, b1, b2, b3, _⟩ := valid_bd hy.1
  have hv2 : v = y.i := by rw [hv, h1, hd]; exact valF_itoa _ b3
  refine ⟨e, h2, fld_same k0 hl hd (by decide), fld_same k1 hl hd (by decide), fld_same k2 hl hd (by decide), fld_new hl hd (by rw [hv2, wrap16]; omega)⟩
theorem sh_mem (op : Int) : ∀ ch ∈ sh op, ch = 97 ∨ ch = 98 ∨ ch = 99 ∨ ch = 105 := by
  unfold sh
  cases hasR op 0 <;> cases hasR op 1 <;> cases hasR op 2 <;> cases hasI op <;> decide
theorem rr_end {s : ByteArray} {o : Int} {i at1 : Nat} {a b c z : Int} (h : Rr s o i at1 a b c z) (hx : (sh o).length ≤ i ∨ s.size < at1) : ∀ y, Fits s y → (⟨o, a, b, c, z⟩ : Cd) = y := fun y hy => by
  obtain ⟨e, h2, k0, k1, k2, k3⟩ := h y hy
  have hi : (sh o).length ≤ i := by
    rcases hx with hx | hx
    · exact hx
    · by_cases hl : i < (sh o).length
      · have := (h2 hl).1; omega
      · omega
  have hv := (valid_iff y).1 hy.1
  unfold fld at k0 k1 k2 k3
  rw [List.take_of_length_le hi, e] at k0 k1 k2 k3
  have c0 := sh97 y.op; have c1 := sh98 y.op; have c2 := sh99 y.op; have c3 := sh105 y.op
  have m : ∀ ch : UInt8, ∀ b : Bool, (sh y.op).contains ch = b → (b = true → ch ∈ sh y.op) ∧ (b = false → ch ∉ sh y.op) := fun ch b hb => ⟨fun h => by rw [h] at hb; simpa using hb, fun h => by rw [h] at hb; simpa using hb⟩
  have ha : a = y.a := by
    cases hh : hasR y.op 0
    · have := hv.1; rw [hh] at this; simp only [Bool.false_eq_true, if_false] at this
      rw [k0.2 ((m _ _ (c0.trans hh)).2 rfl)]; omega
    · exact k0.1 ((m _ _ (c0.trans hh)).1 rfl)
  have hb : b = y.b := by
    cases hh : hasR y.op 1
    · have := hv.2.1; rw [hh] at this; simp only [Bool.false_eq_true, if_false] at this
      rw [k1.2 ((m _ _ (c1.trans hh)).2 rfl)]; omega
    · exact k1.1 ((m _ _ (c1.trans hh)).1 rfl)
  have hc : c = y.c := by
    cases hh : hasR y.op 2
    · have := hv.2.2.1; rw [hh] at this; simp only [Bool.false_eq_true, if_false] at this
      rw [k2.2 ((m _ _ (c2.trans hh)).2 rfl)]; omega
    · exact k2.1 ((m _ _ (c2.trans hh)).1 rfl)
  have hz : z = y.i := by
    cases hh : hasI y.op
    · obtain ⟨j, hj, _⟩ := valid_op hy.1
      have hn := noImm j (by rw [← hj]; exact hh)
      rw [← hj] at hn
      have := hv.2.2.2.2.2
      rw [k3.2 ((m _ _ (c3.trans hh)).2 rfl)]; omega
    · exact k3.1 ((m _ _ (c3.trans hh)).1 rfl)
  rw [e, ha, hb, hc, hz]
theorem mn_ne : ∀ k : Fin 31, 1 ≤ k.val → (opr (k.val : Int)).mn ≠ [] := by decide
theorem val_of {s : ByteArray} {k : Nat} {o : Int} {x : Cd} (hx : x.op = o) (ho : Ops s k 31 o) (hb : 0 ≤ o ∧ o ≤ 30) (h0 : o ≠ 0) (hf : (fmt x == s.toList) = true) : valid x = true := by
  cases hv : valid x
  · rw [fmt_no hv, beq_list] at hf
    have hs := (eq_of_beq hf).symm
    have h1 := ho.1.resolve_left h0
    rw [hs, List.take_nil] at h1
    have := mn_ne ⟨o.toNat, by omega⟩ (by show 1 ≤ o.toNat; omega)
    rw [show ((⟨o.toNat, by omega⟩ : Fin 31).val : Int) = o by show ((o.toNat : Nat) : Int) = o; omega] at this
    exact absurd h1 this
  · rfl
theorem val_no {x : Cd} (hx : x.op = 0) : valid x = false := by
  cases hv : valid x
  · rfl
  · have := (valid_bd hv).1; omega
theorem rvalue_is (s : ByteArray) (v : Int) (hv : valF s.data.toList = v) (hs : s.size ≤ 1000) (w : World) : Calls Tryd.prog 53 #[.string s] w fun e w' => e = .returned (.int .i64 v) ∧ Grew w w' := hv ▸ rvalue_any s hs w
theorem take_step (s : ByteArray) (a k : Nat) (h : a ≤ k) (hl : k < s.size) : (s.data.toList.drop a).take (k + 1 - a) = (s.data.toList.drop a).take (k - a) ++ [s[k]] := by
  have hl2 : k - a < (s.data.toList.drop a).length := by rw [List.length_drop, Array.length_toList]; show k - a < s.size - a; omega
  rw [show k + 1 - a = k - a + 1 by omega, List.take_succ_eq_append_getElem hl2, List.getElem_drop]
  congr 2
  simp only [show a + (k - a) = k by omega]
  rfl
theorem ext_take (s : ByteArray) (k : Nat) : (s.extract 0 k).toList = s.data.toList.take k := by rw [ByteArray.toList_eq]; simp [ByteArray.data_extract]
theorem ext_mid (s : ByteArray) (a b : Nat) : (s.extract a b).data.toList = (s.data.toList.drop a).take (b - a) := by simp [ByteArray.data_extract]
set_option maxHeartbeats 8000000 in
theorem rparse_any (s : ByteArray) (hs : s.size ≤ 500) (w : World) :
    Calls Tryd.prog 27 #[.string s] w fun e w' => ∃ x : Cd, e = .returned (parR s x) ∧ (∀ y, valid y = true → fmt y = s.data.toList → x = y) ∧ Grew w w' := by
  go_enter Tryd.func27, Tryd.ntmps27
  go_upto_block 0 with fail
  generalize hW : World.alloc _ _ = w0
  have bz : Blk w.heap.size [.int .i64 0, .int .i64 0, .int .i64 0, .int .i64 0, .int .i16 0] 24 w0 := by subst hW; exact Blk.new w [.int .i64 0, .int .i64 0, .int .i64 0, .int .i64 0, .int .i16 0] _
  have HB : Hid (Grew w w0) := Lib.hid (by subst hW; exact (Grew.refl _).alloc _)
  clear hW
  have BZ := Lib.hid bz
  clear bz
  go_cut [4] (fun kv wx => ∃ k : Nat, wx = w0 ∧ kv = .int .i64 (k : Int) ∧ k ≤ s.size ∧ Hid (Wd s k))
  case first =>
    go_wp2_with fail
    go_loopg [4] s.size (fun g kv wx => ∃ k : Nat, wx = w0 ∧ kv = .int .i64 (k : Int) ∧ k ≤ s.size ∧ g = s.size - k ∧ Hid ((32 : UInt8) ∉ s.data.toList.take k))
    case atStart => exact ⟨0, rfl, rfl, Nat.zero_le _, rfl, Lib.hid (by simp)⟩
    case round =>
      obtain ⟨k, rfl, rfl, hk, rfl, HN⟩ := hrel
      by_cases hlt : k < s.size
      · have HS := Lib.hid (take_snoc s k hlt)
        have HG := Lib.hid (show s.data.toList[k]? = some s[k] from List.getElem?_eq_getElem (l := s.data.toList) (i := k) (by simpa using hlt))
        have HK := Lib.hid hlt
        by_cases he : s[k] = 32
        · have HE := Lib.hid he
          have e1 : ((s[k].toNat : Int) != 32) = false := by rw [he]; rfl
          clear he
          go_wp2_with fail
          go_meet
          exact ⟨k, rfl, rfl, hk, Lib.hid ⟨HN.out, .inr (HG.out.trans (congrArg some HE.out))⟩⟩
        · have HE := Lib.hid he
          have e1 : ((s[k].toNat : Int) != 32) = true := by
            cases h : ((s[k].toNat : Int) != 32)
            · exact absurd (UInt8.toNat_inj.1 (by have h2 := eq_of_beq (Bool.not_eq_false' .. ▸ h); show s[k].toNat = 32; omega)) he
            · rfl
          clear he
          go_wp2_with fail
          go_roundg (s.size - (k + 1))
          case measure => have := HK.out; omega
          case rel => exact ⟨k + 1, rfl, by go_num, HK.out, rfl, Lib.hid (by rw [HS.out]; intro hm; rcases List.mem_append.1 hm with hm | hm; exact HN.out hm; exact HE.out (List.mem_singleton.1 hm).symm)⟩
      · obtain rfl : k = s.size := by omega
        go_wp2_with fail
        go_meet
        exact ⟨_, rfl, rfl, hk, Lib.hid ⟨HN.out, .inl rfl⟩⟩
  case rest =>
    obtain ⟨k, hwx, rfl, hk, HW⟩ := hcut
    obtain ⟨wa, hwa⟩ : ∃ wa : World, wa = wc := ⟨_, rfl⟩
    subst hwa
    subst hwx
    have bz := BZ.out
    clear BZ
    go_upto_block 2 with fail
    have HNE := Lib.hid (show w.heap.size ≠ wa.heap.size from Nat.ne_of_lt bz.lt)
    have hszc : w.heap.size ≤ wa.heap.size := HB.out.sz
    generalize hV : World.alloc _ _ = w1
    have bc : Blk wa.heap.size [.int .i64 0, .int .i64 0, .int .i64 0, .int .i64 0, .int .i16 0] 24 w1 := by subst hV; exact Blk.new wa [.int .i64 0, .int .i64 0, .int .i64 0, .int .i64 0, .int .i16 0] _
    replace bz : Blk w.heap.size [.int .i64 0, .int .i64 0, .int .i64 0, .int .i64 0, .int .i16 0] 24 w1 := by subst hV; exact bz.grew ((Grew.refl _).alloc _)
    replace HB : Hid (Grew w w1) := Lib.hid (by subst hV; exact HB.out.alloc _)
    clear hV
    have BZ := Lib.hid bz
    have BC := Lib.hid bc
    clear bz bc
    go_wp2_with fail
    go_loopg [6] 30 (fun gg jv wr => ∃ (j : Nat) (o : Int), jv = .int .i64 (j : Int) ∧ 1 ≤ j ∧ j ≤ 31 ∧ gg = 31 - j ∧ (0 ≤ o ∧ o ≤ 30) ∧ Hid (Ops s k j o) ∧ Hid (Blk w.heap.size [.int .i64 0, .int .i64 0, .int .i64 0, .int .i64 0, .int .i16 0] 24 wr) ∧ Hid (Blk wa.heap.size [.int .i64 (o), .int .i64 (0), .int .i64 (0), .int .i64 (0), .int .i16 (0)] 24 wr) ∧ Hid (Grew w wr))
    case atStart => exact ⟨1, 0, by go_num, by omega, by omega, rfl, by omega, Lib.hid ⟨.inl rfl, fun i h1 h2 => absurd h2 (by omega)⟩, BZ, BC, HB⟩
    case round =>
      clear BZ BC HB
      obtain ⟨j, o, rfl, hj1, hj, rfl, ho, HO, BZ, BC, HB⟩ := hrel
      by_cases hlt : j ≤ 30
      · have HJ := Lib.hid hlt
        obtain ⟨eb, HEQ⟩ : ∃ eb, Hid (((opr ((j : Nat) : Int)).mn == (s.extract 0 k).toList) = eb) := ⟨_, Lib.hid rfl⟩
        go_wp2
        refine wp_posts [some 28, some 29, some 30, some 31, some 32, some 33] [false, false, false, false, false, false, false, false, false, false, false, false, false, false, false, false, false, false, false, false, false, false, false, false, false, false, false, false, true, true, true, true, true, true, false, false, false, false, false, false, false, false, false, false, false, false, false, false, false, false, false, false, false, false, false, false, false, false, false, false, false, false, false, false, false, false, false, false, false, false, false, false, false, false, false, false, false, false, false, false, false, false, false, false, false, false, false, false, false, false, false, false, false, false, false, false, false, false, false, false, false, false] [fun v _ => v = .int .i64 (((j : Nat) : Int)), fun v _ => v = .string ⟨((opr ((j : Nat) : Int)).mn).toArray⟩, fun v _ => v = .string s, fun v _ => v = .int .i64 (((k : Nat) : Int)), fun v _ => v = .string (s.extract 0 k), fun v _ => v = .bool eb] (by kernel_rfl) (by kernel_rfl) rfl ?_ ⟨?_, ?_, ?_, ?_, ?_, ?_, trivial⟩ ?_
        · exact ⟨fun _ _ _ _ h => h, fun _ _ _ _ h => h, fun _ _ _ _ h => h, fun _ _ _ _ h => h, fun _ _ _ _ h => h, fun _ _ _ _ h => h, trivial⟩
        · intro u w hR hd; exact runs_mv (ev rfl) ⟨Grew.refl _, rfl⟩
        · intro u w hR hd; exact runs_c1 enters_mn (ev (hd.1 rfl)) (callp (fun _ e => e) (mnemonic_any _ _))
        · intro u w hR hd; exact runs_mv (ev rfl) ⟨Grew.refl _, rfl⟩
        · intro u w hR hd; exact runs_mv (ev rfl) ⟨Grew.refl _, rfl⟩
        · intro u w hR hd; exact rn_slc (ev (hd.1 rfl)) (ev (hd.2.1 rfl)) hk ⟨Grew.refl _, rfl⟩
        · intro u w hR hd; exact rn_eqs (ev (hd.1 rfl)) (ev (hd.2.1 rfl)) ⟨Grew.refl _, congrArg Value.bool HEQ.out⟩
        · intro u w4 hR h
          have he : u 33 = .bool eb := h 5 (by decide)
          simp only [mixA, mixL, cond_true, cond_false]
          rw [he]
          clear h he
          have hG : Grew wr w4 := (Grew.refl _).drw.trans hR
          have bz := BZ.out.grew hG
          have bc := BC.out.grew hG
          replace HB := Lib.hid (HB.out.trans hG)
          clear BZ BC hG hR
          have bz0 := bz.cell 0; have bz1 := bz.cell 1; have bz2 := bz.cell 2; have bz3 := bz.cell 3; have bz4 := bz.cell 4; have bzf := bz.free; have bzl := bz.lt; simp only [List.getElem?_cons_zero, List.getElem?_cons_succ] at bz0 bz1 bz2 bz3 bz4 bzl
          have bc0 := bc.cell 0; have bc1 := bc.cell 1; have bc2 := bc.cell 2; have bc3 := bc.cell 3; have bc4 := bc.cell 4; have bcf := bc.free; have bcl := bc.lt; simp only [List.getElem?_cons_zero, List.getElem?_cons_succ] at bc0 bc1 bc2 bc3 bc4 bcl
          cases eb
          · go_wp2
            go_roundg (31 - (j + 1))
            case measure => have := HJ.out; omega
            case rel => exact ⟨j + 1, o, by go_num, by omega, by have := HJ.out; omega, rfl, ho, Lib.hid (ops_no HO.out (by have := HEQ.out; rw [ext_take] at this; simpa using this)), Lib.hid bz, Lib.hid bc, HB⟩
          · go_wp2
            go_roundg (31 - (j + 1))
            case measure => have := HJ.out; omega
            case rel => exact ⟨j + 1, (j : Int), by go_num, by omega, by have := HJ.out; omega, rfl, by have := HJ.out; omega, Lib.hid (ops_yes HO.out HJ.out (by have := HEQ.out; rw [ext_take] at this; simpa using this)), Lib.hid (bz.other _ 0 _ HNE.out), Lib.hid (bc.set 0 _), Lib.hid (by repeat (first | with_reducible exact HB.out | with_reducible exact Grew.refl _ | with_reducible refine Grew.sc ?_ (by first | omega | (simp <;> omega)) _ _ | with_reducible refine Grew.alloc ?_ _ | with_reducible refine Grew.drw ?_))⟩
      · obtain rfl : j = 31 := by omega
        have bz := BZ.out
        have bc := BC.out
        clear BZ BC
        have bz0 := bz.cell 0; have bz1 := bz.cell 1; have bz2 := bz.cell 2; have bz3 := bz.cell 3; have bz4 := bz.cell 4; have bzf := bz.free; have bzl := bz.lt; simp only [List.getElem?_cons_zero, List.getElem?_cons_succ] at bz0 bz1 bz2 bz3 bz4 bzl
        have bc0 := bc.cell 0; have bc1 := bc.cell 1; have bc2 := bc.cell 2; have bc3 := bc.cell 3; have bc4 := bc.cell 4; have bcf := bc.free; have bcl := bc.lt; simp only [List.getElem?_cons_zero, List.getElem?_cons_succ] at bc0 bc1 bc2 bc3 bc4 bcl
        go_upto_block 4 with (go_at_call 40; (with_reducible refine (shape_v o _).mono ?_); rintro e w5 ⟨t, rfl, ht, g1⟩; have HT := Lib.hid ht; clear ht bz0 bz1 bz2 bz3 bz4 bzf bzl bc0 bc1 bc2 bc3 bc4 bcf bcl; replace bz := bz.grew g1; replace bc := bc.grew g1; replace HB := Lib.hid (HB.out.trans g1); clear g1)
        have hts : t.size = (sh o).length := by rw [← HT.out]; simp
        have hsl := sh_len o
        have BZ := Lib.hid bz
        have BC := Lib.hid bc
        clear bz bc
        go_cut [9] (fun iv wx => ∃ (a b c z : Int), (∃ i : Nat, iv = .int .i64 (i : Int)) ∧ (-32768 ≤ z ∧ z ≤ 32767) ∧ Hid (Blk w.heap.size [.int .i64 0, .int .i64 0, .int .i64 0, .int .i64 0, .int .i16 0] 24 wx) ∧ Hid (Blk wa.heap.size [.int .i64 (o), .int .i64 (a), .int .i64 (b), .int .i64 (c), .int .i16 (z)] 24 wx) ∧ Hid (Grew w wx) ∧ Hid (∀ y, Fits s y → (⟨o, a, b, c, z⟩ : Cd) = y))
        case first =>
          go_wp2_with fail
          go_loopg [8, 9] t.size (fun gg av iv wr => ∃ (i at1 : Nat) (a b c z : Int), av = .int .i64 (at1 : Int) ∧ iv = .int .i64 (i : Int) ∧ i ≤ t.size ∧ gg = t.size - i ∧ at1 ≤ s.size + 2 ∧ (-32768 ≤ z ∧ z ≤ 32767) ∧ Hid (Rr s o i at1 a b c z) ∧ Hid (Blk w.heap.size [.int .i64 0, .int .i64 0, .int .i64 0, .int .i64 0, .int .i16 0] 24 wr) ∧ Hid (Blk wa.heap.size [.int .i64 (o), .int .i64 (a), .int .i64 (b), .int .i64 (c), .int .i16 (z)] 24 wr) ∧ Hid (Grew w wr))
          case atStart => exact ⟨0, k + 1, 0, 0, 0, 0, by go_num, rfl, Nat.zero_le _, rfl, by omega, by omega, Lib.hid (rr_start HW.out HO.out), BZ, BC, HB⟩
          case round =>
            clear BZ BC HB
            obtain ⟨i, at1, a, b, c, z, rfl, rfl, hi, rfl, hat, hz, HR, BZ, BC, HB⟩ := hrel
            by_cases hil : i < t.size
            · by_cases hal : at1 ≤ s.size
              · have HI := Lib.hid hil
                obtain ⟨wo, hwo⟩ : ∃ wo : World, wo = wr := ⟨_, rfl⟩
                subst hwo
                go_upto_block 6 with fail
                go_cut [10] (fun ev wx => ∃ en : Nat, wx = wo ∧ ev = .int .i64 (en : Int) ∧ at1 ≤ en ∧ en ≤ s.size ∧ Hid (Sg s at1 en))
                case first =>
                  go_wp2_with fail
                  go_loopg [10] (s.size - at1) (fun g ev wx => ∃ en : Nat, wx = wo ∧ ev = .int .i64 (en : Int) ∧ at1 ≤ en ∧ en ≤ s.size ∧ g = s.size - en ∧ Hid ((44 : UInt8) ∉ (s.data.toList.drop at1).take (en - at1)))
                  case atStart => exact ⟨at1, rfl, rfl, Nat.le_refl _, hal, rfl, Lib.hid (by simp)⟩
                  case round =>
                    obtain ⟨en, hwx, rfl, hae, hen, rfl, HN⟩ := hrel
                    subst hwx
                    by_cases hlt : en < s.size
                    · have HS := Lib.hid (take_step s at1 en hae hlt)
                      have HG := Lib.hid (show s.data.toList[en]? = some s[en] from List.getElem?_eq_getElem (l := s.data.toList) (i := en) (by simpa using hlt))
                      have HK := Lib.hid hlt
                      by_cases he : s[en] = 44
                      · have HE := Lib.hid he
                        have e1 : ((s[en].toNat : Int) != 44) = false := by rw [he]; rfl
                        clear he
                        go_wp2_with fail
                        go_meet
                        exact ⟨en, rfl, rfl, hae, hen, Lib.hid ⟨HN.out, .inr (HG.out.trans (congrArg some HE.out))⟩⟩
                      · have HE := Lib.hid he
                        have e1 : ((s[en].toNat : Int) != 44) = true := by
                          cases h : ((s[en].toNat : Int) != 44)
                          · exact absurd (UInt8.toNat_inj.1 (by have h2 := eq_of_beq (Bool.not_eq_false' .. ▸ h); show s[en].toNat = 44; omega)) he
                          · rfl
                        clear he
                        go_wp2_with fail
                        go_roundg (s.size - (en + 1))
                        case measure => have := HK.out; omega
                        case rel => exact ⟨en + 1, rfl, by go_num, by omega, HK.out, rfl, Lib.hid (by rw [HS.out]; intro hm; rcases List.mem_append.1 hm with hm | hm; exact HN.out hm; exact HE.out (List.mem_singleton.1 hm).symm)⟩
                    · obtain rfl : en = s.size := by omega
                      go_wp2_with fail
                      go_meet
                      exact ⟨_, rfl, rfl, hae, hen, Lib.hid ⟨HN.out, .inl rfl⟩⟩
                case rest =>
                  obtain ⟨en, hwx, rfl, hae, hen, HSG⟩ := hcut
                  subst hwx
                  have bz := BZ.out
                  have bc := BC.out
                  clear BZ BC
                  have bz0 := bz.cell 0; have bz1 := bz.cell 1; have bz2 := bz.cell 2; have bz3 := bz.cell 3; have bz4 := bz.cell 4; have bzf := bz.free; have bzl := bz.lt; simp only [List.getElem?_cons_zero, List.getElem?_cons_succ] at bz0 bz1 bz2 bz3 bz4 bzl
                  have bc0 := bc.cell 0; have bc1 := bc.cell 1; have bc2 := bc.cell 2; have bc3 := bc.cell 3; have bc4 := bc.cell 4; have bcf := bc.free; have bcl := bc.lt; simp only [List.getElem?_cons_zero, List.getElem?_cons_succ] at bc0 bc1 bc2 bc3 bc4 bcl
                  have HL := Lib.hid (show i < (sh o).length by omega)
                  have HCH : Hid ((sh o)[i]'HL.out = t[i]) := Lib.hid (by simp only [← HT.out]; rfl)
                  have hm := sh_mem o t[i] (by rw [← HT.out]; exact List.getElem_mem (l := t.data.toList) (n := i) (by simpa using hil))
                  obtain ⟨v, HVV⟩ : ∃ v, Hid (v = valF ((s.data.toList.drop at1).take (en - at1))) := ⟨_, Lib.hid rfl⟩
                  have HVC := Lib.hid (fun W => rvalue_is (s.extract at1 en) v (by rw [ext_mid]; exact HVV.out.symm) (by rw [ByteArray.size_extract]; omega) W)
                  rcases hm with h | h | h | h
                  · have HD : Hid ((sh o)[i]'HL.out = 97) := Lib.hid (HCH.out.trans h)
                    have e97 : ((t[i].toNat : Int) == 97) = true := by rw [h]; rfl
                    have e98 : ((t[i].toNat : Int) == 98) = false := by rw [h]; rfl
                    have e99 : ((t[i].toNat : Int) == 99) = false := by rw [h]; rfl
                    clear h
                    go_wp2_with (go_at_call 53; (with_reducible refine (HVC.out _).mono ?_); rintro e w6 ⟨rfl, g1⟩; clear bz0 bz1 bz2 bz3 bz4 bzf bzl bc0 bc1 bc2 bc3 bc4 bcf bcl; replace bz := bz.grew g1; replace bc := bc.grew g1; replace HB := Lib.hid (HB.out.trans g1); clear g1; have bz0 := bz.cell 0; have bz1 := bz.cell 1; have bz2 := bz.cell 2; have bz3 := bz.cell 3; have bz4 := bz.cell 4; have bzf := bz.free; have bzl := bz.lt; simp only [List.getElem?_cons_zero, List.getElem?_cons_succ] at bz0 bz1 bz2 bz3 bz4 bzl; have bc0 := bc.cell 0; have bc1 := bc.cell 1; have bc2 := bc.cell 2; have bc3 := bc.cell 3; have bc4 := bc.cell 4; have bcf := bc.free; have bcl := bc.lt; simp only [List.getElem?_cons_zero, List.getElem?_cons_succ] at bc0 bc1 bc2 bc3 bc4 bcl)
                    go_roundg (t.size - (i + 1))
                    case measure => have := HI.out; omega
                    case rel => exact ⟨i + 1, en + 2, v, b, c, z, (by go_num), (by go_num), HI.out, rfl, by omega, hz, Lib.hid (rr_97 HR.out HL.out hae hen HSG.out HVV.out HD.out), Lib.hid (bz.other _ 1 _ HNE.out), Lib.hid (bc.set 1 _), Lib.hid (by repeat (first | with_reducible exact HB.out | with_reducible exact Grew.refl _ | with_reducible refine Grew.sc ?_ (by first | omega | (simp <;> omega)) _ _ | with_reducible refine Grew.alloc ?_ _ | with_reducible refine Grew.drw ?_))⟩
                  · have HD : Hid ((sh o)[i]'HL.out = 98) := Lib.hid (HCH.out.trans h)
                    have e97 : ((t[i].toNat : Int) == 97) = false := by rw [h]; rfl
                    have e98 : ((t[i].toNat : Int) == 98) = true := by rw [h]; rfl
                    have e99 : ((t[i].toNat : Int) == 99) = false := by rw [h]; rfl
                    clear h
                    go_wp2_with (go_at_call 53; (with_reducible refine (HVC.out _).mono ?_); rintro e w6 ⟨rfl, g1⟩; clear bz0 bz1 bz2 bz3 bz4 bzf bzl bc0 bc1 bc2 bc3 bc4 bcf bcl; replace bz := bz.grew g1; replace bc := bc.grew g1; replace HB := Lib.hid (HB.out.trans g1); clear g1; have bz0 := bz.cell 0; have bz1 := bz.cell 1; have bz2 := bz.cell 2; have bz3 := bz.cell 3; have bz4 := bz.cell 4; have bzf := bz.free; have bzl := bz.lt; simp only [List.getElem?_cons_zero, List.getElem?_cons_succ] at bz0 bz1 bz2 bz3 bz4 bzl; have bc0 := bc.cell 0; have bc1 := bc.cell 1; have bc2 := bc.cell 2; have bc3 := bc.cell 3; have bc4 := bc.cell 4; have bcf := bc.free; have bcl := bc.lt; simp only [List.getElem?_cons_zero, List.getElem?_cons_succ] at bc0 bc1 bc2 bc3 bc4 bcl)
                    go_roundg (t.size - (i + 1))
                    case measure => have := HI.out; omega
                    case rel => exact ⟨i + 1, en + 2, a, v, c, z, (by go_num), (by go_num), HI.out, rfl, by omega, hz, Lib.hid (rr_98 HR.out HL.out hae hen HSG.out HVV.out HD.out), Lib.hid (bz.other _ 2 _ HNE.out), Lib.hid (bc.set 2 _), Lib.hid (by repeat (first | with_reducible exact HB.out | with_reducible exact Grew.refl _ | with_reducible refine Grew.sc ?_ (by first | omega | (simp <;> omega)) _ _ | with_reducible refine Grew.alloc ?_ _ | with_reducible refine Grew.drw ?_))⟩
                  · have HD : Hid ((sh o)[i]'HL.out = 99) := Lib.hid (HCH.out.trans h)
                    have e97 : ((t[i].toNat : Int) == 97) = false := by rw [h]; rfl
                    have e98 : ((t[i].toNat : Int) == 98) = false := by rw [h]; rfl
                    have e99 : ((t[i].toNat : Int) == 99) = true := by rw [h]; rfl
                    clear h
                    go_wp2_with (go_at_call 53; (with_reducible refine (HVC.out _).mono ?_); rintro e w6 ⟨rfl, g1⟩; clear bz0 bz1 bz2 bz3 bz4 bzf bzl bc0 bc1 bc2 bc3 bc4 bcf bcl; replace bz := bz.grew g1; replace bc := bc.grew g1; replace HB := Lib.hid (HB.out.trans g1); clear g1; have bz0 := bz.cell 0; have bz1 := bz.cell 1; have bz2 := bz.cell 2; have bz3 := bz.cell 3; have bz4 := bz.cell 4; have bzf := bz.free; have bzl := bz.lt; simp only [List.getElem?_cons_zero, List.getElem?_cons_succ] at bz0 bz1 bz2 bz3 bz4 bzl; have bc0 := bc.cell 0; have bc1 := bc.cell 1; have bc2 := bc.cell 2; have bc3 := bc.cell 3; have bc4 := bc.cell 4; have bcf := bc.free; have bcl := bc.lt; simp only [List.getElem?_cons_zero, List.getElem?_cons_succ] at bc0 bc1 bc2 bc3 bc4 bcl)
                    go_roundg (t.size - (i + 1))
                    case measure => have := HI.out; omega
                    case rel => exact ⟨i + 1, en + 2, a, b, v, z, (by go_num), (by go_num), HI.out, rfl, by omega, hz, Lib.hid (rr_99 HR.out HL.out hae hen HSG.out HVV.out HD.out), Lib.hid (bz.other _ 3 _ HNE.out), Lib.hid (bc.set 3 _), Lib.hid (by repeat (first | with_reducible exact HB.out | with_reducible exact Grew.refl _ | with_reducible refine Grew.sc ?_ (by first | omega | (simp <;> omega)) _ _ | with_reducible refine Grew.alloc ?_ _ | with_reducible refine Grew.drw ?_))⟩
                  · have HD : Hid ((sh o)[i]'HL.out = 105) := Lib.hid (HCH.out.trans h)
                    have e97 : ((t[i].toNat : Int) == 97) = false := by rw [h]; rfl
                    have e98 : ((t[i].toNat : Int) == 98) = false := by rw [h]; rfl
                    have e99 : ((t[i].toNat : Int) == 99) = false := by rw [h]; rfl
                    clear h
                    go_wp2_with (go_at_call 53; (with_reducible refine (HVC.out _).mono ?_); rintro e w6 ⟨rfl, g1⟩; clear bz0 bz1 bz2 bz3 bz4 bzf bzl bc0 bc1 bc2 bc3 bc4 bcf bcl; replace bz := bz.grew g1; replace bc := bc.grew g1; replace HB := Lib.hid (HB.out.trans g1); clear g1; have bz0 := bz.cell 0; have bz1 := bz.cell 1; have bz2 := bz.cell 2; have bz3 := bz.cell 3; have bz4 := bz.cell 4; have bzf := bz.free; have bzl := bz.lt; simp only [List.getElem?_cons_zero, List.getElem?_cons_succ] at bz0 bz1 bz2 bz3 bz4 bzl; have bc0 := bc.cell 0; have bc1 := bc.cell 1; have bc2 := bc.cell 2; have bc3 := bc.cell 3; have bc4 := bc.cell 4; have bcf := bc.free; have bcl := bc.lt; simp only [List.getElem?_cons_zero, List.getElem?_cons_succ] at bc0 bc1 bc2 bc3 bc4 bcl)
                    go_roundg (t.size - (i + 1))
                    case measure => have := HI.out; omega
                    case rel => exact ⟨i + 1, en + 2, a, b, c, (IntKind.i16.wrap v), (by go_num), (by go_num), HI.out, rfl, by omega, w16_bd _, Lib.hid (rr_105 HR.out HL.out hae hen HSG.out HVV.out HD.out), Lib.hid (bz.other _ 4 _ HNE.out), Lib.hid (bc.set 4 _), Lib.hid (by repeat (first | with_reducible exact HB.out | with_reducible exact Grew.refl _ | with_reducible refine Grew.sc ?_ (by first | omega | (simp <;> omega)) _ _ | with_reducible refine Grew.alloc ?_ _ | with_reducible refine Grew.drw ?_))⟩
              · go_wp2_with fail
                go_meet
                exact ⟨a, b, c, z, ⟨i, rfl⟩, hz, BZ, BC, HB, Lib.hid (rr_end HR.out (.inr (by omega)))⟩
            · go_wp2_with fail
              go_meet
              exact ⟨a, b, c, z, ⟨i, rfl⟩, hz, BZ, BC, HB, Lib.hid (rr_end HR.out (.inl (by omega)))⟩
        case rest =>
          obtain ⟨a, b, c, z, ⟨i, rfl⟩, hz, BZ, BC, HB, HX⟩ := hcut
          have bz := BZ.out
          have bc := BC.out
          clear BZ BC
          have bz0 := bz.cell 0; have bz1 := bz.cell 1; have bz2 := bz.cell 2; have bz3 := bz.cell 3; have bz4 := bz.cell 4; have bzf := bz.free; have bzl := bz.lt; simp only [List.getElem?_cons_zero, List.getElem?_cons_succ] at bz0 bz1 bz2 bz3 bz4 bzl
          have bc0 := bc.cell 0; have bc1 := bc.cell 1; have bc2 := bc.cell 2; have bc3 := bc.cell 3; have bc4 := bc.cell 4; have bcf := bc.free; have bcl := bc.lt; simp only [List.getElem?_cons_zero, List.getElem?_cons_succ] at bc0 bc1 bc2 bc3 bc4 bcl
          have HZ := Lib.hid hz
          have HX2 : Hid (∀ y, valid y = true → fmt y = s.data.toList → (⟨o, a, b, c, z⟩ : Cd) = y) := Lib.hid (fun y h1 h2 => HX.out y ⟨h1, h2⟩)
          by_cases h0 : o = 0
          · have H0 := Lib.hid h0
            have e0 : (o == 0) = true := by simpa using h0
            clear h0
            go_wp2
            refine rn_ret_c24_t Tryd.results27 (S0 := w.heap.size) (v0_0 := .int .i64 0) (v0_1 := .int .i64 0) (v0_2 := .int .i64 0) (v0_3 := .int .i64 0) (v0_4 := .int .i16 0) (v1 := .int .i64 2) rfl (by go_simp) (by go_simp) (by go_simp) (by go_simp) (by go_simp) rfl ?_
            exact ⟨⟨o, a, b, c, z⟩, congrArg Ending.returned (parR_neg1 s _ (val_no H0.out)).symm, HX2.out, by repeat (first | with_reducible exact HB.out | with_reducible exact Grew.refl _ | with_reducible refine Grew.sc ?_ (by first | omega | (simp <;> omega)) _ _ | with_reducible refine Grew.alloc ?_ _ | with_reducible refine Grew.drw ?_)⟩
          · have H0 := Lib.hid h0
            have e0 : (o == 0) = false := by simpa using h0
            have HOB := Lib.hid ho
            clear h0
            go_wp2_with (go_at_call 25; (with_reducible refine (rformat_any ⟨o, a, b, c, z⟩ HZ.out _).mono ?_); rintro e w6 ⟨rfl, g1⟩; clear bz0 bz1 bz2 bz3 bz4 bzf bzl bc0 bc1 bc2 bc3 bc4 bcf bcl; replace bz := bz.grew g1; replace bc := bc.grew g1; replace HB := Lib.hid (HB.out.trans g1); clear g1; obtain ⟨fb, hfb⟩ : ∃ eb, (fmt ⟨o, a, b, c, z⟩ == s.toList) = eb := ⟨_, rfl⟩; have HFB := Lib.hid hfb; have bz0 := bz.cell 0; have bz1 := bz.cell 1; have bz2 := bz.cell 2; have bz3 := bz.cell 3; have bz4 := bz.cell 4; have bzf := bz.free; have bzl := bz.lt; simp only [List.getElem?_cons_zero, List.getElem?_cons_succ] at bz0 bz1 bz2 bz3 bz4 bzl; have bc0 := bc.cell 0; have bc1 := bc.cell 1; have bc2 := bc.cell 2; have bc3 := bc.cell 3; have bc4 := bc.cell 4; have bcf := bc.free; have bcl := bc.lt; simp only [List.getElem?_cons_zero, List.getElem?_cons_succ] at bc0 bc1 bc2 bc3 bc4 bcl)
            all_goals first
              | (refine rn_ret_c24_t Tryd.results27 (S0 := w.heap.size) (v0_0 := .int .i64 0) (v0_1 := .int .i64 0) (v0_2 := .int .i64 0) (v0_3 := .int .i64 0) (v0_4 := .int .i16 0) (v1 := .int .i64 2) rfl (by go_simp) (by go_simp) (by go_simp) (by go_simp) (by go_simp) rfl ?_; exact ⟨⟨o, a, b, c, z⟩, congrArg Ending.returned (parR_neg2 s _ (HFB.out.trans (not_t (by assumption)))).symm, HX2.out, by repeat (first | with_reducible exact HB.out | with_reducible exact Grew.refl _ | with_reducible refine Grew.sc ?_ (by first | omega | (simp <;> omega)) _ _ | with_reducible refine Grew.alloc ?_ _ | with_reducible refine Grew.drw ?_)⟩)
              | (refine rn_ret_c24_t Tryd.results27 (S0 := w.heap.size) (v0_0 := .int .i64 (o)) (v0_1 := .int .i64 (a)) (v0_2 := .int .i64 (b)) (v0_3 := .int .i64 (c)) (v0_4 := .int .i16 (z)) (v1 := .int .i64 0) rfl (by go_simp) (by go_simp) (by go_simp) (by go_simp) (by go_simp) rfl ?_; exact ⟨⟨o, a, b, c, z⟩, congrArg Ending.returned (parR_pos s _ (val_of rfl HO.out HOB.out H0.out (HFB.out.trans (not_f (by assumption)))) (HFB.out.trans (not_f (by assumption)))).symm, HX2.out, by repeat (first | with_reducible exact HB.out | with_reducible exact Grew.refl _ | with_reducible refine Grew.sc ?_ (by first | omega | (simp <;> omega)) _ _ | with_reducible refine Grew.alloc ?_ _ | with_reducible refine Grew.drw ?_)⟩)
              | trace_state
end Go.Proofs.YtddffijipphfeaaDoor
