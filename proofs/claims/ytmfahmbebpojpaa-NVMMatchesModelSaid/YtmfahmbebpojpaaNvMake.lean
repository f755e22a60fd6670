/-
  LAYER 7 (nvm): contracts of New, ReadBytes, Image, Load.
-/
import Derived.Test.YtmfahmbebpojpaaNvRead
import Derived.Test.YtmfahmbebpojpaaSlices
import Derived.Laws.CopyOwn
import Derived.ArgAppend
namespace Go.Proofs.Ytmfahmbebpojpaa
open Go Go.RowKit Go.IntWalk
set_option linter.unusedSimpArgs false
set_option maxRecDepth 8000

theorem info_u8 : (Try.prog.info? 5).map (fun i => (i.zero, i.size, i.bytes)) = some (some (.int .u8 0), 1, 1) := by kernel_rfl
/-- A slice of the call's own without room to spare is its whole block. -/
theorem Own.full {w : World} {base g n : Nat} {e : TypeId} {xs : List UInt8} (h : Own w base e (.slice (some ⟨g, 0, none⟩) n n) xs) : w.heap[g]? = some (.cells (bvs xs).toArray e) := by
  have hn := h.bin.1
  rcases h.2 with ⟨hv, _⟩ | ⟨g', cap, cur, hv, hb, hg, hc, hm, hs, ht⟩
  · simp at hv
  · simp only [Value.slice.injEq, Option.some.injEq, Addr.mk.injEq, and_true, true_and] at hv
    obtain ⟨rfl, h1, h2⟩ := hv
    rw [hg]
    congr 2
    apply Array.ext'
    rw [← ht]
    have : cur.toList.length = n * 1 := by simp; omega
    rw [List.take_of_length_le (by omega)]
theorem Own.of_heap {w : World} {base g : Nat} {e : TypeId} {xs : List UInt8} (h : w.heap[g]? = some (.cells (bvs xs).toArray e)) (hb : base ≤ g) (hm : xs.length ≤ 9223372036854775807) : Own w base e (.slice (some ⟨g, 0, none⟩) xs.length xs.length) xs := by
  refine ⟨by simp [bvs_len], .inr ⟨g, xs.length, (bvs xs).toArray, rfl, hb, h, Nat.le_refl _, by simpa [maxLen] using hm, by simp [bvs_len], ?_⟩⟩
  rw [Nat.mul_one]
  exact List.take_of_length_le (by simp [bvs_len])
section
variable {P : Program} {w : World} {ops : Array Oper} {rest : List Oper} {o : Oper} {a : Act} {Q : Exit → Act → World → Prop}
/-- 'copy(d, s)' where d is a whole block and s is no shorter. -/
theorem wpList_copy_take (hgd : o.guard = none) (d s : Operand) (dT sT : TypeId) (ho : o.op = .call { callee := .builtin .copy, args := #[d, s], argTypes := #[dT, sT] }) (elem : TypeId) (hu : P.underlying dT = some (.slice elem)) (hsz : (P.info? elem).map (·.size) = some 1)
    (g n dCap : Nat) (t : TypeId) (xs : List UInt8) (hd : a.eval d = .slice (some ⟨g, 0, none⟩) n dCap) (hg : w.heap[g]? = some (.cells (bvs xs).toArray t)) (hx : xs.length = n)
    (sp : Option Addr) (m c : Nat) (ys : List UInt8) (hs : a.eval s = .slice sp m c) (hl : ys.length = m) (hin : Bin w sp c ys) (hnm : n ≤ m)
    (h : ∀ w', Hid (w'.heap[g]? = some (.cells (bvs (ys.take n)).toArray t)) → Hid (Chg w w' (fun k => k = g)) → wpList P ops Q rest (a.put o.dst (.int .i64 (n : Int))) w') : wpList P ops Q (o :: rest) a w := by
  subst hx hl
  have hmin : Nat.min ys.length xs.length = xs.length := Nat.min_eq_right hnm
  rcases Nat.eq_zero_or_pos xs.length with h0 | hpos
  · refine wpList_copy_nothing hgd d s dT sT ho elem hu hsz _ _ _ _ _ _ hd hs (by rw [hmin, h0]) ?_
    obtain rfl : xs = [] := List.eq_nil_of_length_eq_zero h0
    have := h w (Lib.hid (by simpa using hg)) (Lib.hid (Chg.refl _ _))
    exact this
  · obtain ⟨b, o', rfl, hc⟩ := hin.cells (by omega)
    have hlen : (bvs (ys.take xs.length)).length = xs.length := by simp [bvs_len]; omega
    refine wpList_copy_own hgd d s dT sT ho elem hu hsz g 0 _ _ ⟨b, o', none⟩ _ _ hd hs (bvs xs).toArray t hg (bvs (ys.take xs.length)) (by rw [hlen]; exact hmin.symm) (fun j v hj => ?_) (by rw [hlen]; simp [bvs_len]) (bvs_one _) ?_
    · have hjl : j < xs.length := by have := (List.getElem?_eq_some_iff.1 hj).1; omega
      rw [bvs_get (by simp; omega)] at hj
      obtain rfl := Option.some.inj hj
      rw [Go.WideShapes.add_plain, hc j (by omega)]
      congr 2
      simp [List.getD, hjl]
    · rw [hlen]
      refine h _ (Lib.hid ?_) (Lib.hid ⟨rfl, rfl, rfl, by simp [World.setRow], fun k _ hk => setRow_other w g k _ hk⟩)
      rw [setRow_heap w g _ _ t _ hg]
      congr 2
      rw [Nat.zero_add, List.drop_of_length_le (by simp [bvs_len])]
      simp
end
theorem new_any (z : Int) (w : World) (hz : 1 ≤ z ∧ z ≤ 65536) :
    Calls Try.prog 11 #[.int .i64 z] w fun e w' => ∃ g q, e = .returned (.tuple #[.pointer (some ⟨q, 0, none⟩), .int .i64 0]) ∧ NvS w' g q (nv0 z.toNat) ∧ Grew w w' ∧ w.heap.size ≤ g ∧ w.heap.size ≤ q := by
  obtain ⟨n, rfl⟩ : ∃ n : Nat, z = (n : Int) := ⟨z.toNat, by omega⟩
  have hz1 : ¬ (n : Int) < 1 := by omega
  have hz2 : ¬ (65536 : Int) < (n : Int) := by omega
  have hz3 : n ≤ 65536 := by omega
  clear hz
  rw [Int.toNat_natCast]
  go_enter Try.func11, Try.ntmps11
  go_wp2_with (at_make; refine wpList_make_zeros rfl _ _ 29 rfl w.heap.size 5 Try.underlying29 info_u8 _ _ _ _ n rfl rfl rfl rfl (by omega) (Nat.le_refl _) ?_; intro w1 ho1 hb1)
  go_ret2
  have hf := ho1.full
  have hlt := lt_of_heap hf
  refine ⟨w.heap.size, w1.heap.size, rfl, ⟨?_, ?_, trivial, by simpa [nv0] using hz3⟩, hb1.alloc (Below.size hb1) _, Nat.le_refl _, Below.size hb1⟩
  · rw [heap_alloc_new]
    simp [nv0, Mt.val]
  · exact (heap_alloc_old w1 _ hlt).trans hf
theorem new_bad (z : Int) (w : World) (hz : ¬ (1 ≤ z ∧ z ≤ 65536)) :
    Calls Try.prog 11 #[.int .i64 z] w fun e w' => e = .returned (.tuple #[.pointer none, .int .i64 1]) ∧ w = w' := by
  by_cases hz1 : z < 1
  · go_enter Try.func11, Try.ntmps11
    go_wp2
    go_ret2
    exact ⟨rfl, rfl⟩
  · have hz2 : (65536 : Int) < z := by omega
    go_enter Try.func11, Try.ntmps11
    go_wp2
    go_ret2
    exact ⟨rfl, rfl⟩
theorem under_bytes : Try.prog.underlying 29 = some (.slice (Try.prog.elem 29)) := by kernel_rfl
theorem size_u8 (w : World) : (sizeOf (Try.prog.elem 29)).run Try.prog w = .ok 1 w := by kernel_rfl
theorem isz_u8 : (Try.prog.info? 5).map (·.size) = some 1 := by kernel_rfl
theorem readBytes_any (g q : Nat) (s : NV) (a n : Int) (w : World) (h : NvS w g q s) (hn : n ≤ 9223372036854775807) :
    Calls Try.prog 21 #[.pointer (some ⟨q, 0, none⟩), .int .i64 a, .int .i64 n] w fun e w' => ∃ p c, e = .returned (.slice p (rds s a n).length c) ∧ Own w' w.heap.size 5 (.slice p (rds s a n).length c) (rds s a n) ∧ Grew w w' := by
  have HV := Lib.hid (valid_any g q s a n w h hn)
  have H := Lib.hid h
  have hm := h.most
  clear h hn
  cases hv : validB s.B.length a n with
  | false =>
    have e : rds s a n = [] := by simp [rds, hv]
    rw [e]
    rw [hv] at HV
    clear e hv
    go_enter Try.func21, Try.ntmps21
    go_wp2_with (go_at_call 39; (with_reducible refine HV.out.mono ?_); rintro e _ ⟨rfl, rfl⟩)
    go_ret
    exact ⟨none, 0, rfl, World.ownsRow_nil w _ _ 1, Grew.refl _⟩
  | true =>
    obtain ⟨ha0, hn0, ha1⟩ := validB_iff.1 hv
    obtain ⟨k, rfl⟩ : ∃ k : Nat, a = (k : Int) := ⟨a.toNat, by omega⟩
    obtain ⟨m, rfl⟩ : ∃ m : Nat, n = (m : Int) := ⟨n.toNat, by omega⟩
    have hkm : k + m ≤ s.B.length := by omega
    obtain ⟨h0, h1, -⟩ := H.out.rc
    have hql := H.out.lt.2
    cases ho : s.off with
    | true =>
      have e : rds s k m = List.replicate m 0 := by simp [rds, hv, ho]
      rw [e, List.length_replicate]
      rw [hv] at HV
      rw [ho] at h1
      clear e hv ho
      go_enter Try.func21, Try.ntmps21
      go_wp2_with (first
        | (go_at_call 39; (with_reducible refine HV.out.mono ?_); rintro e _ ⟨rfl, rfl⟩)
        | (at_make; refine wpList_make_zeros rfl _ _ 29 rfl w.heap.size 5 Try.underlying29 info_u8 _ _ _ _ m rfl rfl rfl rfl (by omega) (Nat.le_refl _) ?_; intro w1 ho1 hb1; have hc1 := (hb1.cell (p := ⟨q, 1, none⟩) hql).trans h1))
      go_ret
      exact ⟨_, _, rfl, by simpa using ho1, hb1⟩
    | false =>
      have e : rds s k m = (s.B.drop k).take m := by simp [rds, hv, ho]
      have el : ((s.B.drop k).take m).length = m := by simp; omega
      rw [e, el]
      rw [hv] at HV
      rw [ho] at h1
      clear e hv ho
      have HB := Lib.hid H.out.bin
      generalize hL : s.B.length = L at h0 HB hm hkm
      have HL := Lib.hid hL
      clear hL ha1
      go_enter Try.func21, Try.ntmps21
      go_wp2_with (first
        | (go_at_call 39; (with_reducible refine HV.out.mono ?_); rintro e _ ⟨rfl, rfl⟩)
        | (at_make; refine wpList_make_zeros rfl _ _ 29 rfl w.heap.size 5 Try.underlying29 info_u8 _ _ _ _ m rfl rfl rfl rfl (by omega) (Nat.le_refl _) ?_; intro w1 ho1 hb1; have hc0 := (hb1.cell (p := ⟨q, 0, none⟩) hql).trans h0; have hc1 := (hb1.cell (p := ⟨q, 1, none⟩) hql).trans h1; have O1 := Lib.hid ho1.full; have B1 := Lib.hid hb1; have X1 := Lib.hid (HB.out.kept hb1); clear ho1 hb1)
        | (refine wpList_cut_l rfl (.tmp 24) _ (.tmp 25) rfl under_bytes size_u8 _ L L s.B rfl HL.out X1.out _ _ k rfl rfl (by omega) ?_; intro pD cD nD ds hdl hd hnD hdb; have D1 := Lib.hid hdb; clear hdb)
        | (refine wpList_copy_take rfl (.tmp 20) (.tmp 26) 29 29 rfl 5 Try.underlying29 isz_u8 w.heap.size m m 5 (List.replicate m 0) rfl O1.out (by simp) pD nD cD ds rfl hdl D1.out (by omega) ?_; intro w2 hg2 hC2))
      go_ret
      refine ⟨_, _, rfl, ?_, below_lift B1.out hC2.out (fun j hj => by omega) (Nat.le_refl _)⟩
      have := Own.of_heap (base := w.heap.size) hg2.out (Nat.le_refl _) (by simp; omega)
      rw [hd.out] at this
      rwa [el] at this
/-- What Load does. -/
def ldS (s : NV) (xs : List UInt8) : NV := if xs.length = s.B.length then { s with B := xs } else s
theorem clone_any (p : Addr) (n c : Nat) (xs : List UInt8) (w : World) (hl : xs.length = n) (hx : Bin w (some p) c xs) (hm : n ≤ 65536) :
    Calls Try.prog 41 #[.slice (some p) n c] w fun e w' => ∃ p' c', e = .returned (.slice p' n c') ∧ Own w' w.heap.size 5 (.slice p' n c') xs ∧ Grew w w' := by
  have q22 : ∀ (w : World) (a : Option Addr) (n c n' c' : Nat), (binOp .eql 29 (.slice a n c) (.slice none n' c')).run Try.prog w = .ok (.bool a.isNone) w := fun w a n c n' c' => Lib.run_eql_slice_nil w _ _ a n c n' c' Try.underlying29
  subst hl
  have HX := Lib.hid hx
  clear hx
  go_enter Try.func41, Try.ntmps41
  go_wp2_with (at_builtin; refine wpList_append_bytes rfl (.tmp 5) _ 29 rfl w.heap.size 5 _ Try.underlying29 info_u8 rfl _ [] rfl (Own.lit w [] 0 _ _ _ rfl rfl (by omega) (Nat.le_refl _)) _ _ c xs rfl rfl (HX.out.kept ((Below.refl _ _).alloc (Nat.le_refl _) _)) (by simp; omega) (size_alloc_le _ (Nat.le_refl _)) ?_; intro p1 c1 us w1 hu ho1 hb1)
  go_ret
  have e : us = xs := by simpa using hu.out
  subst e
  exact ⟨_, _, rfl, ho1, ((Below.refl _ w).alloc (Nat.le_refl _) _).trans hb1⟩
theorem image_any (g q : Nat) (s : NV) (w : World) (h : NvS w g q s) :
    Calls Try.prog 29 #[.pointer (some ⟨q, 0, none⟩)] w fun e w' => ∃ p c, e = .returned (.slice p s.B.length c) ∧ Own w' w.heap.size 5 (.slice p s.B.length c) s.B ∧ Grew w w' := by
  have HC := Lib.hid (clone_any ⟨g, 0, none⟩ s.B.length s.B.length s.B w rfl h.bin h.most)
  have h0 := h.rc.1
  clear h
  generalize s.B.length = l at h0 HC
  go_enter Try.func29, Try.ntmps29
  go_wp2_with (go_at_call 41; (with_reducible refine HC.out.mono ?_); rintro e w1 ⟨p1, c1, rfl, o1, g1⟩)
  go_ret
  exact ⟨_, _, rfl, o1, g1⟩
theorem load_any (g q : Nat) (s : NV) (p : Option Addr) (n c : Nat) (xs : List UInt8) (w : World) (h : NvS w g q s) (hl : xs.length = n) (hx : Bin w p c xs) :
    Calls Try.prog 28 #[.pointer (some ⟨q, 0, none⟩), .slice p n c] w fun e w' => e = .returned (.int .i64 (if xs.length = s.B.length then 0 else 1)) ∧ NvS w' g q (ldS s xs) ∧ Chg w w' (Nvb g q s.mt) := by
  have h0 := h.rc.1
  have hm := h.most
  have H := Lib.hid h
  have HX := Lib.hid hx
  clear h hx
  by_cases he : xs.length = s.B.length
  · rw [if_pos he, ldS, if_pos he]
    have hr := H.out.row
    rw [← he] at h0 hm
    rw [hl] at h0 hm he
    have HR := Lib.hid hr
    have HE := Lib.hid he
    have HL := Lib.hid hl
    clear hr he hl
    go_enter Try.func28, Try.ntmps28
    go_wp2_with (refine wpList_copy_take rfl (.tmp 16) (.tmp 17) 29 29 rfl 5 Try.underlying29 isz_u8 g n n 5 s.B rfl HR.out HE.out.symm p n c xs rfl HL.out HX.out (Nat.le_refl _) ?_; intro w2 hg2 hC2)
    go_ret
    have hg := hg2.out
    rw [List.take_of_length_le (by rw [HL.out]; exact Nat.le_refl _)] at hg
    exact ⟨rfl, H.out.set_row hC2.out hg (HL.out.trans HE.out), hC2.out.mono fun k hk => .inl hk⟩
  · rw [if_neg he, ldS, if_neg he]
    have he' : ((n : Int) != (s.B.length : Int)) = true := by simp; omega
    clear hl he
    go_enter Try.func28, Try.ntmps28
    go_wp2
    go_ret
    exact ⟨rfl, H.out, Chg.refl _ _⟩
end Go.Proofs.Ytmfahmbebpojpaa
