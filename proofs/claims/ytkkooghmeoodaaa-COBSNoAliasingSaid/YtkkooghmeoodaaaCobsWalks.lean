/-
  CONTRACTS OF LAYER 3 (cobs) AND OF ITS REFERENCE: lengths, runs, encodings.
-/
import Derived.Test.YtkkooghmeoodaaaRows
import Derived.Test.YtkkooghmeoodaaaSlices
import Derived.Test.YtkkooghmeoodaaaCobsPlain
import Derived.Test.YtkkooghmeoodaaaShelf
import Derived.Lib.IndexLaws
import Derived.WalkKit
import Derived.WalkSpells
import Derived.WalkLawsBesides
import Derived.Lib.Hide
import Derived.Deep.RegionHeld3
namespace Go.Proofs.Ytkkooghmeoodaaa
open Go.RowKit Go.IntWalk

theorem info_u8 : (Try.prog.info? 5).map (fun i => (i.zero, i.size, i.bytes)) = some (some (.int .u8 0), 1, 1) := by kernel_rfl
theorem elem_u8 : Try.prog.elem 22 = 5 := by kernel_rfl
theorem under_bytes : Try.prog.underlying 22 = some (.slice (Try.prog.elem 22)) := by kernel_rfl
theorem size_u8 (w : World) : (sizeOf (Try.prog.elem 22)).run Try.prog w = .ok 1 w := by rw [elem_u8]; exact Try.sizeOf5 w

/-- What bytes.IndexByte(xs, 0) is. -/
def Zat (xs : List UInt8) (z : Int) : Prop := (z = -1 ∧ Nz xs) ∨ ∃ k : Nat, z = k ∧ k < xs.length ∧ Nz (xs.take k) ∧ xs.getD k 0 = 0
theorem bytesOf_back (xs : List UInt8) : Lib.bytesOf (xs.map fun c => (c.toNat : Int)) = xs := by
  unfold Lib.bytesOf
  rw [List.map_map]
  conv => rhs; rw [← List.map_id xs]
  refine List.map_congr_left fun c _ => ?_
  simp
theorem zat_any (xs : List UInt8) : Zat xs (Lib.indexByte xs 0) := by
  rcases Int.lt_or_le (Lib.indexByte xs 0) 0 with h | h
  · have h1 : Lib.indexByte xs 0 = -1 := by have := Lib.indexByte_ge xs 0; omega
    refine .inl ⟨h1, fun c hc e => ?_⟩
    obtain ⟨k, hk, rfl⟩ := List.getElem_of_mem hc
    exact Lib.indexByte_none h1 k (by rw [List.getElem?_eq_getElem hk, e])
  · obtain ⟨k, hk⟩ : ∃ k : Nat, Lib.indexByte xs 0 = k := ⟨_, (Int.toNat_of_nonneg h).symm⟩
    obtain ⟨h1, h2⟩ := Lib.indexByte_some hk
    have hl : k < xs.length := (List.getElem?_eq_some_iff.1 h1).1
    refine .inr ⟨k, hk, hl, (nz_get _ _).2 fun i hi hil e => ?_, by simp [List.getD, h1]⟩
    refine h2 i hi ?_
    rw [List.getElem?_eq_getElem hil, ← e]
    simp [List.getD, hil]
theorem index_any (p : Option Addr) (n c : Nat) (xs : List UInt8) (w : World) (hl : xs.length = n) (h : Bin w p c xs) :
    Calls Try.prog 25 #[.slice p n c, .int .u8 0] w fun e w' => ∃ z, e = .returned (.int .i64 z) ∧ Zat xs z ∧ w = w' := by
  subst hl
  cases p with
  | none =>
    have hc := h.bare rfl
    have hcap := h.cap
    obtain rfl : xs = [] := List.eq_nil_of_length_eq_zero (by omega)
    subst hc
    refine (Try.bytes_IndexByte_nil 0 w).mono ?_
    rintro e w' ⟨rfl, rfl⟩
    exact ⟨_, rfl, .inl ⟨rfl, fun c hc => by cases hc⟩, rfl⟩
  | some a =>
    refine (Try.bytes_IndexByte_at a _ c (xs.map fun c => (c.toNat : Int)) 0 w (by simp) fun i hi => ?_).mono ?_
    · obtain ⟨b, o, hp, hc⟩ := h.cells (by omega)
      obtain rfl := Option.some.inj hp
      rw [Go.WideShapes.add_plain, hc i hi]
      simp [bv, List.getD, hi]
    · rintro e w' ⟨rfl, rfl⟩
      rw [bytesOf_back]
      exact ⟨_, rfl, zat_any xs, rfl⟩

theorem ret_i64 {a b : Int} (h : a = b) : Ending.returned (.int .i64 a) = .returned (.int .i64 b) := by rw [h]
/-- What Size returns. -/
def sz (z : Int) : Int := if z < 0 then 0 else top z.toNat + 1
theorem sz_nat (n : Nat) : sz n = top n + 1 := by unfold sz; rw [if_neg (by omega)]; simp
theorem size_int (z : Int) (h0 : -9223372036854775808 ≤ z) (h : z ≤ 1099511627776) (w : World) :
    Calls Try.prog 17 #[.int .i64 z] w fun e w' => e = .returned (.int .i64 (sz z)) ∧ w = w' := by
  go_enter Try.func17, Try.ntmps17
  go_wp2
  all_goals go_ret
  · exact ⟨ret_i64 (by unfold sz; rw [if_pos (by assumption)]), rfl⟩
  · rename_i hz
    have hz : z = 0 := by simpa using hz
    exact ⟨ret_i64 (by subst hz; rfl), rfl⟩
  · rename_i h1 hz
    have hz : z ≠ 0 := by simpa using hz
    have e1 : (z - 1).tdiv 254 = (z - 1) / 254 := Int.tdiv_eq_ediv_of_nonneg (by omega)
    refine ⟨ret_i64 ?_, rfl⟩
    rw [e1, wrap64_in (z + 1 + (z - 1) / 254) (by omega), wrap64_in _ (by omega)]
    unfold sz top; omega
theorem rsize_int (z : Int) (h0 : -9223372036854775808 ≤ z) (h : z ≤ 1099511627776) (w : World) :
    Calls Try.prog 18 #[.int .i64 z] w fun e w' => e = .returned (.int .i64 (sz z)) ∧ w = w' := by
  go_enter Try.func18, Try.ntmps18
  go_wp2
  all_goals go_ret
  · exact ⟨ret_i64 (by unfold sz; rw [if_pos (by assumption)]), rfl⟩
  · rename_i hz
    have hz : z = 0 := by simpa using hz
    exact ⟨ret_i64 (by subst hz; rfl), rfl⟩
  · rename_i h1 hz
    have hz : z ≠ 0 := by simpa using hz
    exact ⟨ret_i64 (by unfold sz top; omega), rfl⟩

theorem zat_neg {xs ys : List UInt8} {n : Nat} {z : Int} (hl : xs.length = n) (hy : ys = xs.take (min n 254)) (hz : Zat ys z) (h : z < 0) : min n 254 = rn xs := by
  subst hl hy
  rcases hz with ⟨_, hz⟩ | ⟨k, rfl, _⟩
  · exact (rn_unique _ _ (by omega) (by omega) hz (by omega)).symm
  · omega
theorem zat_pos {xs ys : List UInt8} {n : Nat} {z : Int} (hl : xs.length = n) (hy : ys = xs.take (min n 254)) (hz : Zat ys z) (h : 0 ≤ z) : z = rn xs := by
  subst hl hy
  rcases hz with ⟨rfl, hz⟩ | ⟨k, rfl, hk, h1, h2⟩
  · omega
  · simp at hk
    rw [List.take_take, show min k (min xs.length 254) = k by omega] at h1
    congr 1
    refine (rn_unique _ _ (by omega) (by omega) h1 fun _ _ => ?_).symm
    have e : (xs.take (min xs.length 254)).getD k 0 = xs.getD k 0 := by rw [List.getD, List.getD, List.getElem?_take_of_lt hk]
    rw [← e]
    exact h2
theorem run_any (p : Option Addr) (n c : Nat) (xs : List UInt8) (w : World) (hl : xs.length = n) (h : Bin w p c xs) :
    Calls Try.prog 24 #[.slice p n c] w fun e w' => ∃ k : Nat, e = .returned (.int .i64 (k : Int)) ∧ k ≤ 254 ∧ k ≤ n ∧ Hid (k = rn xs) ∧ w = w' := by
  have hcap := h.cap
  have hmax := h.max
  have hr := rn_le xs
  go_enter Try.func24, Try.ntmps24
  go_wp2_with (first
    | (refine wpList_cut_h rfl (.tmp 4) _ (.tmp 7) rfl under_bytes size_u8 p n c xs rfl hl h _ _ (min n 254) rfl (by omega) (by omega) ?_; intro ys hyl hy hb)
    | (go_at_call 25; (with_reducible refine (index_any _ _ _ ys _ hyl hb).mono ?_); rintro e w1 ⟨z, rfl, hz, rfl⟩))
  · go_ret
    exact ⟨rn xs, ret_i64 (zat_pos hl hy.out hz (by assumption)), hr.1, by omega, rfl, rfl⟩
  · go_ret
    exact ⟨rn xs, ret_i64 (congrArg _ (zat_neg hl hy.out hz (by assumption))), hr.1, by omega, rfl, rfl⟩

/-! ### Encode -/
theorem code_cell (k : Nat) (h : k ≤ 254) : #[Value.int .u8 ((k : Int) + 1)] = (bvs [UInt8.ofNat (k + 1)]).toArray := by
  show _ = #[bv _]
  rw [bv_ofNat _ (by omega)]
  simp
theorem zero_cell : #[Value.int .u8 0] = (bvs [0]).toArray := rfl
/-- One group is written. -/
theorem enc_step (ds : List UInt8) (k : Nat) (hk : k = rn ds) (h : ds.length ≠ k) : enc ds = (UInt8.ofNat (k + 1) :: ds.take k) ++ enc (ds.drop (stp k)) := by
  subst hk
  rw [enc, dif_neg h, List.cons_append]
theorem enc_stop (ds : List UInt8) (k : Nat) (hk : k = rn ds) (h : ds.length = k) : enc ds = UInt8.ofNat (k + 1) :: ds.take k := by
  subst hk
  rw [enc, dif_pos h, List.append_nil]
theorem enc_size (xs zs ds : List UInt8) (h : zs ++ enc ds = enc xs) : zs.length + ds.length < top xs.length + 1 := by
  have h1 := congrArg List.length h
  have h2 := (enc_Enc xs).le
  have h3 := (enc_Enc ds).ge
  simp at h1
  omega
theorem top_le (n : Nat) : top n ≤ 2 * n + 1 := by unfold top; omega

set_option maxRecDepth 20000 in
theorem encode_any (p : Option Addr) (n c : Nat) (xs : List UInt8) (w : World) (hl : xs.length = n) (hs : n ≤ 4294967296) (h : Bin w p c xs) :
    Calls Try.prog 13 #[.slice p n c] w fun e w' => ∃ p' c', e = .returned (.slice p' (encz xs).length c') ∧ Own w' w.heap.size 5 (.slice p' (encz xs).length c') (encz xs) ∧ Below w.heap.size w w' := by
  subst hl
  have ht := top_le xs.length
  have hsz := sz_nat xs.length
  go_enter Try.func13, Try.ntmps13
  go_wp2_with (first
    | (go_at_call 17; (with_reducible refine (size_int _ (by omega) (by omega) _).mono ?_); rintro e w1 ⟨rfl, rfl⟩)
    | (at_make; (refine wpList_make_bytes rfl _ _ 22 rfl w.heap.size 5 _ Try.underlying22 info_u8 _ _ _ (top xs.length + 1) rfl rfl (by omega) (by omega) (Nat.le_refl _) ?_; intro w1 ho1 hb1)))
  go_loopw [0, 3, 4] (fun b v i wr => ∃ (p1 : Option Addr) (n1 c1 : Nat) (ds : List UInt8) (p2 : Option Addr) (n2 c2 : Nat) (zs : List UInt8), b = .slice p1 n1 c1 ∧ v = .slice p2 n2 c2 ∧ ds.length = n1 ∧ Hid (Bin w p1 c1 ds) ∧ Hid (Own wr w.heap.size 5 (.slice p2 n2 c2) zs) ∧ Hid (Below w.heap.size w wr) ∧ Hid (zs ++ enc ds = enc xs)) (fun b _ _ _ => slLen b)
  case atStart => exact ⟨p, _, c, xs, _, _, _, [], rfl, rfl, rfl, h, ho1, hb1, rfl⟩
  case round =>
    obtain ⟨p1, n1, c1, ds, p2, n2, c2, zs, rfl, rfl, hdl, hds, hzs, hbw, hen⟩ := hrel
    have hsz2 := enc_size _ _ _ hen.out
    have hdc := hds.out.cap
    have hdm := hds.out.max
    obtain rfl := hzs.out.bin.1
    subst hdl
    go_wp2_with (first
      | (go_at_call 24; (with_reducible refine (run_any _ _ _ ds _ rfl (hds.out.kept hbw.out)).mono ?_); rintro e w2 ⟨k, rfl, hk1, hk2, hk, rfl⟩)
      | (at_builtin; refine wpList_append_bytes rfl (.tmp 11) _ 22 rfl w.heap.size 5 _ Try.underlying22 info_u8 rfl _ zs rfl (hzs.out.alloc _) _ 1 1 _ rfl rfl (Bin.made _ _ 1 _ _ _ (code_cell _ hk1) rfl (by omega)) (by simp; omega) (size_alloc_le _ hbw.out.size) ?_; intro p3 c3 ys w3 hy ho3 hb3'; have hb3 := Lib.hid ((hbw.out.alloc hbw.out.size _).trans hb3'); clear hb3')
      | (refine wpList_cut_h rfl (.tmp 18) _ (.tmp 19) rfl under_bytes size_u8 p1 _ c1 ds rfl rfl hds.out _ _ k rfl rfl (by omega) ?_; intro gs hgl hg hgb)
      | (at_builtin; refine wpList_append_bytes rfl (.tmp 17) _ 22 rfl w.heap.size 5 _ Try.underlying22 info_u8 rfl _ ys rfl ho3 _ _ _ gs rfl hgl (hgb.kept hb3.out) (by rw [hy.out]; simp; omega) hb3.out.size ?_; intro p4 c4 us w4 hu ho4 hb4'; have hb4 := Lib.hid (hb3.out.trans hb4'); clear hb4')
      | (refine wpList_cut_l rfl (.tmp 22) _ (.tmp 23) rfl under_bytes size_u8 p1 _ c1 ds rfl rfl hds.out _ _ k rfl rfl (by omega) ?_; intro p5 c5 n5 es hel he hn5 heb)
      | (at_builtin; refine wpList_append_bytes rfl (.tmp 28) _ 22 rfl w.heap.size 5 _ Try.underlying22 info_u8 rfl _ us rfl (ho4.alloc _) _ 1 1 _ rfl rfl (Bin.made _ _ 1 _ _ _ zero_cell rfl (by omega)) (by rw [hu.out, hy.out]; simp; omega) (size_alloc_le _ hb4.out.size) ?_; intro p6 c6 ts w6 ht ho6 hb6)
      | (refine wpList_cut_l rfl (.tmp 33) _ (.const (.int .i64 1)) rfl under_bytes size_u8 p5 _ c5 es rfl (hel.trans hn5) heb _ _ 1 rfl rfl (by simp_all; omega) ?_; intro p7 c7 n7 fs hfl hf hn7 hfb))
    · go_ret
      rename_i hz
      have hz : ds.length = k := by simp at hz; omega
      have e : ts = encz xs := by
        rw [ht.out, hu.out, hy.out, hg.out, encz, ← hen.out, enc_stop ds k hk.out hz]
        simp
      subst e
      exact ⟨p6, c6, rfl, ho6, (hb4.out.alloc hb4.out.size _).trans hb6⟩
    · rename_i hz hk3
      have hz : ds.length ≠ k := by simp at hz; omega
      go_roundw
      case rel =>
        refine ⟨p7, _, c7, fs, p4, _, c4, us, rfl, rfl, (by omega), hfb, ho4, hb4, Lib.hid ?_⟩
        rw [hu.out, hy.out, hg.out, ← hen.out, enc_step ds k hk.out hz, hf.out, he.out, show stp k = k + 1 by simp [stp]; omega, List.drop_drop]
        simp
      case measure => simp [slLen]; omega
    · rename_i hz hk3
      have hz : ds.length ≠ k := by simp at hz; omega
      go_roundw
      case rel =>
        refine ⟨p5, _, c5, es, p4, _, c4, us, rfl, rfl, hel.trans hn5, heb, ho4, hb4, Lib.hid ?_⟩
        rw [hu.out, hy.out, hg.out, ← hen.out, enc_step ds k hk.out hz, he.out, show stp k = k by simp [stp]; omega]
        simp
      case measure => simp [slLen]; omega
end Go.Proofs.Ytkkooghmeoodaaa
