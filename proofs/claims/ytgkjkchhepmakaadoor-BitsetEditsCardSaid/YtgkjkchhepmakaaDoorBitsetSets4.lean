/-
  CONTRACTS OF LAYER 4 (bitset), FURTHER: Range, With, Without.
-/
import Derived.Test.YtgkjkchhepmakaaDoorBitsetSets3
namespace Go.Proofs.YtgkjkchhepmakaaDoor
open Go.RowKit Go.IntWalk

/-- The elements below z. -/
def blw (z : Int) (m : Nat) : Bool := decide (m < 65536) && decide ((m : Int) < z)
theorem blw_eq (z : Int) (K : Nat) (hK : min (max z 0) 65536 = (K : Int)) (m : Nat) : decide (m < K) = blw z m := by
  unfold blw
  rw [Bool.eq_iff_iff, Bool.and_eq_true, decide_eq_true_eq, decide_eq_true_eq, decide_eq_true_eq]
  omega
theorem sub_num (r : Nat) (h : r < 64) : IntKind.u64.wrap (IntKind.u64.wrap ((2 : Int) ^ r) - 1) = ((BitVec.ofNat 64 (2 ^ r - 1)).toNat : Int) := by
  have h1 : 2 ^ r < 2 ^ 64 := Nat.pow_lt_pow_right (by omega) h
  have h2 := Nat.two_pow_pos r
  rw [shl_num r h, BitVec.toNat_ofNat, BitVec.toNat_ofNat, IntKind.wrap_u64]
  omega
theorem ones_cell : #[Value.int .u64 18446744073709551615] = ([BitVec.allOnes 64].map wv).toArray := by
  simp [wv]
theorem word_cell (u : W64) : #[Value.int .u64 (u.toNat : Int)] = ([u].map wv).toArray := by simp [wv]
theorem Rd.made_at {α : Type} (enc : α → Value) (w : World) (xs : List α) (n g : Nat) (e : TypeId) (cs : Array Value) (fr : Nat × Nat) (hg : g = w.heap.size) (hc : cs = (xs.map enc).toArray) (hn : xs.length = n) (hs : n ≤ 9223372036854775807) : Rd enc (w.alloc (.cells cs e fr)) (some ⟨g, 0, none⟩) n xs := by
  subst hg
  exact Rd.made enc w xs n e cs fr hc hn hs
theorem cell_alloc {w : World} {a : Addr} {v : Value} (h : w.cell? a = some v) (o : Obj) : (w.alloc o).cell? a = some v := (((Below.refl w.heap.size w).alloc (Nat.le_refl _) o).cell (p := a) (World.block_lt_of_cell? _ _ h)).trans h
theorem free_alloc {w : World} {a : Addr} {v : Value} (h : w.cell? a = some v) (o : Obj) (hf : w.frozen? a = false) : (w.alloc o).frozen? a = false := (below_frozen ((Below.refl w.heap.size w).alloc (Nat.le_refl _) o) (p := a) (World.block_lt_of_cell? _ _ h)).trans hf
theorem below_any (z : Int) (w : World) :
    Calls Tryd.prog 38 #[.int .i64 z] w fun e w' => ∃ r k j, e = .returned (.agg #[.slice r k j]) ∧ New w r ∧ St w' r k j (blw z) ∧ Below w.heap.size w w' := by
  obtain ⟨K, hK⟩ : ∃ K : Nat, min (max z 0) 65536 = (K : Int) := ⟨(min (max z 0) 65536).toNat, by omega⟩
  have hblw := blw_eq z K hK
  have hK6 : K ≤ 65536 := by omega
  obtain ⟨q, hq⟩ : ∃ q, K / 64 = q := ⟨_, rfl⟩
  obtain ⟨r, hr⟩ : ∃ r, K % 64 = r := ⟨_, rfl⟩
  have e1 : (K : Int) / 64 = (q : Int) := by omega
  have e2 : (K : Int) % 64 = (r : Int) := by omega
  have e3 : (r : Int) ≤ 64 := by omega
  have hq1 : q ≤ 1024 := by omega
  have hsub := sub_num r (by omega)
  have hpart : 0 < r → Sets (List.replicate q (BitVec.allOnes 64) ++ [BitVec.ofNat 64 (2 ^ r - 1)]) (blw z) := fun h => by
    have := (Sets.part K hK6 (by omega)).congr hblw
    rwa [hq, hr] at this
  have hfull : r = 0 → Sets (List.replicate q (BitVec.allOnes 64)) (blw z) := fun h => by
    have := (Sets.full K hK6 (by omega)).congr hblw
    rwa [hq] at this
  generalize BitVec.ofNat 64 (2 ^ r - 1) = t at hsub hpart
  go_enter Tryd.func38, Tryd.ntmps38
  go_wp2_with (first
    | (go_at_call 49; generalize hW : World.alloc _ _ = W0; have hb0 := Lib.hid (show Below w.heap.size w W0 by rw [← hW]; exact below2 w _ _); have hsz := Lib.hid (show W0.heap.size = w.heap.size + 2 by rw [← hW]; simp); have hrd := Lib.hid (show Rd wv W0 (some ⟨w.heap.size + 1, 0, none⟩) 1 [BitVec.allOnes 64] by rw [← hW]; exact Rd.made_at wv _ _ 1 _ _ _ _ (by simp) ones_cell rfl (by omega)); have hc0 := Lib.hid (show W0.cell? ⟨w.heap.size, 0, none⟩ = some (.slice none 0 0) by rw [← hW]; simp [go_sem]); have hf0 := Lib.hid (show W0.frozen? ⟨w.heap.size, 0, none⟩ = false by rw [← hW]; simp [go_sem]); clear hW; (with_reducible refine (repeat_any _ _ (BitVec.allOnes 64) q hq1 _ _ rfl hrd.out).mono ?_); rintro e w1 ⟨g, rfl, ho1, hb1⟩; rw [hsz.out] at ho1; have hcc := (hb1.cell (p := ⟨w.heap.size, 0, none⟩) (by rw [hsz.out]; simp)).trans hc0.out; have hcf := (below_frozen hb1 (p := ⟨w.heap.size, 0, none⟩) (by rw [hsz.out]; simp)).trans hf0.out)
    | (at_builtin; refine wpList_append_encs rfl (.tmp 14) (.tmp 19) 25 rfl wv_one (w.heap.size + 2) 56 _ 8 Tryd.underlying25 info_u64 rfl _ (List.replicate q (BitVec.allOnes 64)) rfl (ho1.alloc _) _ 1 1 [t] rfl rfl (Rd.made wv _ [t] 1 _ _ _ (word_cell t) rfl (by omega)) (by simp; omega) (by simp; omega) (size_alloc_ge _ (Nat.le_trans (by rw [hsz.out]; exact Nat.le_refl _) hb1.size)) ?_; intro p3 c3 ys w3 hy ho3 hb3; have hbw1 := (hb1.alloc hb1.size _).trans (hb3.mono (by rw [hsz.out]; exact Nat.le_refl _)); have hcc3 := (hb3.cell (p := ⟨w.heap.size, 0, none⟩) (by simp)).trans (cell_alloc hcc _); have hcf3 := (below_frozen hb3 (p := ⟨w.heap.size, 0, none⟩) (by simp)).trans (free_alloc hcc _ hcf)))
  · try simp only [Exit.inBlock, Exit.then]
    refine ret_set rfl rfl hcc3 ?_
    exact ⟨p3, _, c3, rfl, ho3.isNew (by omega), ⟨ys, rfl, ho3.apart _ 0 _ (by omega), by rw [hy.out]; exact hpart (by assumption)⟩, set_below (hb0.out.trans (hbw1.mono hb0.out.size)) _ 0 _ (Nat.le_refl _)⟩
  · try simp only [Exit.inBlock, Exit.then]
    refine ret_set rfl rfl hcc ?_
    exact ⟨_, _, _, rfl, ho1.isNew (by omega), ⟨_, List.length_replicate, ho1.apart _ 0 _ (by omega), hfull (by omega)⟩, set_below (hb0.out.trans (hb1.mono hb0.out.size)) _ 0 _ (Nat.le_refl _)⟩

theorem range_any (lo hi : Int) (w : World) :
    Calls Tryd.prog 18 #[.int .i64 lo, .int .i64 hi] w fun e w' => ∃ r k j, e = .returned (.agg #[.slice r k j]) ∧ New w r ∧ St w' r k j (fun x => blw hi x && !blw lo x) ∧ Below w.heap.size w w' := by
  go_enter Tryd.func18, Tryd.ntmps18
  go_wp2_with (first
    | (go_at_call 38; generalize hW : World.alloc _ _ = W0; have hb0 := Lib.hid (show Below w.heap.size w W0 by rw [← hW]; exact (Below.refl _ _).alloc (Nat.le_refl _) _); have hsz := Lib.hid (show w.heap.size < W0.heap.size by rw [← hW]; simp); have hc0 := Lib.hid (show W0.cell? ⟨w.heap.size, 0, none⟩ = some (.slice none 0 0) by rw [← hW]; exact new_cell w _ _); have hf0 := Lib.hid (show W0.frozen? ⟨w.heap.size, 0, none⟩ = false by rw [← hW]; exact new_free w _ _); clear hW; (with_reducible refine (below_any hi _).mono ?_); rintro e w1 ⟨r1, k1, j1, rfl, hn1, hs1, hb1⟩)
    | (go_at_call 38; (with_reducible refine (below_any lo _).mono ?_); rintro e w2 ⟨r2, k2, j2, rfl, hn2, hs2, hb2⟩; have hb12 := hb1.trans (hb2.mono hb1.size))
    | (go_at_call 24; (with_reducible refine (minus_any _ _ _ _ _ _ _ _ _ (hs1.kept hb2) hs2).mono ?_); rintro e w3 ⟨r3, k3, j3, rfl, hn3, hs3, hb3⟩; have hb13 := hb12.trans (hb3.mono hb12.size); have hcc3 := (hb13.cell (p := ⟨w.heap.size, 0, none⟩) hsz.out).trans hc0.out; have hcf3 := (below_frozen hb13 (p := ⟨w.heap.size, 0, none⟩) hsz.out).trans hf0.out))
  try simp only [Exit.inBlock, Exit.then]
  refine ret_set rfl rfl hcc3 ?_
  have hlt := Nat.le_trans hsz.out hb12.size
  exact ⟨r3, k3, j3, rfl, fun a ha => by have := hn3 a ha; omega, hs3.apart _ 0 _ (fun a ha => by have := hn3 a ha; omega), set_below (hb0.out.trans (hb13.mono hb0.out.size)) _ 0 _ (Nat.le_refl _)⟩
end Go.Proofs.YtgkjkchhepmakaaDoor
