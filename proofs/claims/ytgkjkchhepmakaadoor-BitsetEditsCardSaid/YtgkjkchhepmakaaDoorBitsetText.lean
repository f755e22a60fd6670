/-
  CONTRACTS OF LAYER 4 (bitset): String.
-/
import Derived.Test.YtgkjkchhepmakaaDoorBitsetSeq
import Derived.Test.YtgkjkchhepmakaaDoorBytes
import Derived.Maps.AppendAt
import Derived.Lib.ItoaLen
namespace Go.Proofs.YtgkjkchhepmakaaDoor
open Go.RowKit Go.IntWalk Go.Shelf
attribute [local go_sem] Oper.semAt_some

def numText (k : Nat) : List UInt8 := Lib.itoa (k : Int)
/-- The text before the closing brace. -/
def acc (x : List Nat) : List UInt8 := x.foldl (fun a k => a ++ (if 1 < a.length then [32] else []) ++ numText k) [123]
theorem acc_snoc (x : List Nat) (k : Nat) : acc (x ++ [k]) = acc x ++ (if 1 < (acc x).length then [32] else []) ++ numText k := by simp [acc]
def setText (x : List Nat) : List UInt8 := acc x ++ [125]

theorem info_u8 : (Tryd.prog.info? 5).map (fun i => (i.zero, i.size, i.bytes)) = some (some (.int .u8 0), 1, 1) := by kernel_rfl
theorem appInt_any (base k n : Nat) (hk : k < 65536) (v : Value) (xs : List UInt8) (w : World) (hn : xs.length = n) (hown : Own w base 5 v xs) (hb : base ≤ w.heap.size) (hl : n ≤ 4294967296) (htab : Lib.TabBelow Tryd.prog base w "internal/strconv.uint64pow10" .u64 Lib.pow10Tab) :
    Calls Tryd.prog 43 #[v, .int .i64 (k : Int), .int .i64 10] w fun e w' => ∃ r j, e = .returned (.slice r (n + (numText k).length) j) ∧ Own w' base 5 (.slice r (n + (numText k).length) j) (xs ++ numText k) ∧ Below base w w' ∧ Lib.OthersKept 5 none w w' := by
  subst hn
  refine (Tryd.strconv_AppendInt_10 base xs.length (k : Int) (by omega) (by omega) v (bvs xs) w hown hb (by omega) htab).mono ?_
  rintro e w' ⟨v', rfl, h1, h2, h3⟩
  have h4 : Own w' base 5 v' (xs ++ numText k) := by
    show World.ownsRow _ _ _ _ _ _ _
    rw [List.length_append, bvs_append]
    exact h1
  obtain ⟨r, j, rfl, _, _⟩ := h4.shape
  rw [List.length_append] at h4 ⊢
  exact ⟨r, j, rfl, h4, h2, h3⟩
theorem Boxed.others {e t : TypeId} {W W' : World} {B : Nat} {v : Value} (h : Boxed W B t v) (hok : Lib.OthersKept e none W W') (hne : t ≠ e) : Boxed W' B t v :=
  hok B _ h (fun hh => by cases hh) (fun c fz hh => by cases hh; exact hne rfl)
theorem KeepsOthers.of_kept {e : TypeId} {W W' : World} (hok : Lib.OthersKept e none W W') (hs : W.heap.size ≤ W'.heap.size) : KeepsOthers W W' :=
  ⟨hs, fun k o ho hc => hok k o ho (fun hh => by cases hh) (fun c fz hh => by subst hh; cases hc)⟩
theorem append_keeps {W w1 : World} {n₀ : Nat} {e : TypeId} {size : Nat} {v : Value} {k : Nat} {xs : List Value} {tmp : Obj} (hrow : W.ownsRow n₀ e size v k xs) (hn₀ : n₀ ≤ W.heap.size) (hgrow : (W.alloc tmp).grownBy w1 v.ownBlock) : KeepsOthers W w1 ∧ Below n₀ W w1 := by
  constructor
  · refine (KeepsOthers.alloc W tmp).trans (KeepsOthers.of_grownBy hgrow fun j o ej hj => ?_)
    rcases (hrow.alloc tmp).2 with ⟨rfl, _⟩ | ⟨g, cap, cur, rfl, _, hgb, _⟩
    · simp [Value.ownBlock] at ej
    · obtain rfl : g = j := by simpa [Value.ownBlock] using ej
      rw [hgb] at hj; cases hj; rfl
  · refine ((Below.refl n₀ W).alloc hn₀ tmp).grown hgrow (by simp; omega) fun j ej => ?_
    rcases hrow.2 with ⟨rfl, _⟩ | ⟨g, cap, cur, rfl, hb, _, _⟩
    · simp [Value.ownBlock] at ej
    · obtain rfl : g = j := by simpa [Value.ownBlock] using ej
      exact hb
theorem numText_pos (k : Nat) (hk : k < 65536) : (numText k).length ≤ 21 := Lib.itoa_length_le _ (by omega) (by omega)
theorem acc_len : ∀ (x : List Nat), (∀ k ∈ x, k < 65536) → (acc x).length ≤ 1 + 22 * x.length := by
  intro x
  suffices ∀ (l : List Nat) (a : List UInt8), (∀ k ∈ l, k < 65536) → (l.foldl (fun a k => a ++ (if 1 < a.length then [32] else []) ++ numText k) a).length ≤ a.length + 22 * l.length from fun h => by
    have := this x [123] h
    simpa [acc] using this
  intro l
  induction l with
  | nil => intro a _; simp
  | cons k l ih =>
    intro a h
    have h1 := ih (a ++ (if 1 < a.length then [32] else []) ++ numText k) fun j hj => h j (by simp [hj])
    have h2 := numText_pos k (h k (by simp))
    simp only [List.foldl_cons, List.length_cons]
    refine Nat.le_trans h1 ?_
    simp only [List.length_append]
    split <;> simp <;> omega

set_option maxRecDepth 100000 in
set_option maxHeartbeats 2000000 in
theorem string_any (p : Option Addr) (m c : Nat) (f : Nat → Bool) (x : List Nat) (w : World) (h : St w p m c f) (hx : Lst f x) (hT : TabAt 0 Lib.deBruijn64tab w)
    (hP : Lib.TabIs Tryd.prog w "internal/strconv.uint64pow10" .u64 Lib.pow10Tab) :
    Calls Tryd.prog 32 #[.agg #[.slice p m c]] w fun e w' => e = .returned (.string ⟨(setText x).toArray⟩) ∧ Below w.heap.size w w' := by
  obtain ⟨ws, rfl, hr, hs⟩ := h
  have hxe : x = elsFrom 0 ws := hx.unique hs.els (fun _ => rfl)
  have hsmall := hx.small hs.lt
  have hg : 0 < w.heap.size := World.block_lt_of_cell? _ _ (hT 0 (by decide))
  refine (callsIn_wide (n := 5)).1 ?_
  refine callsIn_of_wp_marks Tryd.func32 rfl trivial ?_ rfl
  simp only [Tryd.ntmps32, List.size_toArray, List.length_cons, List.length_nil, Nat.reduceAdd, Nat.reduceSub, Array.replicate_succ, Array.replicate_zero, List.push_toArray, List.append_toArray, List.nil_append, List.cons_append]
  gi_wp2_with (refine ⟨trivial, ?_⟩; gi_at_call 34; refine (callsIn_wide.2 (all_any _ _ _ _)).mono ?_; rintro e w1 ⟨rfl, rfl⟩)
  obtain ⟨i0, hi, hz0, hz1, hz2⟩ := info_parts info_u8
  generalize hW : World.alloc _ _ = W0
  have hb0 : Below w.heap.size w W0 := by rw [← hW]; exact (below3 w _ _ _).alloc (by simp; omega) _
  have hsz : W0.heap.size = w.heap.size + 1 + 1 + 1 + 1 := by rw [← hW]; simp
  have hbox : Boxed W0 (w.heap.size + 1 + 1) 61 (.slice (some ⟨w.heap.size + 1, 0, none⟩) 1 1) := by
    rw [← hW]
    refine Boxed.alloc ?_ _
    have := Boxed.new ((w.alloc (.cells #[Value.slice p ws.length c] 27)).alloc (.cells #[Value.int .u8 123] 5)) 61 (.slice (some ⟨w.heap.size + 1, 0, none⟩) 1 1)
    simpa using this
  have hrow : Own W0 w.heap.size 5 (.slice (some ⟨w.heap.size + 1, 0, none⟩) 1 1) [123] := by
    rw [← hW]
    have := Own.lit (w.alloc (.cells #[Value.slice p ws.length c] 27)) [123] 1 w.heap.size 5 #[Value.int .u8 123] rfl rfl (by omega) (by simp)
    simp only [World.size_alloc] at this
    exact (this.alloc _).alloc _
  have hcell : W0.cell? ⟨w.heap.size + 1 + 1 + 1, 0, none⟩ = some (.slice p ws.length c) := by rw [← hW]; exact new_at _ _ _ _ (by simp)
  clear hW
  have hp : 0 < ws.length → ∀ d o, p = some ⟨d, o, none⟩ → d < w.heap.size := fun h0 d o e => by
    subst e
    exact hr.lt h0
  have htabW := Lib.tabBelow_of_tabIs hP
  refine wpIn_rangeFunc_ownG rfl (by omega) (gf := 45) (lb := #[.pointer (some ⟨w.heap.size + 1 + 1 + 1, 0, none⟩)]) rfl trivial (enters_of Tryd.func45 (by kernel_rfl) rfl)
    (all_stops (5 - 1) (by omega) (w.heap.size + 1 + 1 + 1) w.heap.size p ws.length c ws f rfl hs W0 hb0.size (by omega) ⟨hcell, hr.kept hb0, fun j hj => (hb0.cell (p := ⟨0, j, none⟩) hg).trans (hT j hj)⟩ hp hg) belowK_t (belowK_b (by omega)) (Below.refl _ _) (fun _ => rfl)
    (fun (pre : List E16) W => (∃ v, Boxed W (w.heap.size + 1 + 1) 61 v ∧ W.ownsRow w.heap.size 5 1 v (acc (pre.map (·.1))).length (bvs (acc (pre.map (·.1)))) ∧ True) ∧ Below w.heap.size w W)
    (fun _ _ _ => False)
    (OwnFrom.and (Own.from (holdsRow_own w.heap.size (w.heap.size + 1 + 1) 61 5 1 (fun pre : List E16 => (acc (pre.map (·.1))).length) (fun pre => bvs (acc (pre.map (·.1)))) (fun _ _ => True)) _) (ownFrom_below (Nat.le_refl _) (by omega)))
    (fun _ _ _ _ _ hs _ _ => hs)
    ⟨⟨_, hbox, hrow, trivial⟩, hb0⟩
    (fun x : E16 => { tmps := #[.agg #[.slice p ws.length c], .pointer (some ⟨w.heap.size, 0, none⟩), .string ⟨#[]⟩, .pointer (some ⟨w.heap.size + 1 + 1, 0, none⟩), .int .i64 (x.1 : Int), .slice (some ⟨w.heap.size + 1, 0, none⟩) 1 1, .agg #[.slice p ws.length c], .func (.func 45) #[] #[.pointer (some ⟨w.heap.size + 1 + 1 + 1, 0, none⟩)], .int .i64 (x.1 : Int), undef, undef, undef, undef, undef, undef, undef, undef, undef, undef, undef, undef, undef], defers := [] }) ?assign ?body ?done ?stop
  case assign =>
    intro l x W K hK
    gi_wp2
    exact hK
  case body =>
    rintro l pre x W ⟨⟨v, hv, hrow, -⟩, hB⟩ hlt
    obtain ⟨x, hx16⟩ := x
    have hpl := acc_len (pre.map (·.1)) (fun k hk => by obtain ⟨e, _, rfl⟩ := List.mem_map.1 hk; exact e.2)
    have hels : (elsFrom 0 ws).length ≤ 65536 := by rw [← hxe]; exact hsmall
    have hsn := Lib.hid (acc_snoc (pre.map (·.1)) x)
    have hmap := Lib.hid (show (pre ++ [(⟨x, hx16⟩ : E16)]).map (·.1) = pre.map (·.1) ++ [x] by simp)
    simp only [List.length_map] at hpl
    obtain ⟨ts, hts⟩ : ∃ ts, acc (pre.map (·.1)) = ts := ⟨_, rfl⟩
    rw [hts] at hrow hpl hsn
    have hrow : Own W w.heap.size 5 v ts := hrow
    obtain ⟨p2, c2, rfl, -, -⟩ := hrow.shape
    have hc := hv.cell
    have hcf := hv.frozen
    have htl := Lib.hid (show ts.length ≤ 4294967296 by omega)
    obtain ⟨n2, hn2⟩ : ∃ n2, ts.length = n2 := ⟨_, rfl⟩
    have hBsz : w.heap.size ≤ W.heap.size := hB.size
    by_cases h1 : 1 < n2
    · rw [hn2] at hv hrow hc hsn
      obtain ⟨us, hus⟩ : ∃ us, ts ++ [32] = us := ⟨_, rfl⟩
      have hul := Lib.hid (show us.length = n2 + 1 by rw [← hus, List.length_append, hn2]; rfl)
      have hbus := Lib.hid (show bvs us = bvs ts ++ [.int .u8 32] by rw [← hus, bvs_append]; rfl)
      have hend := Lib.hid (show acc ((pre ++ [(⟨x, hx16⟩ : E16)]).map (·.1)) = us ++ numText x by rw [hmap.out, hsn.out, if_pos h1, hus])
      have hrowN : W.ownsRow w.heap.size 5 1 (.slice p2 n2 c2) n2 (bvs ts) := hn2 ▸ hrow
      rw [hn2] at hpl htl
      clear hus hsn hmap hrow hn2
      gi_wp2_with (first
        | (gi_at_builtin; (refine wpListIn_append_own _ rfl _ _ 61 rfl w.heap.size 5 i0 (.int .u8 0) 1 1 Tryd.underlying61 hi hz0 hz1 hz2 rfl (by decide) _ n2 _ rfl (hrowN.alloc _) ⟨W.heap.size, 0, none⟩ 1 1 [.int .u8 32] rfl rfl (cell_one_new _ _ _) (by simp [Value.oneCell']) (by simp only [maxLen]; omega) (by omega) (by simp; omega) ?_; intro v' w1 hown' hgrow _; obtain ⟨g', cap', rfl⟩ := ownsRow_succ hown'; obtain ⟨hv1, hv2, hr2, hk2, hb2⟩ := hv.appended (by decide) hrowN hB.size (by omega) hown' hgrow; have hc1 := hv1.cell; have hf1 := hv1.frozen; have ho2 := Lib.hid (show Own (w1.setCell ⟨w.heap.size + 1 + 1, 0, none⟩ (.slice (some ⟨g', 0, none⟩) (n2 + 1) cap')) w.heap.size 5 (.slice (some ⟨g', 0, none⟩) (n2 + 1) cap') us by (show World.ownsRow _ _ _ _ _ _ _; rw [hul.out, hbus.out]; exact hr2))))
        | ((refine ⟨trivial, ?_⟩; gi_at_call 43; refine (CallsIn.inRound l (callsIn_wide.2 (appInt_any w.heap.size x (n2 + 1) hx16 _ us _ (by have := hul.out; omega) ho2.out (hB.trans hb2).size (by have := htl.out; omega) (htabW.on (hB.trans hb2))))).mono ?_; rintro e w3 ⟨r, j, rfl, hown3, hb3, hok3⟩; have hv3 := Boxed.others hv2 hok3 (by decide); have hc3 := hv3.cell; have hf3 := hv3.frozen)))
      refine ⟨((hk2.trans (KeepsOthers.of_kept hok3 hb3.size)).trans (KeepsOthers.setCell _ _ _)).from _, (hb2.trans hb3).setCell (p := ⟨w.heap.size + 1 + 1, 0, none⟩) (by simp; omega) _, ⟨_, Boxed.set _ hv3, ?_, trivial⟩, (hB.trans (hb2.trans hb3)).setCell (p := ⟨w.heap.size + 1 + 1, 0, none⟩) (by simp; omega) _⟩
      rw [hend.out]
      exact World.ownsRow.kept hown3 (grownBy_setCell' w3 _ _) (.inr (Boxed.not_row hv3 (by decide) hown3).symm)
    · rw [hn2] at hv hrow hc hsn hpl htl
      have hend := Lib.hid (show acc ((pre ++ [(⟨x, hx16⟩ : E16)]).map (·.1)) = ts ++ numText x by rw [hmap.out, hsn.out, if_neg h1, List.append_nil])
      have hn2 := Lib.hid hn2
      clear hsn hmap
      gi_wp2_with (refine ⟨trivial, ?_⟩; gi_at_call 43; refine (CallsIn.inRound l (callsIn_wide.2 (appInt_any w.heap.size x n2 hx16 _ ts _ hn2.out hrow hB.size (by have := htl.out; omega) (htabW.on hB)))).mono ?_; rintro e w3 ⟨r, j, rfl, hown3, hb3, hok3⟩; have hv3 := Boxed.others hv hok3 (by decide); have hc3 := hv3.cell; have hf3 := hv3.frozen)
      refine ⟨((KeepsOthers.of_kept hok3 hb3.size).trans (KeepsOthers.setCell _ _ _)).from _, hb3.setCell (p := ⟨w.heap.size + 1 + 1, 0, none⟩) (by simp; omega) _, ⟨_, Boxed.set _ hv3, ?_, trivial⟩, (hB.trans hb3).setCell (p := ⟨w.heap.size + 1 + 1, 0, none⟩) (by simp; omega) _⟩
      rw [hend.out]
      exact World.ownsRow.kept hown3 (grownBy_setCell' w3 _ _) (.inr (Boxed.not_row hv3 (by decide) hown3).symm)
  case done =>
    rintro D ys W hD hys ⟨⟨v, hv, hrow, -⟩, hB⟩ hK
    have hys : ys.map (·.1) = elsFrom 0 ws := hys
    rw [hys, ← hxe] at hrow
    have hpl := acc_len x (fun k hk => hs.lt k ((hx.mem k).1 hk))
    obtain ⟨ts, hts⟩ : ∃ ts, acc x = ts := ⟨_, rfl⟩
    rw [hts] at hrow hpl
    have hrow : Own W w.heap.size 5 v ts := hrow
    obtain ⟨p2, c2, rfl, -, -⟩ := hrow.shape
    obtain ⟨n2, hn2⟩ : ∃ n2, ts.length = n2 := ⟨_, rfl⟩
    have hrowN : W.ownsRow w.heap.size 5 1 (.slice p2 n2 c2) n2 (bvs ts) := hn2 ▸ hrow
    rw [hn2] at hv hpl
    have hend := Lib.hid (show setText x = ts ++ [125] by rw [setText, hts])
    have hul := Lib.hid (show (ts ++ [(125 : UInt8)]).length = n2 + 1 by rw [List.length_append, hn2]; rfl)
    have hbus := Lib.hid (show bvs (ts ++ [125]) = bvs ts ++ [.int .u8 125] by rw [bvs_append]; rfl)
    have hc := hv.cell
    have hBsz : w.heap.size ≤ W.heap.size := hB.size
    clear hrow hn2 hts hys
    gi_wp2_with (gi_at_builtin; refine wpListIn_append_own _ rfl _ _ 61 rfl w.heap.size 5 i0 (.int .u8 0) 1 1 Tryd.underlying61 hi hz0 hz1 hz2 rfl (by decide) _ n2 _ rfl (hrowN.alloc _) ⟨W.heap.size, 0, none⟩ 1 1 [.int .u8 125] rfl rfl (cell_one_new _ _ _) (by simp [Value.oneCell']) (by simp only [maxLen]; omega) (by omega) (by simp; omega) ?_; intro v' w1 hown' hgrow _; obtain ⟨g', cap', rfl⟩ := ownsRow_succ hown'; have ho2 : Own w1 w.heap.size 5 (.slice (some ⟨g', 0, none⟩) (n2 + 1) cap') (ts ++ [125]) := (by show World.ownsRow _ _ _ _ _ _ _; rw [hul.out, hbus.out]; exact hown'); have hconv := (Own.bin ho2).2.convert (P := Tryd.prog) (n2 + 1) hul.out 61 9 5 Tryd.underlying61 Tryd.underlying5 Tryd.underlying9)
    obtain ⟨hk1, hb1⟩ := append_keeps hrowN hBsz hgrow
    have hK1 := hk1.same D _ hK rfl
    refine ⟨by simp, .inl ⟨_, _, rfl, run_takeDeferred hK1, ?_⟩⟩
    refine ⟨_, results_tmp rfl _ _ _, ?_, (hB.trans hb1).trans (belowK_b (w := w) (Nat.le_refl _) w1 D _ _ (by omega) hK1 rfl rfl)⟩
    rw [hend.out]
    rfl
  case stop =>
    rintro D c pre W _ _ h _
    exact h.elim
end Go.Proofs.YtgkjkchhepmakaaDoor
