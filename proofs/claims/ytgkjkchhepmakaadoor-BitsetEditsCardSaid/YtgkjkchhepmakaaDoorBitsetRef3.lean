/-
  CONTRACTS OF THE REFERENCE OF LAYER 4 (bitset), FURTHER: Of, Minus, Intersect, Union, Equal, Range; what their lists are.
-/
import Derived.Test.YtgkjkchhepmakaaDoorBitsetRef2
namespace Go.Proofs.YtgkjkchhepmakaaDoor
open Go.RowKit Go.IntWalk

theorem insZ_len (l : List Int) (z : Int) : (insZ l z).length ≤ l.length + 1 := by
  unfold insZ putZ
  split
  · have := congrArg List.length (List.takeWhile_append_dropWhile (p := (decide <| · < z)) (l := l))
    simp only [List.length_append, List.length_cons] at this ⊢
    omega
  · omega
theorem fold_len (l a : List Int) : (l.foldl insZ a).length ≤ a.length + l.length := by
  induction l generalizing a with
  | nil => simp
  | cons z l ih =>
    have h1 := ih (insZ a z)
    have h2 := insZ_len a z
    simp only [List.foldl_cons, List.length_cons]
    omega
theorem fold_step (l a : List Int) (k : Nat) (z : Int) (hz : l[k]? = some z) : (l.take (k + 1)).foldl insZ a = insZ ((l.take k).foldl insZ a) z := by
  obtain ⟨hk, hzk⟩ := List.getElem?_eq_some_iff.1 hz
  rw [List.take_succ_eq_append_getElem hk, hzk, List.foldl_append]
  rfl

theorem rof_any (p : Option Addr) (n c : Nat) (l : List Int) (w : World) (hl : l.length = n) (hs : n ≤ 1048576) (h : Rd iv w p c l) :
    Calls Tryd.prog 14 #[.slice p n c] w fun e w' => ∃ r k j, e = .returned (.slice r k j) ∧ k = (l.foldl insZ []).length ∧ Rd iv w' r j (l.foldl insZ []) ∧ Below w.heap.size w w' := by
  subst hl
  have hcap := h.cap
  have hmax := h.max
  go_enter Tryd.func14, Tryd.ntmps14
  go_wp2
  go_loopw [3, 8] (fun v i wr => ∃ (k : Nat) (p2 : Option Addr) (n2 c2 : Nat) (ys : List Int), v = .slice p2 n2 c2 ∧ i = .int .i64 (k : Int) ∧ k ≤ l.length ∧ Hid (n2 = ys.length) ∧ Hid (Rd iv wr p2 c2 ys) ∧ Hid (ys = (l.take k).foldl insZ []) ∧ Hid (Below w.heap.size w wr)) (fun _ i _ => l.length - (intOf i).toNat)
  case atStart => exact ⟨0, none, 0, 0, [], rfl, rfl, Nat.zero_le _, rfl, Rd.nil _, rfl, Below.refl _ _⟩
  case round =>
    obtain ⟨k, p2, n2, c2, ys, rfl, rfl, hk, hn2, hr, hy, hb⟩ := hrel
    rcases Nat.lt_or_ge k l.length with hlt | hge
    · obtain ⟨b, o, rfl, -⟩ := h.cells (by omega)
      have hcell := (h.kept hb.out).int k hlt
      obtain ⟨z, hz⟩ : ∃ z, l.getD k 0 = z := ⟨_, rfl⟩
      rw [hz] at hcell
      have hz := Lib.hid (show l[k]? = some z by rw [← hz]; simp [List.getD, hlt])
      have hfl := fold_len (l.take k) []
      rw [← hy.out] at hfl
      have hfl := Lib.hid (show n2 ≤ 4294967296 by have := hn2.out; simp at hfl; omega)
      go_wp2_with (go_at_call 28; (with_reducible refine (rwith_any _ _ _ ys z _ hn2.out.symm hfl.out hr.out).mono ?_); rintro e w1 ⟨p3, _, c3, rfl, rfl, hr3, hb3⟩)
      go_roundw
      case rel => exact ⟨k + 1, p3, _, c3, insZ ys z, rfl, by simp, hlt, Lib.hid rfl, hr3, Lib.hid (by rw [fold_step l [] k z hz.out, hy.out]), hb.out.trans (hb3.mono hb.out.size)⟩
      case measure => simp [intOf]; omega
    · obtain rfl : k = l.length := by omega
      go_wp2
      go_ret
      have hy := hy.out
      rw [List.take_length] at hy
      exact ⟨p2, n2, c2, rfl, by rw [← hy]; exact hn2.out, by rw [← hy]; exact hr.out, hb.out⟩

theorem runion_any (p : Option Addr) (n c : Nat) (a : List Int) (q : Option Addr) (m d : Nat) (l : List Int) (w : World) (hla : a.length = n) (hl : l.length = m) (hsa : n ≤ 1048576) (hs : m ≤ 1048576) (ha : Rd iv w p c a) (h : Rd iv w q d l) :
    Calls Tryd.prog 21 #[.slice p n c, .slice q m d] w fun e w' => ∃ r k j, e = .returned (.slice r k j) ∧ k = (l.foldl insZ a).length ∧ Rd iv w' r j (l.foldl insZ a) ∧ Below w.heap.size w w' := by
  subst hl hla
  have hcap := h.cap
  have hmax := h.max
  go_enter Tryd.func21, Tryd.ntmps21
  go_wp2
  go_loopw [5, 11] (fun v i wr => ∃ (k : Nat) (p2 : Option Addr) (n2 c2 : Nat) (ys : List Int), v = .slice p2 n2 c2 ∧ i = .int .i64 (k : Int) ∧ k ≤ l.length ∧ Hid (n2 = ys.length) ∧ Hid (Rd iv wr p2 c2 ys) ∧ Hid (ys = (l.take k).foldl insZ a) ∧ Hid (Below w.heap.size w wr)) (fun _ i _ => l.length - (intOf i).toNat)
  case atStart => exact ⟨0, p, _, c, a, rfl, rfl, Nat.zero_le _, rfl, ha, rfl, Below.refl _ _⟩
  case round =>
    obtain ⟨k, p2, n2, c2, ys, rfl, rfl, hk, hn2, hr, hy, hb⟩ := hrel
    rcases Nat.lt_or_ge k l.length with hlt | hge
    · obtain ⟨b, o, rfl, -⟩ := h.cells (by omega)
      have hcell := (h.kept hb.out).int k hlt
      obtain ⟨z, hz⟩ : ∃ z, l.getD k 0 = z := ⟨_, rfl⟩
      rw [hz] at hcell
      have hz := Lib.hid (show l[k]? = some z by rw [← hz]; simp [List.getD, hlt])
      have hfl := fold_len (l.take k) a
      rw [← hy.out] at hfl
      have hfl := Lib.hid (show n2 ≤ 4294967296 by have := hn2.out; simp at hfl; omega)
      go_wp2_with (go_at_call 28; (with_reducible refine (rwith_any _ _ _ ys z _ hn2.out.symm hfl.out hr.out).mono ?_); rintro e w1 ⟨p3, _, c3, rfl, rfl, hr3, hb3⟩)
      go_roundw
      case rel => exact ⟨k + 1, p3, _, c3, insZ ys z, rfl, by simp, hlt, Lib.hid rfl, hr3, Lib.hid (by rw [fold_step l a k z hz.out, hy.out]), hb.out.trans (hb3.mono hb.out.size)⟩
      case measure => simp [intOf]; omega
    · obtain rfl : k = l.length := by omega
      go_wp2
      go_ret
      have hy := hy.out
      rw [List.take_length] at hy
      exact ⟨p2, n2, c2, rfl, by rw [← hy]; exact hn2.out, by rw [← hy]; exact hr.out, hb.out⟩

/-- The elements of a that are not in b. -/
def subZ (a b : List Int) : List Int := a.filter fun z => !b.contains z
theorem sub_step (a b : List Int) (k : Nat) (z : Int) (hz : a[k]? = some z) : subZ (a.take (k + 1)) b = subZ (a.take k) b ++ if b.contains z then [] else [z] := by
  obtain ⟨hk, hzk⟩ := List.getElem?_eq_some_iff.1 hz
  unfold subZ
  rw [List.take_succ_eq_append_getElem hk, hzk, List.filter_append]
  congr 1
  cases hb : b.contains z <;> simp [List.filter_cons] <;> simpa using hb
theorem sub_len (a b : List Int) : (subZ a b).length ≤ a.length := List.length_filter_le _ _

theorem rminus_any (p : Option Addr) (n c : Nat) (a : List Int) (q : Option Addr) (m d : Nat) (b : List Int) (w : World) (hla : a.length = n) (hlb : b.length = m) (hsa : n ≤ 1048576) (ha : Rd iv w p c a) (hb : Rd iv w q d b) :
    Calls Tryd.prog 25 #[.slice p n c, .slice q m d] w fun e w' => ∃ r k j, e = .returned (.slice r k j) ∧ k = (subZ a b).length ∧ Rd iv w' r j (subZ a b) ∧ Below w.heap.size w w' := by
  subst hla hlb
  have hcap := ha.cap
  have hmax := ha.max
  go_enter Tryd.func25, Tryd.ntmps25
  go_wp2
  go_loopw [5, 10] (fun v i wr => ∃ (k : Nat) (p2 : Option Addr) (n2 c2 : Nat) (ys : List Int), v = .slice p2 n2 c2 ∧ i = .int .i64 (k : Int) ∧ k ≤ a.length ∧ Hid (Ow iv wr w.heap.size 3 (.slice p2 n2 c2) ys) ∧ Hid (ys = subZ (a.take k) b) ∧ Hid (Below w.heap.size w wr)) (fun _ i _ => a.length - (intOf i).toNat)
  case atStart => exact ⟨0, none, 0, 0, [], rfl, rfl, Nat.zero_le _, Ow.nil _ _ _, rfl, Below.refl _ _⟩
  case round =>
    obtain ⟨k, p2, n2, c2, ys, rfl, rfl, hk, hr, hy, hbw⟩ := hrel
    rcases Nat.lt_or_ge k a.length with hlt | hge
    · obtain ⟨b0, o, rfl, -⟩ := ha.cells (by omega)
      have hcell := (ha.kept hbw.out).int k hlt
      obtain ⟨z, hz⟩ : ∃ z, a.getD k 0 = z := ⟨_, rfl⟩
      rw [hz] at hcell
      have hz := Lib.hid (show a[k]? = some z by rw [← hz]; simp [List.getD, hlt])
      have hstep := Lib.hid (sub_step a b k z hz.out)
      have hfl := sub_len (a.take k) b
      rw [← hy.out] at hfl
      have hfl := Lib.hid (show ys.length ≤ 1048576 by simp at hfl; omega)
      obtain ⟨t, ht⟩ : ∃ t, b.contains z = t := ⟨_, rfl⟩
      have hcon := rhas_any q b.length d b z wr rfl (hb.kept hbw.out)
      rw [ht] at hcon hstep
      clear ht
      go_wp2_with (first
        | (go_at_call 17; (with_reducible refine hcon.mono ?_); rintro e w1 ⟨rfl, rfl⟩)
        | (at_builtin; refine wpList_append_encs rfl (.tmp 18) (.tmp 20) 22 rfl iv_one w.heap.size 3 _ 8 Tryd.underlying22 info_int rfl _ ys rfl (hr.out.alloc _) _ 1 1 [z] rfl rfl (Rd.made iv _ [z] 1 _ _ _ rfl rfl (by omega)) (by have := hfl.out; simp; omega) (by have := hfl.out; simp; omega) (size_alloc_ge _ hbw.out.size) ?_; intro p3 c3 us w3 hu ho3 hb3))
      · rename_i hf
        go_roundw
        case rel => exact ⟨k + 1, p3, _, c3, us, rfl, by simp, hlt, ho3, Lib.hid (by rw [hstep.out, hu.out, hy.out]; simp_all), (hbw.out.alloc hbw.out.size _).trans hb3⟩
        case measure => simp [intOf]; omega
      · rename_i hf
        exact ⟨⟨k + 1, p2, n2, c2, ys, rfl, by simp, hlt, hr, Lib.hid (by rw [hstep.out, hy.out]; simp_all), hbw⟩, by simp [intOf]; omega⟩
    · obtain rfl : k = a.length := by omega
      go_wp2
      go_ret
      have hy := hy.out
      rw [List.take_length] at hy
      exact ⟨p2, n2, c2, rfl, by rw [← hy]; exact hr.out.rd.1, by rw [← hy]; exact hr.out.rd.2, hbw.out⟩

theorem rinter_any (p : Option Addr) (n c : Nat) (a : List Int) (q : Option Addr) (m d : Nat) (b : List Int) (w : World) (hla : a.length = n) (hlb : b.length = m) (hsa : n ≤ 1048576) (ha : Rd iv w p c a) (hb : Rd iv w q d b) :
    Calls Tryd.prog 23 #[.slice p n c, .slice q m d] w fun e w' => ∃ r k j, e = .returned (.slice r k j) ∧ k = (subZ a (subZ a b)).length ∧ Rd iv w' r j (subZ a (subZ a b)) ∧ Below w.heap.size w w' := by
  subst hla hlb
  have h1 := rminus_any p a.length c a q b.length d b w rfl rfl hsa ha hb
  go_enter Tryd.func23, Tryd.ntmps23
  go_wp2_with (first
    | (go_at_call 25; (with_reducible refine h1.mono ?_); clear h1; rintro e w1 ⟨p1, _, c1, rfl, rfl, hr1, hb1⟩)
    | (go_at_call 25; (with_reducible refine (rminus_any _ _ _ a _ _ _ (subZ a b) _ rfl rfl hsa (ha.kept hb1) hr1).mono ?_); rintro e w2 ⟨p2, _, c2, rfl, rfl, hr2, hb2⟩))
  go_ret
  exact ⟨p2, _, c2, rfl, rfl, hr2, hb1.trans (hb2.mono hb1.size)⟩

theorem requal_any (p : Option Addr) (n c : Nat) (a : List Int) (q : Option Addr) (m d : Nat) (b : List Int) (w : World) (hla : a.length = n) (hlb : b.length = m) (ha : Rd iv w p c a) (hb : Rd iv w q d b) :
    Calls Tryd.prog 30 #[.slice p n c, .slice q m d] w fun e w' => ∃ t : Bool, e = .returned (.bool t) ∧ Hid (t = true ↔ a = b) ∧ Below w.heap.size w w' := by
  subst hla hlb
  have hcap := ha.cap
  have hmax := ha.max
  have hcap2 := hb.cap
  have hmax2 := hb.max
  by_cases hne : a.length = b.length
  · have hne := Lib.hid hne
    have d1 : ((a.length : Int) != (b.length : Int)) = false := by simp; exact_mod_cast hne.out
    go_enter Tryd.func30, Tryd.ntmps30
    go_wp2
    go_loopw [13] (fun v wr => ∃ k : Nat, v = .int .i64 (k : Int) ∧ k ≤ a.length ∧ Hid (∀ i, i < k → a.getD i 0 = b.getD i 0) ∧ Hid (Below w.heap.size w wr)) (fun v _ => a.length - (intOf v).toNat)
    case atStart => exact ⟨0, rfl, Nat.zero_le _, fun i hi => by omega, Below.refl _ _⟩
    case round =>
      obtain ⟨k, rfl, hk, hall, hbw⟩ := hrel
      rcases Nat.lt_or_ge k a.length with hlt | hge
      · have hlt2 : k < b.length := by have := hne.out; omega
        obtain ⟨b0, o, rfl, -⟩ := ha.cells (by omega)
        obtain ⟨b1, o1, rfl, -⟩ := hb.cells (by omega)
        have hc1 := (ha.kept hbw.out).int k hlt
        have hc2 := (hb.kept hbw.out).int k hlt2
        obtain ⟨x, hx⟩ : ∃ x, a.getD k 0 = x := ⟨_, rfl⟩
        obtain ⟨y, hy⟩ : ∃ y, b.getD k 0 = y := ⟨_, rfl⟩
        rw [hx] at hc1
        rw [hy] at hc2
        have hx := Lib.hid hx
        have hy := Lib.hid hy
        go_wp2
        go_region
        all_goals go_wp2
        · rename_i hxy
          go_ret
          refine ⟨false, rfl, Lib.hid ⟨fun e => (by cases e), fun e => ?_⟩, hbw.out.drew⟩
          subst e
          have h1 := hx.out
          have h2 := hy.out
          rw [h1] at h2
          subst h2
          simp at hxy
        · rename_i hxy
          refine ⟨⟨k + 1, by simp, hlt, Lib.hid fun i hi => ?_, Lib.hid hbw.out.drew⟩, by simp [intOf]; omega⟩
          rcases Nat.lt_or_ge i k with h1 | h1
          · exact hall.out i h1
          · obtain rfl : i = k := by omega
            rw [hx.out, hy.out]
            simpa using hxy
      · obtain rfl : k = a.length := by omega
        go_wp2
        go_ret
        refine ⟨true, rfl, Lib.hid ⟨fun _ => ?_, fun _ => rfl⟩, hbw.out⟩
        apply List.ext_getElem hne.out
        intro i h1 h2
        have := hall.out i h1
        simpa [List.getD, h1, h2] using this
  · go_enter Tryd.func30, Tryd.ntmps30
    go_wp2
    go_ret
    exact ⟨false, rfl, Lib.hid ⟨fun e => (by cases e), fun e => absurd (by rw [e]) hne⟩, Below.refl _ _⟩

/-- k integers from A on. -/
def runZ (A : Int) (k : Nat) : List Int := (List.range k).map fun j : Nat => A + (j : Int)
theorem runZ_succ (A : Int) (k : Nat) : runZ A (k + 1) = runZ A k ++ [A + (k : Int)] := by simp [runZ, List.range_succ]
theorem runZ_len (A : Int) (k : Nat) : (runZ A k).length = k := by simp [runZ]
theorem rrange_any (lo hi : Int) (hlo : W64In lo) (w : World) :
    Calls Tryd.prog 19 #[.int .i64 lo, .int .i64 hi] w fun e w' => ∃ r n j, e = .returned (.slice r n j) ∧ n = (runZ (max lo 0) (min hi 65536 - max lo 0).toNat).length ∧ Rd iv w' r j (runZ (max lo 0) (min hi 65536 - max lo 0).toNat) ∧ Below w.heap.size w w' := by
  obtain ⟨A, hA⟩ : ∃ A, max lo 0 = A := ⟨_, rfl⟩
  obtain ⟨M, hM⟩ : ∃ M, min hi 65536 = M := ⟨_, rfl⟩
  have hA0 : 0 ≤ A := by omega
  have hA1 : A ≤ 9223372036854775807 := by have := hlo.2; omega
  have hM1 : M ≤ 65536 := by omega
  rw [hA, hM]
  go_enter Tryd.func19, Tryd.ntmps19
  go_wp2
  go_loopw [5, 6] (fun v i wr => ∃ (k : Nat) (p2 : Option Addr) (n2 c2 : Nat) (ys : List Int), v = .slice p2 n2 c2 ∧ i = .int .i64 (A + (k : Int)) ∧ (k = 0 ∨ A + (k : Int) ≤ M) ∧ Hid (Ow iv wr w.heap.size 3 (.slice p2 n2 c2) ys) ∧ Hid (ys = runZ A k) ∧ Hid (Below w.heap.size w wr)) (fun _ i _ => (M - intOf i).toNat)
  case atStart => exact ⟨0, none, 0, 0, [], rfl, by simp, .inl rfl, Ow.nil _ _ _, rfl, Below.refl _ _⟩
  case round =>
    obtain ⟨k, p2, n2, c2, ys, rfl, rfl, hk, hr, hy, hbw⟩ := hrel
    have hyl := Lib.hid (show ys.length = k by rw [hy.out, runZ_len])
    rcases Int.lt_or_le (A + (k : Int)) M with hlt | hge
    · have hd : decide (A + (k : Int) < M) = true := by simpa using hlt
      go_wp2_with (at_builtin; refine wpList_append_encs rfl (.tmp 15) (.tmp 17) 22 rfl iv_one w.heap.size 3 _ 8 Tryd.underlying22 info_int rfl _ ys rfl (hr.out.alloc _) _ 1 1 [A + (k : Int)] rfl rfl (Rd.made iv _ [A + (k : Int)] 1 _ _ _ rfl rfl (by omega)) (by have := hyl.out; simp; omega) (by have := hyl.out; simp; omega) (size_alloc_ge _ hbw.out.size) ?_; intro p3 c3 us w3 hu ho3 hb3)
      exact ⟨⟨k + 1, p3, _, c3, us, rfl, by rw [show A + (k : Int) + 1 = A + ((k + 1 : Nat) : Int) by omega], .inr (by omega), ho3, Lib.hid (by rw [runZ_succ, hu.out, hy.out]), (hbw.out.alloc hbw.out.size _).trans hb3⟩, by simp [intOf]; omega⟩
    · have hd : decide (A + (k : Int) < M) = false := by simpa using hge
      have hkk := Lib.hid (show (M - A).toNat = k by omega)
      go_wp2
      go_ret
      have hy := hy.out
      rw [hkk.out, ← hy]
      exact ⟨p2, n2, c2, rfl, hr.out.rd.1, hr.out.rd.2, hbw.out⟩

/-! ### What the lists are -/
def LstI (f : Nat → Bool) (y : List Int) : Prop := ∃ x : List Nat, y = x.map (fun n : Nat => (n : Int)) ∧ Lst f x
theorem LstI.nil : LstI (fun _ => false) [] := ⟨[], rfl, Lst.nil⟩
theorem LstI.congr {f g : Nat → Bool} {y : List Int} (h : LstI f y) (e : ∀ n, f n = g n) : LstI g y := by
  obtain ⟨x, h1, h2⟩ := h
  exact ⟨x, h1, h2.congr e⟩
theorem LstI.unique {f g : Nat → Bool} {x y : List Int} (h : LstI f x) (h' : LstI g y) (e : ∀ n, f n = g n) : x = y := by
  obtain ⟨a, rfl, h1⟩ := h
  obtain ⟨b, rfl, h2⟩ := h'
  rw [h1.unique h2 e]
theorem LstI.mem {f : Nat → Bool} {y : List Int} (h : LstI f y) (z : Int) : y.contains z = hasZ f z := by
  obtain ⟨x, rfl, h1⟩ := h
  rw [Bool.eq_iff_iff]
  unfold hasZ
  rw [List.contains_iff_mem, List.mem_map, Bool.and_eq_true, decide_eq_true_eq]
  constructor
  · rintro ⟨n, hn, rfl⟩
    exact ⟨by omega, by simpa using (h1.mem n).1 hn⟩
  · rintro ⟨h0, hz⟩
    exact ⟨z.toNat, (h1.mem _).2 hz, by omega⟩
theorem LstI.sub {f : Nat → Bool} {a : List Int} (h : LstI f a) (b : List Int) : LstI (fun n => f n && !b.contains (n : Int)) (subZ a b) := by
  obtain ⟨x, rfl, h1⟩ := h
  refine ⟨x.filter fun n => !b.contains (n : Int), ?_, h1.filter⟩
  unfold subZ
  rw [List.filter_map]
  rfl
theorem LstI.minus {f g : Nat → Bool} {a b : List Int} (h : LstI f a) (h' : LstI g b) : LstI (fun n => f n && !g n) (subZ a b) :=
  (h.sub b).congr fun n => by rw [h'.mem]; simp [hasZ]
theorem LstI.inter {f g : Nat → Bool} {a b : List Int} (h : LstI f a) (h' : LstI g b) : LstI (fun n => f n && g n) (subZ a (subZ a b)) :=
  (h.minus (h.minus h')).congr fun n => by cases f n <;> cases g n <;> rfl
theorem drop_ge (e : Nat) : ∀ (x : List Nat), x.Pairwise (· < ·) → ∀ b ∈ x.dropWhile (decide <| · < e), e ≤ b
  | [], _, b, h => by simp at h
  | a :: r, hx, b, h => by
    rw [List.pairwise_cons] at hx
    by_cases ha : a < e
    · rw [List.dropWhile_cons_of_pos (by simpa using ha)] at h
      exact drop_ge e r hx.2 b h
    · rw [List.dropWhile_cons_of_neg (by simpa using ha)] at h
      rcases List.mem_cons.1 h with rfl | h
      · omega
      · have := hx.1 b h
        omega
theorem take_lt (e : Nat) : ∀ (x : List Nat), ∀ b ∈ x.takeWhile (decide <| · < e), b < e
  | [], b, h => by simp at h
  | a :: r, b, h => by
    by_cases ha : a < e
    · rw [List.takeWhile_cons_of_pos (by simpa using ha)] at h
      rcases List.mem_cons.1 h with rfl | h
      · exact ha
      · exact take_lt e r b h
    · rw [List.takeWhile_cons_of_neg (by simpa using ha)] at h
      simp at h
theorem Lst.put {f : Nat → Bool} {x : List Nat} (h : Lst f x) (e : Nat) (he : f e = false) : Lst (fun n => f n || n == e) (x.takeWhile (decide <| · < e) ++ e :: x.dropWhile (decide <| · < e)) := by
  have hcat := List.takeWhile_append_dropWhile (p := (decide <| · < e)) (l := x)
  have hmem : ∀ n, n ∈ x ↔ n ∈ x.takeWhile (decide <| · < e) ∨ n ∈ x.dropWhile (decide <| · < e) := fun n => by
    conv => lhs; rw [← hcat]
    exact List.mem_append
  have hne : e ∉ x := fun hm => by rw [(h.mem e).1 hm] at he; cases he
  have hasc := h.asc
  rw [← hcat, List.pairwise_append] at hasc
  refine ⟨List.pairwise_append.2 ⟨hasc.1, List.pairwise_cons.2 ⟨fun b hb => ?_, hasc.2.1⟩, fun a ha b hb => ?_⟩, fun n => ?_⟩
  · have h1 := drop_ge e x h.asc b hb
    have h2 : b ≠ e := fun e2 => hne (e2 ▸ (hmem b).2 (.inr hb))
    omega
  · rcases List.mem_cons.1 hb with rfl | hb
    · exact take_lt _ x a ha
    · exact hasc.2.2 a ha b hb
  · rw [List.mem_append, List.mem_cons, Bool.or_eq_true, beq_iff_eq, ← h.mem, hmem]
    constructor
    · rintro (h1 | h1 | h1)
      · exact .inl (.inl h1)
      · exact .inr h1
      · exact .inl (.inr h1)
    · rintro ((h1 | h1) | h1)
      · exact .inl h1
      · exact .inr (.inr h1)
      · exact .inr (.inl h1)
theorem put_map (x : List Nat) (e : Nat) : putZ (x.map fun n : Nat => (n : Int)) (e : Int) = (x.takeWhile (decide <| · < e) ++ e :: x.dropWhile (decide <| · < e)).map fun n : Nat => (n : Int) := by
  unfold putZ
  rw [List.takeWhile_map, List.dropWhile_map, List.map_append, List.map_cons]
  have e1 : ((decide <| · < (e : Int)) ∘ fun n : Nat => (n : Int)) = (decide <| · < e) := by
    funext n
    simp
  rw [e1]
theorem LstI.ins {f : Nat → Bool} {y : List Int} (h : LstI f y) (z : Int) : LstI (fun n => f n || ofl [z] n) (insZ y z) := by
  have hc := h.mem z
  obtain ⟨x, rfl, h1⟩ := h
  unfold insZ
  by_cases hz : okZ z = true
  · unfold okZ at hz
    rw [Bool.and_eq_true, decide_eq_true_eq, decide_eq_true_eq] at hz
    obtain ⟨e, rfl⟩ := Int.eq_ofNat_of_zero_le hz.1
    have hofl : ∀ n, ofl [(e : Int)] n = (n == e) := fun n => by
      unfold ofl
      rw [List.contains_cons, Bool.eq_iff_iff]
      simp
      omega
    have hok : okZ (e : Int) = true := by unfold okZ; simp; omega
    have hce : hasZ f (e : Int) = f e := by simp [hasZ]
    rw [hok, hc, hce]
    cases hf : f e with
    | true =>
      refine ⟨x, by simp, h1.congr fun n => ?_⟩
      rw [hofl]
      by_cases hn : n = e
      · subst hn; simp [hf]
      · simp [hn]
    | false =>
      refine ⟨_, by rw [← put_map]; simp, (h1.put e hf).congr fun n => by rw [hofl]⟩
  · have hz' : okZ z = false := by simpa using hz
    rw [hz']
    refine ⟨x, by simp, h1.congr fun n => ?_⟩
    have : ofl [z] n = false := by
      unfold okZ at hz
      unfold ofl
      rw [List.contains_cons]
      simp at hz ⊢
      omega
    rw [this, Bool.or_false]
theorem ofl_cons (z : Int) (l : List Int) (n : Nat) : ofl (z :: l) n = (ofl [z] n || ofl l n) := by
  unfold ofl
  rw [List.contains_cons, List.contains_cons]
  cases decide (n < 65536) <;> simp
theorem LstI.fold {l : List Int} : ∀ {f : Nat → Bool} {a : List Int}, LstI f a → LstI (fun n => f n || ofl l n) (l.foldl insZ a) := by
  induction l with
  | nil => exact fun {f a} h => h.congr fun n => by rw [← ofl_nil, Bool.or_false]
  | cons z l ih =>
    intro f a h
    exact (ih (h.ins z)).congr fun n => by rw [ofl_cons z l, Bool.or_assoc]
theorem LstI.of (l : List Int) : LstI (ofl l) (l.foldl insZ []) := (LstI.nil.fold (l := l)).congr fun n => by rw [Bool.false_or]
/-- A fold over another ascending list. -/
theorem LstI.union {f g : Nat → Bool} {a b : List Int} (h : LstI f a) (h' : LstI g b) (hg : ∀ n, g n = true → n < 65536) : LstI (fun n => f n || g n) (b.foldl insZ a) :=
  (h.fold (l := b)).congr fun n => by
    have : ofl b n = g n := by
      unfold ofl
      rw [h'.mem]
      have e : hasZ g (n : Int) = g n := by simp [hasZ]
      rw [e]
      cases hgn : g n with
      | false => simp
      | true => simp [hg n hgn]
    rw [this]
theorem LstI.run (lo hi : Int) : LstI (fun x => blw hi x && !blw lo x) (runZ (max lo 0) (min hi 65536 - max lo 0).toNat) := by
  obtain ⟨A, hA⟩ : ∃ A : Nat, max lo 0 = (A : Int) := ⟨(max lo 0).toNat, by omega⟩
  obtain ⟨k, hk⟩ : ∃ k, (min hi 65536 - max lo 0).toNat = k := ⟨_, rfl⟩
  rw [hk, hA]
  refine ⟨(List.range k).map (A + ·), by simp [runZ], ⟨?_, fun n => ?_⟩⟩
  · exact List.pairwise_map.2 (List.pairwise_lt_range.imp fun h => by omega)
  · rw [List.mem_map]
    unfold blw
    simp only [Bool.and_eq_true, Bool.not_eq_true', Bool.and_eq_false_iff, decide_eq_true_eq, decide_eq_false_iff_not, List.mem_range]
    constructor
    · rintro ⟨j, hj, rfl⟩
      omega
    · intro h
      exact ⟨n - A, by omega, by omega⟩
end Go.Proofs.YtgkjkchhepmakaaDoor
