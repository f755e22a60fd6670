/-
  LAYER 6 (deadlinequeue): items in order, in new memory: slices.Clone, slices.SortFunc, ordered, Items.
-/
import Derived.Test.YtjcoghjkjnhljaaDqQueue3
import Derived.Test.YtjcoghjkjnhljaaShelf
namespace Go.Proofs.Ytjcoghjkjnhljaa
open Go Go.RowKit Go.IntWalk Go.Sort
set_option maxRecDepth 8000
set_option linter.unusedSimpArgs false

theorem wpList_appendI {w : World} {ops : Array Oper} {rest : List Oper} {o : Oper} {a : Act} {Q : Exit → Act → World → Prop} (hgd : o.guard = none) (s x : Operand)
    (ho : o.op = .call { callee := .builtin .append, args := #[s, x], argTypes := #[39, 39] })
    (base : Nat) (v : Value) (xs : List It) (hs : a.eval s = v) (hown : OwI w base 32 v xs)
    (p : Option Addr) (n c : Nat) (ys : List It) (hx : a.eval x = .slice p n c) (hl : ys.length = n) (hin : RdI w p c ys) (hsz : xs.length + ys.length ≤ 3000000) (hbase : base ≤ w.heap.size)
    (h : ∀ p' c' zs w', Hid (zs = xs ++ ys) → OwI w' base 32 (.slice p' zs.length c') zs → Below base w w' → wpList Try.prog ops Q rest (a.put o.dst (.slice p' zs.length c')) w') : wpList Try.prog ops Q (o :: rest) a w :=
  wpList_append_its hgd s x 39 ho base 32 (itv (0, 0)) 16 Try.underlying39 infoI rfl v xs hs hown p n c ys hx hl hin (by omega) (by omega) hbase h
theorem clone_any (p : Option Addr) (n c : Nat) (xs : List It) (w : World) (hl : xs.length = n) (hn : n ≤ 1000000) (h : RdI w p c xs) :
    Calls Try.prog 37 #[.slice p n c] w fun e w' => ∃ q d, e = .returned (.slice q n d) ∧ OwI w' w.heap.size 32 (.slice q n d) xs ∧ Grew w w' := by
  subst hl
  cases p with
  | none =>
    have hcap := h.cap
    obtain rfl : xs = [] := List.eq_nil_of_length_eq_zero (by have := h.bare rfl; omega)
    refine (Try.slices_Clone_nil 0 c w).mono ?_
    rintro e w' ⟨rfl, rfl⟩
    exact ⟨none, 0, rfl, OwI.nil _ _ _, Grew.refl _⟩
  | some a =>
    have q22 : ∀ (w : World) (a : Option Addr) (n c n' c' : Nat), (binOp .eql 39 (.slice a n c) (.slice none n' c')).run Try.prog w = .ok (.bool a.isNone) w := fun w a n c n' c' => Lib.run_eql_slice_nil w _ _ a n c n' c' Try.underlying39
    go_enter Try.func37, Try.ntmps37
    go_wp2_with (at_builtin; refine wpList_appendI rfl (.tmp 5) _ rfl w.heap.size _ [] rfl (OwI.lit w [] 0 w.heap.size 32 _ rfl rfl (by omega) (Nat.le_refl _)) (some a) xs.length c xs rfl rfl (h.kept ((Below.refl _ _).alloc (Nat.le_refl _) _)) (by simp; omega) (by simp) ?_; intro p2 c2 zs w2 hz ho2 hb2)
    go_ret
    obtain rfl : zs = xs := hz.out
    exact ⟨p2, c2, rfl, ho2, ((Below.refl _ _).alloc (Nat.le_refl _) _).trans hb2⟩

/-- An item's cells, as the library's sort asks for them. -/
def encI (x : It) : List Value := [.int .i64 x.1, .int .i64 x.2]
theorem swo_cf : SWO (ltOf cf) where
  irrefl := fun x => by show decide (cf x x < 0) = false; rw [cf_neg]; exact bef_irrefl x
  trans := fun x y z h h' => by
    rw [show ltOf cf x y = bef x y from cf_neg x y] at h
    rw [show ltOf cf y z = bef y z from cf_neg y z] at h'
    rw [show ltOf cf x z = bef x z from cf_neg x z]
    exact bef_trans h h'
  ntrans := fun x y z h h' => by
    rw [show ltOf cf x y = bef x y from cf_neg x y] at h
    rw [show ltOf cf y z = bef y z from cf_neg y z] at h'
    rw [show ltOf cf x z = bef x z from cf_neg x z]
    exact nbef_trans h h'
theorem lays_cmp (blk off size : Nat) (w : World) : CmpLays Try.prog 39 #[] encI 2 cf blk off size w := fun m os dk _ x y =>
  (compare_any x y (sortWorldK encI 2 w blk off m dk os)).mono fun _ _ h => h
theorem holds_of {w : World} {g c : Nat} {d : Array It} (h : RdI w (some ⟨g, 0, none⟩) c d.toList) (hf : ∀ k, w.frozen? ⟨g, k, none⟩ = false) : HoldsK encI 2 w g 0 d := fun t ht => by
  rw [size_flatK] at ht
  refine ⟨?_, hf _⟩
  have hj : t / 2 < d.size := by omega
  obtain ⟨h1, h2⟩ := h.cell (get_toList d (t / 2) hj)
  rw [get_flatK _ _ _ _ ht]
  rcases Nat.mod_two_eq_zero_or_one t with e | e
  · rw [e]
    rw [show 0 + t / 2 * 2 = 0 + t by omega] at h1
    exact h1
  · rw [e]
    rw [show 0 + t / 2 * 2 + 1 = 0 + t by omega] at h2
    exact h2
/-- A slice of items in memory of the call's own (its cells may be stored into). -/
structure Its (w : World) (N : Nat) (p : Option Addr) (c : Nat) (xs : List It) : Prop where
  rd : RdI w p c xs
  own : 0 < xs.length → ∃ g, p = some ⟨g, 0, none⟩ ∧ N ≤ g ∧ ∀ k, k < xs.length * 2 → w.frozen? ⟨g, k, none⟩ = false
theorem Its.grew {w w' : World} {N : Nat} {p : Option Addr} {c : Nat} {xs : List It} (h : Its w N p c xs) (hg : Grew w w') : Its w' N p c xs :=
  ⟨h.rd.kept hg, fun h0 => by
    obtain ⟨g, rfl, h1, h2⟩ := h.own h0
    exact ⟨g, rfl, h1, fun k hk => (Below.frozen hg (p := ⟨g, k, none⟩) (h.rd.lt h0)).trans (h2 k hk)⟩⟩
theorem rd_of {w : World} {g c : Nat} {d : Array It} (h : HoldsK encI 2 w g 0 d) (hc : d.size ≤ c) (hm : c ≤ 9223372036854775807) : RdI w (some ⟨g, 0, none⟩) c d.toList ∧ ∀ k, k < d.size * 2 → w.frozen? ⟨g, k, none⟩ = false := by
  refine ⟨⟨by simpa using hc, hm, fun h => (by cases h), fun _ => ⟨g, 0, rfl, fun i x hi => ?_⟩⟩, fun k hk => ?_⟩
  · have hil : i < d.size := by have := (List.getElem?_eq_some_iff.1 hi).1; simpa using this
    rw [get_toList d i hil] at hi
    obtain rfl := Option.some.inj hi
    have h1 := (h.cell (i := i) (c := 0) hil (by omega)).1
    have h2 := (h.cell (i := i) (c := 1) hil (by omega)).1
    exact ⟨h1, h2⟩
  · have := (h k (by rw [size_flatK]; exact hk)).2
    rwa [Nat.zero_add] at this
theorem below_sort {w : World} {N g m : Nat} {d : Array It} {os : Array Obj} (hg : N ≤ g) (hw : N ≤ w.heap.size) : Below N w (sortWorldK encI 2 w g 0 m d os) := by
  refine ⟨rfl, rfl, rfl, ?_, fun k hk => ?_⟩
  · exact size_sortWorldK_c encI 2 w g 0 m d os
  · have e : (sortWorldK encI 2 w g 0 m d os).heap[k]? = (w.heap.modify g (onCells (putCells id 0 (flatK encI 2 d))) ++ os)[k]? := rfl
    rw [e, Array.getElem?_append_left (by simp; omega), Array.getElem?_modify, if_neg (by omega)]
theorem isort_arr {d d' : Array It} {xs : List It} (hd : d.toList = xs) (hp : PermIn 0 d.size d d') (hs : SortedIn (ltOf cf) 0 d.size d') : d'.toList = isort xs := by
  obtain ⟨h1, h2, _⟩ := permIn_toList hp (Nat.le_refl _)
  rw [hd] at h1
  refine isort_of h1 ?_
  unfold Srt
  rw [List.pairwise_iff_getElem]
  intro i j hi hj hij
  have hi' : i < d'.size := by simpa using hi
  have hj' : j < d'.size := by simpa using hj
  have := hs i j (Nat.zero_le _) hij (by omega)
  rw [show ltOf cf d'[j]! d'[i]! = bef d'[j]! d'[i]! from cf_neg _ _] at this
  simpa [hi', hj'] using this
theorem isAggI : ∀ w, (isAgg 32).run Try.prog w = .ok true w := fun _ => by kernel_rfl
theorem sizeOfI : ∀ w, (Go.sizeOf 32).run Try.prog w = .ok 2 w := fun _ => by kernel_rfl
theorem sort_any (p : Option Addr) (n c N : Nat) (xs : List It) (w : World) (hl : xs.length = n) (hn : n ≤ 1000000) (h : OwI w N 32 (.slice p n c) xs) (hN : N ≤ w.heap.size) :
    Calls Try.prog 38 #[.slice p n c, .func (.func 39) #[] #[]] w fun e w' => e = .returned (.tuple #[]) ∧ Its w' N p c (isort xs) ∧ Below N w w' := by
  subst hl
  obtain ⟨_, hrd⟩ := h.rd
  rcases Nat.eq_zero_or_pos xs.length with h0 | h0
  · obtain rfl : xs = [] := List.eq_nil_of_length_eq_zero h0
    refine (Try.slices_SortFunc_none (α := It) p c _ w).mono ?_
    rintro e w' ⟨rfl, rfl⟩
    exact ⟨rfl, ⟨hrd, fun h => absurd h (Nat.lt_irrefl 0)⟩, Below.refl _ _⟩
  · obtain ⟨g, rfl, hg1, hg2⟩ := h.at h0
    have hsz : xs.toArray.size = xs.length := by simp
    have hH := holds_of (d := xs.toArray) (by simpa using hrd) (fun k => (h.free k).2)
    have hc := Try.slices_SortFunc 2 isAggI sizeOfI encI (fun _ => rfl) (fun x v hv => by rcases List.mem_cons.1 hv with rfl | hv; · rfl
                                                                                          · rcases List.mem_cons.1 hv with rfl | hv; · rfl
                                                                                            · cases hv) cf swo_cf 39 #[] g 0 c xs.toArray w (fun args w => enters_compare args w) (lays_cmp g 0 xs.toArray.size w) hH hg2 (by rw [hsz]; omega)
    rw [hsz] at hc
    refine Calls.mono hc ?_
    rintro e w' ⟨rfl, d', m, os, hp, hs, rfl⟩
    have hd' := isort_arr (d := xs.toArray) (xs := xs) (by simp) (by rw [hsz]; exact hp) (by rw [hsz]; exact hs)
    have hs' : d'.size = xs.length := by rw [← hsz]; exact hp.1
    obtain ⟨r1, r2⟩ := rd_of (c := c) (holdsK_sortWorldK_c encI 2 w g 0 xs.toArray d' m os hH hg2 (by rw [hsz]; exact hs')) (by have := hrd.cap; omega) hrd.max
    rw [hd'] at r1
    have hl' : (isort xs).length = xs.length := (isort_perm xs).length_eq
    exact ⟨rfl, ⟨r1, fun _ => ⟨g, rfl, hg1, fun k hk => r2 k (by omega)⟩⟩, below_sort hg1 hN⟩
theorem ordered_any (p : Option Addr) (n c : Nat) (xs : List It) (w : World) (hl : xs.length = n) (hn : n ≤ 1000000) (h : RdI w p c xs) :
    Calls Try.prog 30 #[.slice p n c] w fun e w' => ∃ q d, e = .returned (.slice q n d) ∧ Its w' w.heap.size q d (isort xs) ∧ Grew w w' := by
  have HC := Lib.hid (clone_any p n c xs w hl hn h)
  have Hl := Lib.hid hl
  clear h hl
  go_enter Try.func30, Try.ntmps30
  go_wp2_with (first
    | (go_at_call 37; (with_reducible refine HC.out.mono ?_); rintro e w1 ⟨q1, d1, rfl, o1, g1⟩; have O1 := Lib.hid o1; have G1 := Lib.hid g1; have hz1 : w.heap.size ≤ w1.heap.size := g1.size; clear o1 g1)
    | (go_at_call 38; (with_reducible refine (sort_any q1 n d1 w.heap.size xs _ Hl.out hn O1.out hz1).mono ?_); rintro e w2 ⟨rfl, i2, g2⟩; have I2 := Lib.hid i2; have G2 := Lib.hid g2; clear i2 g2))
  go_ret
  exact ⟨q1, d1, rfl, I2.out, Below.trans G1.out G2.out⟩
theorem isort_rep {d : Array It} {L : List It} (h : Rep d L) : isort d.toList = L := (isort_of h.perm.symm h.srt).symm
theorem items_any (q : Nat) (L : List It) (w : World) (h : QRep w q L) (hL : L.length ≤ 1000000) :
    Calls Try.prog 17 #[.pointer (some ⟨q, 0, none⟩)] w fun e w' => ∃ p c, e = .returned (.slice p L.length c) ∧ Its w' w.heap.size p c L ∧ Grew w w' := by
  obtain ⟨d, ⟨p, c, m, h1⟩, h2⟩ := h
  have hs := h2.size
  have hS := h1.record.cells.1
  have ho := ordered_any p d.size c d.toList w (by simp) (by omega) h1.own.rd.2
  rw [isort_rep h2] at ho
  rw [hs] at ho hS
  have HO := Lib.hid ho
  clear ho h1 h2 hs
  go_enter Try.func17, Try.ntmps17
  go_wp2_with (go_at_call 30; (with_reducible refine HO.out.mono ?_); rintro e w1 ⟨q1, d1, rfl, i1, g1⟩; have I1 := Lib.hid i1; have G1 := Lib.hid g1; clear i1 g1)
  go_ret
  exact ⟨q1, d1, rfl, I1.out, G1.out⟩
end Go.Proofs.Ytjcoghjkjnhljaa
