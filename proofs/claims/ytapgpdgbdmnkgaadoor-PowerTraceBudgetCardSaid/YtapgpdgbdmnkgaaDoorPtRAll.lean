/-
  CONTRACTS OF LAYER 13 (powertrace): the reference's All.
-/
import Derived.Test.YtapgpdgbdmnkgaaDoorPtFirst
namespace Go.Proofs.YtapgpdgbdmnkgaaDoor
open Go Go.RowKit Go.IntWalk
open Go.Lib (itoa)
set_option linter.unusedSimpArgs false
set_option linter.unusedVariables false
set_option maxRecDepth 8000

/-- What All of the reference collects; P: the blocks that it still changes. -/
structure RC (N : Nat) (w0 : World) (P : Blks) (xs : List Sl) (n : Nat) (p : Option Addr) (c : Nat) (W : World) : Prop where
  grew : Grew w0 W
  blks : ∀ k, P k → w0.heap.size ≤ k ∧ k < W.heap.size
  out : OwR W N 22 1 svc (.slice p n c) xs
  away : ∀ a, p = some a → ¬ P a.block
  each : ∀ x ∈ xs, OwR W N 52 2 itc x.v x.xs ∧ ∀ a, x.p = some a → ¬ P a.block
theorem RC.turn {N : Nat} {w0 A B : World} {P P' : Blks} {xs : List Sl} {n : Nat} {p : Option Addr} {c : Nat} (h : RC N w0 P xs n p c A) (hc : Chg A B P) (hp : ∀ k, k < A.heap.size → P' k → P k) (hb : ∀ k, P' k → k < B.heap.size) : RC N w0 P' xs n p c B := by
  obtain ⟨h1, h2, h3, h4, h5⟩ := h
  refine ⟨grew_lift h1 hc (fun k hk => (h2 k hk).1), fun k hk => ⟨?_, hb k hk⟩, h3.chg hc h4, fun a ha h => h4 a ha (hp _ (h3.place encS a ha).2 h), fun x hx => ⟨(h5 x hx).1.chg hc (h5 x hx).2, fun a ha h => (h5 x hx).2 a ha (hp _ ((h5 x hx).1.place encI a ha).2 h)⟩⟩
  rcases Nat.lt_or_ge k A.heap.size with hk' | hk'
  · exact (h2 k (hp k hk' hk)).1
  · exact Nat.le_trans h1.sz hk'
theorem RC.kept {N : Nat} {w0 A B : World} {P : Blks} {xs : List Sl} {n : Nat} {p : Option Addr} {c : Nat} (h : RC N w0 P xs n p c A) (hg : Grew A B) : RC N w0 P xs n p c B :=
  h.turn (Chg.of_grew hg _) (fun _ _ h => h) (fun k hk => Nat.lt_of_lt_of_le (h.blks k hk).2 hg.sz)
theorem own_new {q : Option Addr} {n c : Nat} {k : Nat} (h : Value.ownBlock (.slice q n c) = some k) : ∃ a, q = some a ∧ a.block = k := by
  rw [ownBlock_sl] at h
  cases q with
  | none => cases h
  | some a => exact ⟨a, rfl, Option.some.inj h⟩
/-- A copy of the schedule at hand is fresh. -/
theorem rall_fresh {N : Nat} {w0 W w1 : World} {xs : List Sl} {p q p1 : Option Addr} {n c e c1 nl : Nat} {cur : List It} {o : Obj} (h : RC N w0 (fun k => Value.ownBlock (.slice q nl e) = some k) xs n p c W) (hl : OwR W N 52 2 itc (.slice q nl e) cur) (ho1 : OwR w1 W.heap.size 52 2 itc (.slice p1 cur.length c1) cur)
    (hb1 : Below W.heap.size (W.alloc o) w1) :
    RC N w0 (fun k => Value.ownBlock (.slice q nl e) = some k) xs n p c w1 ∧ OwR w1 N 52 2 itc (.slice q nl e) cur ∧ OwR w1 W.heap.size 52 2 itc (.slice p1 cur.length c1) cur ∧ (∀ a, p1 = some a → ¬ ((fun k => Value.ownBlock (.slice q nl e) = some k) a.block)) := by
  have hg : Grew W w1 := ((Grew.refl W).alloc o).below hb1
  refine ⟨h.kept hg, hl.kept hg, ho1, fun a ha hs => ?_⟩
  have h1 := (ho1.place encI a ha).1
  have h2 := (h.blks _ hs).2
  omega
theorem rall_more {N : Nat} {w0 W w2 : World} {xs zs : List Sl} {p q p1 p2 : Option Addr} {n c e c1 c2 nl : Nat} {cur : List It} {B : Nat} {o : Obj} (h : RC N w0 (fun k => Value.ownBlock (.slice q nl e) = some k) xs n p c W) (hl : OwR W N 52 2 itc (.slice q nl e) cur ∧ OwR W B 52 2 itc (.slice p1 cur.length c1) cur ∧ (∀ a, p1 = some a → ¬ ((fun k => Value.ownBlock (.slice q nl e) = some k) a.block))) (hB : N ≤ B)
    (hz : zs = xs ++ [⟨p1, c1, cur⟩]) (ho2 : OwR w2 N 22 1 svc (.slice p2 zs.length c2) zs) (hN : N = w0.heap.size) (hc2 : Chg (W.alloc o) w2 (fun j => Value.ownBlock (.slice p n c) = some j)) :
    RC N w0 (fun k => Value.ownBlock (.slice q nl e) = some k) (xs ++ [⟨p1, c1, cur⟩]) zs.length p2 c2 w2 ∧ OwR w2 N 52 2 itc (.slice q nl e) cur := by
  subst hz
  obtain ⟨h1, h2, h3, h4, h5⟩ := h
  have hca : Chg W w2 (fun j => Value.ownBlock (.slice p n c) = some j) := (Chg.of_grew ((Grew.refl W).alloc o) _).trans hc2
  have key : ∀ {b n c' : Nat} {r : Option Addr} {ys : List It}, OwR W b 52 2 itc (.slice r n c') ys → OwR w2 b 52 2 itc (.slice r n c') ys := fun hr => hr.chg hca (fun a ha hs => by
    obtain ⟨a', ha', hs'⟩ := own_new hs
    exact (hr.off encI encS h3 (by decide) ha ha') hs'.symm)
  have hl2 := key hl.1
  refine ⟨⟨grew_lift h1 hca (fun k hk => ?_), fun k hk => ⟨(h2 k hk).1, Nat.lt_of_lt_of_le (h2 k hk).2 hca.size⟩, ho2, fun a ha hs => ?_, fun x hx => ?_⟩, hl2⟩
  · obtain ⟨a, ha, rfl⟩ := own_new hk
    have := (h3.place encS a ha).1
    omega
  · obtain ⟨a', ha', hs'⟩ := own_new hs
    exact (hl2.off encI encS ho2 (by decide) ha' ha) hs'
  · rcases List.mem_append.1 hx with hx | hx
    · exact ⟨key (h5 x hx).1, (h5 x hx).2⟩
    · rw [List.mem_singleton.1 hx]
      exact ⟨(key hl.2.1).down hB, hl.2.2⟩
/-- The schedule at hand has grown by one period. -/
theorem rall_long {N : Nat} {w0 W w3 : World} {xs : List Sl} {p q p3 : Option Addr} {n c e nl c3 : Nat} {zs3 : List It} {o : Obj} (h : RC N w0 (fun k => Value.ownBlock (.slice q nl e) = some k) xs n p c W) (hc : Chg (W.alloc o) w3 (fun j => Value.ownBlock (.slice q nl e) = some j))
    (hp : Value.ownBlock (.slice p3 zs3.length c3) = Value.ownBlock (.slice q nl e) ∨ Value.ownBlock (.slice p3 zs3.length c3) = some (W.alloc o).heap.size) (ho : OwR w3 N 52 2 itc (.slice p3 zs3.length c3) zs3) :
    RC N w0 (fun k => Value.ownBlock (.slice p3 zs3.length c3) = some k) xs n p c w3 ∧ OwR w3 N 52 2 itc (.slice p3 zs3.length c3) zs3 := by
  refine ⟨h.turn ((Chg.of_grew ((Grew.refl W).alloc o) _).trans hc) (fun k hk hs => ?_) (fun k hk => ?_), ho⟩
  · rcases hp with hp | hp
    · exact hp ▸ hs
    · rw [hp] at hs
      have := Option.some.inj hs
      rw [World.size_alloc] at this
      omega
  · obtain ⟨a, ha, rfl⟩ := own_new hk
    exact (ho.place encI a ha).2
/-- What All of the reference answers. -/
def RFirsts (f m d : Int) (lim : Nat) (w : World) (e : Ending) (w' : World) : Prop := ∃ (xs : List Sl) (p : Option Addr) (c : Nat), e = .returned (.slice p xs.length c) ∧ Lot w.heap.size w' p c xs ∧ OrdA m.toNat d xs ∧ xs.length = min lim (geo m.toNat (lens f m d)) ∧ Grew w w'
theorem OrdA.snoc {m : Nat} {d : Int} {L : List Sl} (h : OrdA m d L) {x : Sl} (hg : Good m d x.xs) (hi : idx m x.xs = L.length) : OrdA m d (L ++ [x]) := fun j y hy => by
  rcases Nat.lt_trichotomy j L.length with hj | hj | hj
  · rw [List.getElem?_append_left hj] at hy
    exact h j y hy
  · subst hj
    simp at hy
    rw [← hy]
    exact ⟨hg, hi⟩
  · rw [List.getElem?_append_right (by omega), List.getElem?_eq_none (by simp; omega)] at hy
    cases hy
/-- The next schedule of the same length. -/
theorem idx_bump {m : Nat} {d : Int} {a r : List It} {x : It} (h : Good m d (a ++ x :: r)) (hf : ∀ y ∈ r, ¬ y.1 < (m : Int)) : idx m (a ++ bumped x :: r.map zeroed) = idx m (a ++ x :: r) + 1 := by
  have := val_bump h hf
  unfold idx
  rw [this]
  simp
  omega
/-- The first one of the next length. -/
theorem idx_longer {m : Nat} {d : Int} {l : List It} (h : Good m d l) (hf : ∀ y ∈ l, ¬ y.1 < (m : Int)) : idx m ((l ++ [(0, d)]).map zeroed) = idx m l + 1 ∧ Good m d ((l ++ [(0, d)]).map zeroed) := by
  have h1 := val_last h hf
  refine ⟨?_, fun y hy => ?_⟩
  · unfold idx
    rw [val_zeros]
    simp only [List.length_map, List.length_append, List.length_cons, List.length_nil]
    rw [geo]
    omega
  · obtain ⟨z, hz, rfl⟩ := List.mem_map.1 hy
    rcases List.mem_append.1 hz with hz | hz
    · exact ⟨by show (0 : Int) ≤ 0 ∧ (0 : Int) ≤ m; omega, (h z hz).2⟩
    · rw [List.mem_singleton.1 hz]
      exact ⟨by show (0 : Int) ≤ 0 ∧ (0 : Int) ≤ m; omega, rfl⟩
theorem lens_yes {f m : Nat} {d : Int} (h : okP ((m : Int), d) = true) : lens (f : Int) m d = f + 1 := by unfold lens; rw [if_pos h]; omega
set_option maxHeartbeats 4000000 in
theorem rall_no (f m d : Int) (lim : Nat) (w : World) (h : f < 0 ∨ okP (m, d) = false) : Calls Tryd.prog 30 #[.int .i64 f, .int .i64 m, .int .i64 d, .int .i64 (lim : Int)] w (RFirsts f m d lim w) := by
  have HN : Hid (lens f m d = 0) := Lib.hid (by
    unfold lens
    rcases h with h | h
    · split <;> omega
    · rw [h]; rfl)
  have hd : f < 0 ∨ m < 0 ∨ 1073741824 < m ∨ d < 1 ∨ 1099511627776 < d := by
    rcases h with h | h
    · exact .inl h
    · simp only [okP, Bool.and_eq_false_iff, decide_eq_false_iff_not] at h
      omega
  clear h
  go_enter Tryd.func30, Tryd.ntmps30
  go_wp2
  all_goals first | (exfalso; omega) | skip
  all_goals go_ret
  all_goals exact ⟨[], _, 0, rfl, ⟨OwR.lit encS w [] 0 w.heap.size 22 _ rfl rfl (by omega) (Nat.le_refl _), fun x hx => (by cases hx)⟩, OrdA.nil _ _, by rw [HN.out]; simp [geo], (Grew.refl _).alloc _⟩
theorem zset {pre r : List It} {t : Nat} (ht : t < r.length) : (pre ++ (r.take t).map zeroed ++ r.drop t)[pre.length + t]? = some r[t] ∧ (pre ++ (r.take t).map zeroed ++ r.drop t).set (pre.length + t) (zeroed r[t]) = pre ++ (r.take (t + 1)).map zeroed ++ r.drop (t + 1) := by
  have hl : (pre ++ (r.take t).map zeroed).length = pre.length + t := by simp; omega
  constructor
  · rw [List.getElem?_append_right (by omega), hl, Nat.sub_self, List.getElem?_drop, Nat.add_zero, List.getElem?_eq_getElem ht]
  · rw [List.set_append, if_neg (by omega), hl, Nat.sub_self, List.drop_eq_getElem_cons ht, List.set_cons_zero, List.take_succ_eq_append_getElem ht, List.map_append]
    simp only [List.map_cons, List.map_nil, List.append_assoc, List.cons_append, List.nil_append]
/-- From place k on all energies are the greatest. -/
def Full (m : Nat) (k : Nat) (l : List It) : Prop := ∀ j y, k ≤ j → l[j]? = some y → ¬ y.1 < (m : Int)
set_option maxHeartbeats 8000000 in
theorem rall_ok (f m : Nat) (d : Int) (lim : Nat) (hf : f ≤ 1000) (hok : okP ((m : Int), d) = true) (hl : 1 ≤ lim ∧ lim ≤ 1000) (w : World) : Calls Tryd.prog 30 #[.int .i64 (f : Int), .int .i64 (m : Int), .int .i64 d, .int .i64 (lim : Int)] w (RFirsts f m d lim w) := by
  obtain ⟨⟨-, hm⟩, hd1, hd2⟩ := okP_bd hok
  simp only at hm hd1 hd2
  have HLN := Lib.hid (lens_yes (f := f) hok)
  have hf0 : ¬ (f : Int) < 0 := by omega
  have hm0 : ¬ (m : Int) < 0 := by omega
  have hm1 : ¬ (1073741824 : Int) < m := by omega
  have hd3 : ¬ d < 1 := by omega
  have hd4 : ¬ (1099511627776 : Int) < d := by omega
  clear hok
  go_enter Tryd.func30, Tryd.ntmps30
  go_wp2
  all_goals first | (exfalso; omega) | skip
  obtain ⟨b1, hb1⟩ : ∃ b, b = w.heap.size := ⟨_, rfl⟩
  obtain ⟨b2, hb2⟩ : ∃ b, b = b1 + 1 := ⟨_, rfl⟩
  rw [← hb1, ← hb2]
  refine wp_at9 (fun W => RC w.heap.size w (fun k => Value.ownBlock (.slice (some ⟨b2, 0, none⟩) 0 0) = some k) [] 0 (some ⟨b1, 0, none⟩) 0 W ∧ OwR W w.heap.size 52 2 itc (.slice (some ⟨b2, 0, none⟩) 0 0) []) ?_ ?_
  · have g1 : Grew w (w.alloc (.cells #[] 22)) := (Grew.refl _).alloc _
    have h1 := OwR.lit encS w [] 0 w.heap.size 22 #[] rfl rfl (by omega) (Nat.le_refl _)
    have h2 := OwR.lit encI (w.alloc (.cells #[] 22)) [] 0 w.heap.size 52 #[] rfl rfl (by omega) g1.sz
    rw [World.size_alloc, ← hb1, ← hb2] at h2
    rw [← hb1] at h1
    refine ⟨⟨g1.alloc _, fun k hk => ?_, ?_, fun a ha hs => ?_, fun x hx => (by cases hx)⟩, ?_⟩
    · have hk' : some b2 = some k := hk
      obtain rfl := Option.some.inj hk'
      refine ⟨by omega, by simp; omega⟩
    · have := h1.kept ((Grew.refl (w.alloc (.cells #[] 22))).alloc (.cells #[] 52))
      rw [← hb1]
      exact this
    · have hs' : some b2 = some a.block := hs
      have ha' : a.block = b1 := by cases ha; rfl
      have := Option.some.inj hs'
      omega
    · rw [← hb1]
      exact h2
  intro W0 hW0
  have HW0 := Lib.hid hW0
  clear hW0 hb1 hb2
  go_loopg [9, 10] lim (fun gg ov lv wr => ∃ (xs : List Sl) (cur : List It) (nx nl c e : Nat) (p q : Option Addr), ov = .slice p nx c ∧ lv = .slice q nl e ∧ gg = lim - nx ∧ nx ≤ lim ∧ nl ≤ f + 1 ∧ Hid (nx = xs.length ∧ nl = cur.length) ∧ Hid (RC w.heap.size w (fun k => Value.ownBlock (.slice q nl e) = some k) xs nx p c wr) ∧ Hid (OwR wr w.heap.size 52 2 itc (.slice q nl e) cur) ∧ Hid (OrdA m d xs ∧ Good m d cur ∧ idx m cur = xs.length ∧ xs.length ≤ geo m (f + 1)))
  case atStart => exact ⟨[], [], 0, 0, 0, 0, _, _, rfl, rfl, rfl, by omega, by omega, Lib.hid ⟨rfl, rfl⟩, Lib.hid HW0.out.1, Lib.hid HW0.out.2, Lib.hid ⟨OrdA.nil _ _, fun x hx => (by cases hx), rfl, Nat.zero_le _⟩⟩
  clear HW0
  case round =>
    obtain ⟨xs, cur, nx, nl, c, e, p, q, rfl, rfl, rfl, hnx, hnl, HNN, HRC, HL, HE⟩ := hrel
    by_cases hgo : nl ≤ f ∧ nx < lim
    · obtain ⟨hgo1, hgo2⟩ := hgo
      have HB : Hid (cur.length ≤ 2000) := Lib.hid (by have := HNN.out; omega)
      have HLT : Hid (xs.length < 1000 ∧ xs.length < lim) := Lib.hid (by have := HNN.out; omega)
      have tk1 := Lib.hid trivial
      go_wp2_with (first
        | (at_builtin; clear tk1; refine wpList_append_row encI rfl _ _ 22 rfl wr.heap.size 52 (itv (0, 0)) 16 Tryd.underlying22 infoC rfl _ [] rfl (OwR.lit encI wr [] 0 wr.heap.size 52 _ rfl rfl (by omega) (Nat.le_refl _)) _ _ _ cur rfl HNN.out.2.symm ((HL.out.rd encI).2.kept ((Grew.refl _).alloc _)) (by have := HB.out; simp; omega) (by have := HB.out; simp; omega) (by simp) ?_; intro p1 c1 zs1 w1 hz1 ho1 hb1 hc1; obtain rfl : cur = zs1 := (hz1.out.trans (List.nil_append _)).symm; have HX1 := Lib.hid (rall_fresh HRC.out HL.out ho1 hb1); clear ho1 hb1 hc1 hz1)
        | (at_builtin; refine wpList_append_row encS rfl _ _ 54 rfl w.heap.size 22 (.slice none 0 0) 24 Tryd.underlying54 infoS rfl _ xs rfl (HX1.out.1.out.kept ((Grew.refl _).alloc _)) _ _ _ [(⟨p1, c1, cur⟩ : Sl)] rfl rfl (Rw.made encS _ [(⟨p1, c1, cur⟩ : Sl)] 1 _ _ _ rfl rfl (by decide)) (by have := HLT.out; simp; omega) (by have := HLT.out; simp; omega) (by have := HX1.out.1.grew.sz; simp; omega) ?_; intro p2 c2 zs2 w2 hz2 ho2 hb2 hc2; have HZ2 := Lib.hid hz2.out; have HX2 := Lib.hid (rall_more HX1.out.1 HX1.out.2 HRC.out.grew.sz hz2.out ho2 rfl hc2); clear ho2 hb2 hc2 hz2))
      have HGO := Lib.hid (And.intro hgo1 hgo2)
      have HNZ : Hid (zs2.length = nx + 1) := Lib.hid (by rw [HZ2.out, List.length_append, HNN.out.1]; rfl)
      obtain ⟨nz, hnz⟩ : ∃ u, u = zs2.length := ⟨_, rfl⟩
      rw [← hnz] at HX2 HNZ ⊢
      clear hnz HZ2 HX1
      obtain rfl : nz = nx + 1 := HNZ.out
      have HE2 : Hid (OrdA m d (xs ++ [⟨p1, c1, cur⟩]) ∧ xs.length + 1 ≤ geo m (f + 1)) := Lib.hid (by
        obtain ⟨h1, h2, h3, h4⟩ := HE.out
        exact ⟨h1.snoc h2 h3, by have := (idx_len h2 f).1 (by rw [← HNN.out.2]; omega); omega⟩)
      go_loopg [11] (nl + nl) (fun gg iv wr => ∃ (k : Nat) (z : Int), iv = .int .i64 z ∧ z = (k : Int) - 1 ∧ gg = k + nl ∧ k ≤ nl ∧ Hid (Full m k cur) ∧ w2 = wr)
      case atStart => exact ⟨nl, _, rfl, by omega, rfl, Nat.le_refl _, Lib.hid (fun j y hj hy => by have h1 := (List.getElem?_eq_some_iff.1 hy).1; have := HNN.out; omega), rfl⟩
      case round =>
        obtain ⟨k, z, rfl, hz, rfl, hk, HF, rfl⟩ := hrel
        cases k with
        | zero =>
          obtain rfl : z = -1 := by omega
          clear hz
          have HFA : Hid (∀ y ∈ cur, ¬ y.1 < (m : Int)) := Lib.hid (fun y hy => by
            obtain ⟨j, hj, rfl⟩ := List.getElem_of_mem hy
            exact HF.out j _ (Nat.zero_le _) (List.getElem?_eq_getElem hj))
          go_wp2_with (at_builtin; refine wpList_append_rowO encI rfl _ _ 22 rfl w.heap.size 52 (itv (0, 0)) 16 Tryd.underlying22 infoC rfl _ cur rfl (HX2.out.2.kept ((Grew.refl _).alloc _)) _ _ _ [((0 : Int), d)] rfl rfl (Rw.made encI _ [((0 : Int), d)] 1 _ _ _ rfl rfl (by decide)) (by have := HB.out; simp; omega) (by have := HB.out; simp; omega) (by have := HX2.out.1.grew.sz; simp; omega) ?_; intro p3 c3 zs3 w3 hz3 ho3 hb3 hc3 hp3; have HZ3 := Lib.hid hz3.out; have HX3 := Lib.hid (rall_long HX2.out.1 hc3 hp3 ho3); clear ho3 hb3 hc3 hp3 hz3)
          all_goals first | (exfalso; omega) | skip
          have HRL : Hid (zs3.length = nl + 1) := Lib.hid (by rw [HZ3.out, List.length_append, HNN.out.2]; rfl)
          have HPL : Hid (([] : List It).length = 0) := Lib.hid rfl
          have HO3 : Hid (OwR w3 w.heap.size 52 2 itc (.slice p3 (nl + 1) c3) ([] ++ zs3)) := Lib.hid (by rw [← HRL.out]; exact HX3.out.2)
          have HR3 : Hid (RC w.heap.size w (fun k => Value.ownBlock (.slice p3 (nl + 1) c3) = some k) (xs ++ [⟨p1, c1, cur⟩]) (nx + 1) p2 c2 w3) := Lib.hid (by rw [← HRL.out]; exact HX3.out.1)
          rw [HRL.out]
          clear HX3 HX2
          go_loopg [12] (nl + 1) (fun gg iv wr => ∃ (t : Nat), iv = .int .i64 (((0 + t : Nat)) : Int) ∧ t ≤ (nl + 1) ∧ gg = (nl + 1) - t ∧ Hid (OwR wr w.heap.size 52 2 itc (.slice p3 (nl + 1) c3) (([] : List It) ++ (zs3.take t).map zeroed ++ zs3.drop t)) ∧ Hid (Chg w3 wr (fun k => Value.ownBlock (.slice p3 (nl + 1) c3) = some k)))
          case atStart => exact ⟨0, by first | rfl | (congr 2; omega) | simp, Nat.zero_le _, rfl, Lib.hid (by simpa using HO3.out), Lib.hid (Chg.refl _ _)⟩
          clear HO3
          case round =>
            obtain ⟨t, rfl, ht, rfl, HO, HC⟩ := hrel
            by_cases htl : t < (nl + 1)
            · have hrt : t < zs3.length := by rw [HRL.out]; exact htl
              obtain ⟨hz1, hz2⟩ := zset (pre := ([] : List It)) hrt
              rw [HPL.out, Nat.zero_add] at hz1 hz2
              obtain ⟨g, hg, hbg, hgl⟩ := HO.out.at (by omega)
              have HCS := Lib.hid (HC.out.trans ((Chg.set wr ⟨g, t * 2, none⟩ (.int .i64 0)).mono (fun k hk => (show Value.ownBlock (.slice p3 (nl + 1) c3) = some k by rw [ownBlock_sl, hg]; rw [show k = g from hk]; rfl))))
              have hO := HO.out
              rw [hg] at hO
              have d0 := ((hO.rd encI).2).cell hz1 (j := 0) rfl
              simp only [Nat.zero_add, Nat.add_zero] at d0
              have hfr := fun q => (hO.free encI q).2
              have HS1 := Lib.hid (hO.setE t _ hz1 0)
              have HZ3 := Lib.hid hz2
              have HSG := Lib.hid hg
              clear hz1 hz2 hO HC
              rw [hg]
              go_wp2
              all_goals first | (exfalso; omega) | skip
              rw [← HSG.out]
              go_roundg ((nl + 1) - (t + 1))
              · exact ⟨t + 1, by first | rfl | simp | (congr 2; omega), by omega, rfl, Lib.hid (by rw [← HZ3.out, HSG.out]; exact HS1.out), HCS⟩
              · omega
            · obtain rfl : t = (nl + 1) := by omega
              go_wp2
              all_goals first | (exfalso; omega) | skip
              have hO := HO.out
              rw [show zs3.take (nl + 1) = zs3 by rw [← HRL.out, List.take_length], show zs3.drop (nl + 1) = [] by rw [← HRL.out, List.drop_length], List.append_nil] at hO
              have HON := Lib.hid hO
              clear hO HO
              have hcs := HC.out.size
              go_roundg (lim - (nx + 1))
              · exact ⟨xs ++ [⟨p1, c1, cur⟩], zs3.map zeroed, (nx + 1), nl + 1, c2, c3, p2, p3, rfl, rfl, rfl, by omega, by omega, Lib.hid ⟨by rw [List.length_append, HNN.out.1]; rfl, by rw [List.length_map, HRL.out]⟩, Lib.hid (HR3.out.turn HC.out (fun _ _ h => h) (fun k hk => Nat.lt_of_lt_of_le (HR3.out.blks k hk).2 hcs)), Lib.hid (by have := HON.out; simpa using this), Lib.hid ⟨HE2.out.1, (by rw [HZ3.out]; exact (idx_longer HE.out.2.1 (fun y hy => Int.not_lt.2 (HFA.out y hy))).2), (by rw [HZ3.out, (idx_longer HE.out.2.1 (fun y hy => Int.not_lt.2 (HFA.out y hy))).1, HE.out.2.2.1, List.length_append]; rfl), by rw [List.length_append]; exact HE2.out.2⟩⟩
              · omega
        | succ j =>
          obtain rfl : z = (j : Int) := by omega
          have hlt : j < cur.length := by have := HNN.out; omega
          have hcur : cur[j]? = some cur[j] := List.getElem?_eq_getElem hlt
          obtain ⟨g, hg, hbg, hgl⟩ := HX2.out.2.at (by omega)
          have hO := HX2.out.2
          rw [hg] at hO
          have d0 := ((hO.rd encI).2).cell hcur (j := 0) rfl
          simp only [Nat.zero_add, Nat.add_zero] at d0
          have hfr := fun q => (hO.free encI q).2
          have hgd := (HE.out.2.1 cur[j] (List.getElem_mem hlt)).1
          have HS1 := Lib.hid (fun zz => hO.setE j cur[j] hcur zz)
          have HSP := Lib.hid (List.take_append_drop j cur)
          rw [List.drop_eq_getElem_cons hlt] at HSP
          have HST : Hid (∀ y, cur.set j y = (cur.take j ++ [y]) ++ cur.drop (j + 1)) := Lib.hid (fun y => by rw [List.set_eq_take_append_cons_drop, if_pos hlt]; simp)
          have HCJ := Lib.hid hcur
          have HCS := Lib.hid (fun zz : Int => ((Chg.set w2 ⟨g, j * 2, none⟩ (.int .i64 zz)).mono (fun k hk => (show Value.ownBlock (.slice q nl e) = some k by rw [ownBlock_sl, hg]; rw [show k = g from hk]; rfl))))
          have HSG := Lib.hid hg
          generalize cur[j] = x at d0 hgd HS1 HSP HCJ
          rw [hg]
          clear hcur hO hlt hz hg
          by_cases hxm : x.1 = m
          · have HXM := Lib.hid hxm
            go_wp2
            all_goals first | (exfalso; omega) | skip
            rw [← HSG.out]
            go_roundg (j + nl)
            · exact ⟨j, _, rfl, by omega, rfl, by omega, Lib.hid (fun i y hi hy => by
                rcases Nat.lt_or_ge j i with h | h
                · exact HF.out i y h hy
                · obtain rfl : i = j := by omega
                  rw [HCJ.out] at hy
                  obtain rfl := Option.some.inj hy
                  have := HXM.out
                  omega), rfl⟩
            · omega
          · have HXM := Lib.hid hxm
            have hsum : -9223372036854775808 ≤ x.1 + 1 ∧ x.1 + 1 ≤ 9223372036854775807 := by omega
            have HXL : Hid (x.1 < (m : Int)) := Lib.hid (by omega)
            go_wp2
            all_goals first | (exfalso; omega) | skip
            rw [← HSG.out]
            have HO3 : Hid (OwR (w2.setCell ⟨g, j * 2, none⟩ (.int .i64 (x.1 + 1))) w.heap.size 52 2 itc (.slice q nl e) ((cur.take j ++ [bumped x]) ++ cur.drop (j + 1))) := Lib.hid (by rw [HSG.out, ← HST.out]; exact HS1.out _)
            have HC3 := Lib.hid (HCS.out (x.1 + 1))
            generalize World.setCell w2 ⟨g, j * 2, none⟩ (.int .i64 (x.1 + 1)) = w3 at HO3 HC3 ⊢
            have HR3 : Hid (RC w.heap.size w (fun k => Value.ownBlock (.slice q nl e) = some k) (xs ++ [⟨p1, c1, cur⟩]) (nx + 1) p2 c2 w3) := Lib.hid (HX2.out.1.turn HC3.out (fun _ _ h => h) (fun k hk => Nat.lt_of_lt_of_le (HX2.out.1.blks k hk).2 HC3.out.size))
            have HRL : Hid ((cur.drop (j + 1)).length = nl - (j + 1)) := Lib.hid (by rw [List.length_drop, HNN.out.2])
            have HPL : Hid ((cur.take j ++ [bumped x]).length = j + 1) := Lib.hid (by rw [List.length_append, List.length_take]; have := HNN.out; simp; omega)
            have HFR : Hid (∀ y ∈ cur.drop (j + 1), ¬ y.1 < (m : Int)) := Lib.hid (fun y hy => by
              obtain ⟨i, hi, rfl⟩ := List.getElem_of_mem hy
              rw [List.getElem_drop]
              exact HF.out _ _ (by omega) (List.getElem?_eq_getElem _))
            clear HX2 HS1 HST HCS
            go_loopg [12] (nl - (j + 1)) (fun gg iv wr => ∃ (t : Nat), iv = .int .i64 ((((j + 1) + t : Nat)) : Int) ∧ t ≤ (nl - (j + 1)) ∧ gg = (nl - (j + 1)) - t ∧ Hid (OwR wr w.heap.size 52 2 itc (.slice q (nl) e) ((cur.take j ++ [bumped x]) ++ ((cur.drop (j + 1)).take t).map zeroed ++ (cur.drop (j + 1)).drop t)) ∧ Hid (Chg w3 wr (fun k => Value.ownBlock (.slice q (nl) e) = some k)))
            case atStart => exact ⟨0, by first | rfl | (congr 2; omega) | simp, Nat.zero_le _, rfl, Lib.hid (by simpa using HO3.out), Lib.hid (Chg.refl _ _)⟩
            clear HO3
            case round =>
              obtain ⟨t, rfl, ht, rfl, HO, HC⟩ := hrel
              by_cases htl : t < (nl - (j + 1))
              · have hrt : t < (cur.drop (j + 1)).length := by rw [HRL.out]; exact htl
                obtain ⟨hz1, hz2⟩ := zset (pre := (cur.take j ++ [bumped x])) hrt
                rw [HPL.out] at hz1 hz2
                obtain ⟨g, hg, hbg, hgl⟩ := HO.out.at (by omega)
                have HCS := Lib.hid (HC.out.trans ((Chg.set wr ⟨g, ((j + 1) + t) * 2, none⟩ (.int .i64 0)).mono (fun k hk => (show Value.ownBlock (.slice q (nl) e) = some k by rw [ownBlock_sl, hg]; rw [show k = g from hk]; rfl))))
                have hO := HO.out
                rw [hg] at hO
                have d0 := ((hO.rd encI).2).cell hz1 (j := 0) rfl
                simp only [Nat.zero_add, Nat.add_zero] at d0
                have hfr := fun q => (hO.free encI q).2
                have HS1 := Lib.hid (hO.setE ((j + 1) + t) _ hz1 0)
                have HZ3 := Lib.hid hz2
                have HSG := Lib.hid hg
                clear hz1 hz2 hO HC
                rw [hg]
                go_wp2
                all_goals first | (exfalso; omega) | skip
                rw [← HSG.out]
                go_roundg ((nl - (j + 1)) - (t + 1))
                · exact ⟨t + 1, by first | rfl | simp | (congr 2; omega), by omega, rfl, Lib.hid (by rw [← HZ3.out, HSG.out]; exact HS1.out), HCS⟩
                · omega
              · obtain rfl : t = (nl - (j + 1)) := by omega
                go_wp2
                all_goals first | (exfalso; omega) | skip
                have hO := HO.out
                rw [show (cur.drop (j + 1)).take (nl - (j + 1)) = (cur.drop (j + 1)) by rw [← HRL.out, List.take_length], show (cur.drop (j + 1)).drop (nl - (j + 1)) = [] by rw [← HRL.out, List.drop_length], List.append_nil] at hO
                have HON := Lib.hid hO
                clear hO HO
                have hcs := HC.out.size
                go_roundg (lim - (nx + 1))
                · exact ⟨xs ++ [⟨p1, c1, cur⟩], cur.take j ++ bumped x :: (cur.drop (j + 1)).map zeroed, (nx + 1), nl, c2, e, p2, q, rfl, rfl, rfl, by omega, by omega, Lib.hid ⟨by rw [List.length_append, HNN.out.1]; rfl, by have h1 := HNN.out.2; simp; omega⟩, Lib.hid (HR3.out.turn HC.out (fun _ _ h => h) (fun k hk => Nat.lt_of_lt_of_le (HR3.out.blks k hk).2 hcs)), Lib.hid (by have := HON.out; simpa using this), Lib.hid ⟨HE2.out.1, (good_bump (by rw [HSP.out]; exact HE.out.2.1) HXL.out), (by rw [idx_bump (d := d) (by rw [HSP.out]; exact HE.out.2.1) (fun y hy => Int.not_lt.2 (HFR.out y hy)), HSP.out, HE.out.2.2.1, List.length_append]; rfl), by rw [List.length_append]; exact HE2.out.2⟩⟩
                · omega
    · have HFin : Hid (xs.length = min lim (geo m (lens f m d))) := Lib.hid (by
        have h1 := HNN.out
        obtain ⟨h2, h3, h4, h5⟩ := HE.out
        rw [HLN.out]
        have h6 := idx_len h3 f
        rw [h4] at h6
        omega)
      by_cases hA : nl ≤ f
      · have hB : ¬ (nx : Int) < lim := by omega
        have hA' : (nl : Int) ≤ f := by omega
        clear hgo
        go_wp2
        all_goals first | (exfalso; omega) | skip
        go_ret
        have h1 := HNN.out.1
        have hO := HRC.out.out
        rw [h1] at hO ⊢
        exact ⟨xs, p, c, rfl, ⟨hO, fun x hx => (HRC.out.each x hx).1⟩, HE.out.1, HFin.out, HRC.out.grew⟩
      · have hA' : ¬ (nl : Int) ≤ f := by omega
        clear hgo
        go_wp2
        all_goals first | (exfalso; omega) | skip
        go_ret
        have h1 := HNN.out.1
        have hO := HRC.out.out
        rw [h1] at hO ⊢
        exact ⟨xs, p, c, rfl, ⟨hO, fun x hx => (HRC.out.each x hx).1⟩, HE.out.1, HFin.out, HRC.out.grew⟩
theorem rall_any (f m d : Int) (lim : Nat) (hf : f ≤ 1000) (hl : 1 ≤ lim ∧ lim ≤ 1000) (w : World) : Calls Tryd.prog 30 #[.int .i64 f, .int .i64 m, .int .i64 d, .int .i64 (lim : Int)] w (RFirsts f m d lim w) := by
  by_cases h : f < 0 ∨ okP (m, d) = false
  · exact rall_no f m d lim w h
  · obtain ⟨f, rfl⟩ : ∃ u : Nat, f = u := ⟨f.toNat, by omega⟩
    have hok : okP (m, d) = true := by
      cases hq : okP (m, d) with
      | true => rfl
      | false => exact absurd (.inr hq) h
    have hm := (okP_bd hok).1.1
    simp only at hm
    obtain ⟨m, rfl⟩ : ∃ u : Nat, m = u := ⟨m.toNat, by omega⟩
    have := rall_ok f m d lim (by omega) hok hl w
    exact this
end Go.Proofs.YtapgpdgbdmnkgaaDoor
