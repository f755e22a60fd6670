/-
  CONTRACTS OF LAYER 13 (powertrace): ofLength and its iterator.
-/
import Derived.Test.YtapgpdgbdmnkgaaDoorPtRep
import Derived.Test.YtapgpdgbdmnkgaaDoorPtSeq
import Derived.Test.YtapgpdgbdmnkgaaDoorPtAdv
import Derived.Test.YtapgpdgbdmnkgaaDoorEach
import Derived.Test.YtapgpdgbdmnkgaaDoorLoopIn
import Derived.RangeFuncCalls
import Derived.RangeFuncBound
import Derived.Shelf.Abstract
import Derived.Shelf.AbstractIn
import Derived.OwnWalkIn
import Derived.TacticsInMore
import Derived.LoopIn
namespace Go.Proofs.YtapgpdgbdmnkgaaDoor
open Go Go.RowKit Go.IntWalk Go.Shelf
open Go.Lib (itoa)
set_option linter.unusedSimpArgs false
set_option linter.unusedVariables false
set_option maxRecDepth 8000

/-- A schedule as it is yielded: its address, its capacity, its periods. -/
structure Sl where
  p : Option Addr
  c : Nat
  xs : List It
abbrev Sl.v (x : Sl) : Value := .slice x.p x.xs.length x.c
abbrev slEnc (x : Sl) : Array Value := #[x.v]
/-- It is fresh: in memory beyond B, not the iterator's. -/
def Fresh (B : Nat) (P : Blks) (x : Sl) (w : World) : Prop := OwR w B 52 2 itc x.v x.xs ∧ ∀ a, x.p = some a → ¬ P a.block
theorem Fresh.put {B : Nat} {P1 : Blks} {x : Sl} {W : World} {L D : Nat} {r : Loop} {d : Option (List Deferred)} {o : Obj} (h : Fresh B P1 x W) (hl : W.heap[L]? = some (.loop r)) (hd : W.heap[D]? = some (.deferred d)) : Fresh B (fun k => P1 k ∨ k = D ∨ k = L) x (W.putObj L o) := by
  have key : ∀ a, x.p = some a → a.block ≠ L ∧ a.block ≠ D := fun a ha => by
    obtain ⟨cur, hk⟩ := h.1.kind encI a ha
    constructor
    · intro e; rw [e, hl] at hk; cases hk
    · intro e; rw [e, hd] at hk; cases hk
  refine ⟨h.1.chg (chg_put W L o) (fun a ha hs => (key a ha).1 hs), fun a ha hp => ?_⟩
  rcases hp with hp | hp | hp
  · exact h.2 a ha hp
  · exact (key a ha).2 hp
  · exact (key a ha).1 hp
/-- Schedules of n periods in their order. -/
def Ord (m : Nat) (d : Int) (n : Nat) (L : List Sl) : Prop := ∀ j x, L[j]? = some x → Good m d x.xs ∧ x.xs.length = n ∧ val m x.xs = j
theorem Ord.nil (m : Nat) (d : Int) (n : Nat) : Ord m d n [] := fun j x h => by simp at h
theorem Ord.snoc {m : Nat} {d : Int} {n : Nat} {L : List Sl} (h : Ord m d n L) {x : Sl} (hg : Good m d x.xs) (hn : x.xs.length = n) (hv : val m x.xs = L.length) : Ord m d n (L ++ [x]) := fun j y hy => by
  rcases Nat.lt_trichotomy j L.length with hj | hj | hj
  · rw [List.getElem?_append_left hj] at hy
    exact h j y hy
  · subst hj
    simp at hy
    rw [← hy]
    exact ⟨hg, hn, hv⟩
  · rw [List.getElem?_append_right (by omega), List.getElem?_eq_none (by simp; omega)] at hy
    cases hy
theorem of_any (a b d : Int) (w : World) :
    Calls Tryd.prog 51 #[.int .i64 a, .int .i64 b, .int .i64 d] w fun e w' => ∃ B0 B1 B2, e = .returned (.func (.func 57) #[] #[.pointer (some ⟨B2, 0, none⟩), .pointer (some ⟨B0, 0, none⟩), .pointer (some ⟨B1, 0, none⟩)]) ∧ (Blk B0 [.int .i64 a] 3 w' ∧ Blk B1 [.int .i64 b] 3 w' ∧ Blk B2 [.int .i64 d] 2 w') ∧ w.heap.size ≤ B0 ∧ w.heap.size ≤ B1 ∧ w.heap.size ≤ B2 ∧ Grew w w' := by
  go_enter Tryd.func51, Tryd.ntmps51
  go_wp2
  go_ret
  have h0 := Blk.new w [.int .i64 a] 3
  have h1 := Blk.new (w.alloc (.cells #[.int .i64 a] 3)) [.int .i64 b] 3
  have h2 := Blk.new ((w.alloc (.cells #[.int .i64 a] 3)).alloc (.cells #[.int .i64 b] 3)) [.int .i64 d] 2
  have g1 : ∀ (W : World) (o : Obj), Grew W (W.alloc o) := fun W o => (Grew.refl W).alloc o
  refine ⟨w.heap.size, w.heap.size + 1, w.heap.size + 2, rfl, ⟨(h0.grew (g1 _ _)).grew (g1 _ _), ?_, ?_⟩, by omega, by omega, by omega, ((Grew.refl w).alloc _).alloc _ |>.alloc _⟩
  · simpa using h1.grew (g1 _ _)
  · simpa using h2
theorem all_any (a b d : Int) (w : World) :
    Calls Tryd.prog 43 #[.int .i64 a, .int .i64 b, .int .i64 d] w fun e w' => ∃ B0 B1 B2, e = .returned (.func (.func 50) #[] #[.pointer (some ⟨B1, 0, none⟩), .pointer (some ⟨B2, 0, none⟩), .pointer (some ⟨B0, 0, none⟩)]) ∧ (Blk B0 [.int .i64 a] 3 w' ∧ Blk B1 [.int .i64 b] 3 w' ∧ Blk B2 [.int .i64 d] 2 w') ∧ w.heap.size ≤ B0 ∧ w.heap.size ≤ B1 ∧ w.heap.size ≤ B2 ∧ Grew w w' := by
  go_enter Tryd.func43, Tryd.ntmps43
  go_wp2
  go_ret
  have h0 := Blk.new w [.int .i64 a] 3
  have h1 := Blk.new (w.alloc (.cells #[.int .i64 a] 3)) [.int .i64 b] 3
  have h2 := Blk.new ((w.alloc (.cells #[.int .i64 a] 3)).alloc (.cells #[.int .i64 b] 3)) [.int .i64 d] 2
  have g1 : ∀ (W : World) (o : Obj), Grew W (W.alloc o) := fun W o => (Grew.refl W).alloc o
  refine ⟨w.heap.size, w.heap.size + 1, w.heap.size + 2, rfl, ⟨(h0.grew (g1 _ _)).grew (g1 _ _), ?_, ?_⟩, by omega, by omega, by omega, ((Grew.refl w).alloc _).alloc _ |>.alloc _⟩
  · simpa using h1.grew (g1 _ _)
  · simpa using h2
theorem adv_next {m n : Nat} {d : Int} {cur ys : List It} {b : Bool} {pre : List Sl} {x : Sl} (hg : Good m d cur) (hn : cur.length = n) (hv : val m cur = pre.length) (ha : Adv m cur ys b) (hl : ys.length = n) :
    (b = true → Good m d ys ∧ ys.length = n ∧ val m ys = (pre ++ [x]).length ∧ (pre ++ [x]).length < (m + 1) ^ n) ∧ (b = false → (pre ++ [x]).length = (m + 1) ^ n) := by
  constructor
  · intro hb
    obtain ⟨a, y, r, rfl, h1, h2, rfl⟩ := ha.1 hb
    have e1 := val_bump hg h1
    have g1 := good_bump hg h2
    have l1 := val_lt g1
    rw [hl] at l1
    rw [hv] at e1
    exact ⟨g1, hl, by rw [e1]; simp, by rw [e1] at l1; simpa using l1⟩
  · intro hb
    have e1 := val_last hg (ha.2 hb)
    rw [hn, hv] at e1
    simpa using e1
set_option maxRecDepth 100000 in
set_option maxHeartbeats 4000000 in
theorem of1_gives (Bo Bn Bm n m : Nat) (d : Int) (w : World) (hn : n ≤ 1000) (hm : m ≤ 1073741824) (ho : Blk Bo [.int .i64 d] 2 w) (hbn : Blk Bn [.int .i64 (n : Int)] 3 w) (hbm : Blk Bm [.int .i64 (m : Int)] 3 w) :
    Gives Tryd.prog 57 #[.pointer (some ⟨Bo, 0, none⟩), .pointer (some ⟨Bn, 0, none⟩), .pointer (some ⟨Bm, 0, none⟩)] slEnc (Fresh w.heap.size) (fun k => k = Bo ∨ k = Bn ∨ k = Bm) (fun xs => xs.length = (m + 1) ^ n ∧ Ord m d n xs) (fun xs => xs.length ≤ (m + 1) ^ n ∧ Ord m d n xs) w := by
  intro nn l J Jx W hgW hJ hJx hY h0
  obtain ⟨P₀, hP₀⟩ : ∃ P : Blks, P = fun k => k = Bo ∨ k = Bn ∨ k = Bm := ⟨_, rfl⟩
  rw [← hP₀] at h0
  have pO : P₀ Bo := by rw [hP₀]; exact .inl rfl
  have pN : P₀ Bn := by rw [hP₀]; exact .inr (.inl rfl)
  have pM : P₀ Bm := by rw [hP₀]; exact .inr (.inr rfl)
  have p0 : ∀ k, P₀ k → k < W.heap.size := fun k hk => by
    rw [hP₀] at hk
    have h1 := ho.lt; have h2 := hbn.lt; have h3 := hbm.lt; have h4 := hgW.sz
    rcases hk with rfl | rfl | rfl <;> omega
  have HY := Lib.hid hY
  have HJ := Lib.hid hJ
  have HJ0 := Lib.hid h0
  have HP0 := Lib.hid p0
  have HPP := Lib.hid (And.intro pO (And.intro pN pM))
  have HBO := Lib.hid (ho.grew hgW)
  have HBN := Lib.hid (hbn.grew hgW)
  have HBM := Lib.hid (hbm.grew hgW)
  have HWW := Lib.hid hgW
  have c0 := HBO.out.cell 0
  have c1 := HBN.out.cell 0
  have l0 := HBO.out.lt
  have l1 := HBN.out.lt
  simp only [List.getElem?_cons_zero] at c0 c1
  clear ho hbn hbm hgW hY hJ hJx h0 hP₀ pO pN pM p0
  refine callsIn_of_wp Tryd.func57 rfl trivial ?_ rfl
  simp only [Tryd.ntmps57, List.size_toArray, List.length_cons, List.length_nil, Nat.reduceAdd, Nat.reduceSub, Array.replicate_succ, Array.replicate_zero, List.push_toArray, List.append_toArray, List.nil_append, List.cons_append]
  gi_wp2_with (refine ⟨trivial, (fun h => absurd h (by decide)), ?_⟩; gi_at_call 58; generalize hV : World.alloc _ _ = V; have hB : Rw 2 itc V (some ⟨W.heap.size, 0, none⟩) 1 [(0, d)] := (by subst hV; exact Rw.made encI W [(0, d)] 1 _ _ _ rfl rfl (by decide)); have hg : Grew W V := (by subst hV; exact (Grew.refl _).alloc _); clear hV; refine (callsIn_wide.2 (repeat_any _ 1 (0, d) n (by omega) V hB (fun a ha => ⟨_, _, (Option.some.inj ha).symm⟩))).mono ?_; rintro e w1 ⟨g, rfl, ho, g1, hgs⟩; have HO1 := Lib.hid ho; have HG1 := Lib.hid (hg.trans g1); have HGS := Lib.hid (Nat.le_trans hg.sz hgs); have HGV := Lib.hid hg.sz; clear ho g1 hgs hg hB)
  obtain ⟨JL, hJL⟩ : ∃ JL : Nat → Act → World → Prop, JL = fun k a' w' => ∃ (b : Bool) (cur : List It) (pre : List Sl) (P1 : Blks) (u7 u8 u9 u10 u11 u12 u13 u14 u15 u16 u17 u18 u19 u20 : Value), k = (if b = true then (m + 1) ^ n - pre.length + 1 else 0) ∧ (J P1 pre w' ∧ (∀ k, P₀ k → P1 k) ∧ P1 g) ∧ (Blk Bo [.int .i64 d] 2 w' ∧ Blk Bn [.int .i64 (n : Int)] 3 w' ∧ Blk Bm [.int .i64 (m : Int)] 3 w') ∧ OwR w' W.heap.size 52 2 itc (.slice (some ⟨g, 0, none⟩) n n) cur ∧ Ord m d n pre ∧ (b = true → Good m d cur ∧ cur.length = n ∧ val m cur = pre.length ∧ pre.length < (m + 1) ^ n) ∧ (b = false → pre.length = (m + 1) ^ n) ∧ W.heap.size ≤ w'.heap.size ∧ a' = { tmps := #[.func (.yield l) #[] #[], .pointer (some ⟨Bo, 0, none⟩), .pointer (some ⟨Bn, 0, none⟩), .pointer (some ⟨Bm, 0, none⟩), undef, .slice (some ⟨g, 0, none⟩) n n, .bool b, u7, u8, u9, u10, u11, u12, u13, u14, u15, u16, u17, u18, u19, u20], defers := [] } := ⟨_, rfl⟩
  refine wpIn_loop_ghost JL ((m + 1) ^ n - ([] : List Sl).length + 1) ?start ?round
  case start =>
    rw [hJL]
    exact ⟨true, List.replicate n (0, d), [], fun k => P₀ k ∨ k = g, _, _, _, _, _, _, _, _, _, _, _, _, _, _, rfl, ⟨HJ.out.grew HJ0.out HG1.out (fun k hk hp => hp.elim id (fun e => by have := HGS.out; omega)), fun k hk => .inl hk, .inr rfl⟩, ⟨HBO.out.grew HG1.out, HBN.out.grew HG1.out, HBM.out.grew HG1.out⟩, HO1.out.down HGV.out, Ord.nil m d n, fun _ => ⟨good_rep m d n, by simp, val_rep m d n, pow_pos' m n⟩, (fun h => by cases h), HG1.out.sz, rfl⟩
  case round =>
    intro k a' wr hj
    rw [hJL] at hj
    obtain ⟨b, cur, pre, P1, u7, u8, u9, u10, u11, u12, u13, u14, u15, u16, u17, u18, u19, u20, hk, ⟨hjj, hpp, hpg⟩, ⟨hb1, hb2, hb3⟩, ho, hord, htt, hff, hws, rfl⟩ := hj
    have HO := Lib.hid ho
    have HORD := Lib.hid hord
    have HK := Lib.hid hk
    have HJJ := Lib.hid hjj
    have HWS := Lib.hid hws
    cases b with
    | false =>
      have HFF := Lib.hid (hff rfl)
      clear ho hord hk hjj hpp hpg hb1 hb2 hb3 htt hff c0 c1 l0 l1 hws
      gi_wp2
      go_end0
      exact ⟨⟨_, rfl⟩, .inl ⟨pre, P1, ⟨HFF.out, HORD.out⟩, HJJ.out⟩⟩
    | true =>
      obtain ⟨hgood, hlen, hval, hlt⟩ := htt rfl
      obtain ⟨P2, hP2⟩ : ∃ P2 : Blks, P2 = fun k => P1 k ∧ k < wr.heap.size := ⟨_, rfl⟩
      have q1 : ∀ k, P₀ k → P2 k := fun k hk => by rw [hP2]; exact ⟨hpp k hk, by have := HP0.out k hk; omega⟩
      have q2 : P2 g := by rw [hP2]; exact ⟨hpg, (ho.place encI _ rfl).2⟩
      have q3 : ∀ k, P2 k → P1 k ∧ k < wr.heap.size := fun k hk => by rw [hP2] at hk; exact hk
      have hne : Value.ownBlock (.slice (some ⟨g, 0, none⟩) n n) = some g := rfl
      have HCL := Lib.hid (clone_any (some ⟨g, 0, none⟩) n n cur wr (ho.rd encI).2 hlen (by omega) (fun a ha => ⟨_, _, (Option.some.inj ha).symm⟩))
      have HYY : Hid (∀ (p' : Option Addr) (c' : Nat) (w2 : World), OwR w2 wr.heap.size 52 2 itc (.slice p' n c') cur → Grew wr w2 → Yields Tryd.prog l #[.slice p' n c'] w2 fun e w3 =>
          (e = .returned (.bool true) ∧ Hid (J P2 (pre ++ [⟨p', c', cur⟩]) w3) ∧ Hid (Blk Bo [.int .i64 d] 2 w3 ∧ Blk Bn [.int .i64 (n : Int)] 3 w3 ∧ Blk Bm [.int .i64 (m : Int)] 3 w3) ∧ Hid (OwR w3 W.heap.size 52 2 itc (.slice (some ⟨g, 0, none⟩) n n) cur) ∧ w3.cell? ⟨Bm, 0, none⟩ = some (.int .i64 (m : Int)) ∧ Bm < w3.heap.size ∧ Hid (W.heap.size ≤ w3.heap.size)) ∨
          (e = .returned (.bool false) ∧ Hid (Jx P2 (pre ++ [⟨p', c', cur⟩]) w3))) := Lib.hid (fun p' c' w2 hO2 hG2 => by
        have hv : slEnc ⟨p', c', cur⟩ = #[.slice p' n c'] := by simp [slEnc, Sl.v, hlen]
        have hJ2 : J P2 pre w2 := HJ.out.grew hjj hG2 (fun k _ hk => (q3 k hk).1)
        have hF2 : Fresh w.heap.size P2 ⟨p', c', cur⟩ w2 := by
          refine ⟨?_, fun a ha hp => ?_⟩
          · show OwR w2 w.heap.size 52 2 itc (.slice p' cur.length c') cur
            rw [hlen]
            exact hO2.down (by have := HWW.out.sz; omega)
          · have h1 := (hO2.place encI a ha).1
            have h2 := (q3 _ hp).2
            omega
        have hy := HY.out P2 pre ⟨p', c', cur⟩ w2 hJ2 hF2 (fun k hk => Nat.lt_of_lt_of_le (q3 k hk).2 hG2.sz)
        rw [hv] at hy
        refine hy.mono ?_
        rintro e w3 (⟨rfl, h1, h2⟩ | ⟨rfl, h1, -⟩)
        · have k1 : Blk Bm [.int .i64 (m : Int)] 3 w3 := h2.heap (q1 _ HPP.out.2.2) (hb3.grew hG2)
          refine .inl ⟨rfl, h1, ⟨h2.heap (q1 _ HPP.out.1) (hb1.grew hG2), h2.heap (q1 _ HPP.out.2.1) (hb2.grew hG2), k1⟩, ?_, k1.cell 0, k1.lt, Lib.hid (by have := hG2.sz; have := h2.size; omega)⟩
          refine Lib.hid ((ho.kept hG2).keep fun a ha hl => ?_)
          obtain rfl := Option.some.inj ha
          exact h2.same _ hl q2
        · exact .inr ⟨rfl, h1⟩)
      have HADV := Lib.hid (fun (w3 : World) (h3 : OwR w3 W.heap.size 52 2 itc (.slice (some ⟨g, 0, none⟩) n n) cur) => advance_any W.heap.size n n (some ⟨g, 0, none⟩) cur m w3 h3 (by omega) (by omega) (fun x hx => by have := (hgood x hx).1; omega))
      have HNX := Lib.hid (fun (x : Sl) (ys : List It) (b4 : Bool) (ha : Adv m cur ys b4) (hl : ys.length = n) => adv_next (x := x) hgood hlen hval ha hl)
      have HVL := Lib.hid (And.intro hgood (And.intro hlen (And.intro hval hlt)))
      have HQ := Lib.hid (And.intro q1 q2)
      clear ho hord hk hjj hpp hpg hb1 hb2 hb3 htt hff c0 c1 l0 l1 hgood hlen hval hlt q1 q2 q3 hP2 hws hne
      gi_wp2_with (first
        | (refine ⟨trivial, (fun h => absurd h (by decide)), ?_⟩; gi_at_call 40; refine (callsIn_wide.2 (HCL.out)).mono ?_; rintro e w2 ⟨p', c', rfl, ho2, g2⟩; obtain ⟨fn, tm, asg, bd, hy, hR⟩ := HYY.out p' c' w2 ho2 g2; have HR := Lib.hid hR; have HO2 := Lib.hid ho2; clear ho2 hR)
        | (refine ⟨(fun h => absurd h (by decide)), ?_⟩; refine (HR.out _).mono ?_; rintro e w3 (⟨rfl, HJ3, HB3, HO3, c3, l3, HS3⟩ | ⟨rfl, HX3⟩))
        | (refine ⟨trivial, (fun h => absurd h (by decide)), ?_⟩; gi_at_call 59; refine (callsIn_wide.2 (HADV.out _ HO3.out)).mono ?_; rintro e w4 ⟨b4, ys, rfl, ha4, hl4, ho4, hc4⟩; have HA4 := Lib.hid ha4; have HL4 := Lib.hid hl4; have HO4 := Lib.hid ho4; have HC4 := Lib.hid hc4; clear ha4 hl4 ho4 hc4))
      · have HN := HNX.out ⟨p', c', cur⟩ ys b4 HA4.out HL4.out
        obtain ⟨e1, e2, e3, e4⟩ := HVL.out
        have hch : Chg w3 w4 (fun k => k = g) := HC4.out.mono (fun k hk => by
          have hk' : some g = some k := hk
          exact (Option.some.inj hk').symm)
        have hap : ∀ {S : Nat} {vs : List Value} {e : TypeId}, Blk S vs e w3 → 52 ≠ e → Blk S vs e w4 := fun {S} {vs} {e} hb hne => hb.chg HC4.out (HO3.out.apart hne hb)
        refine ⟨if b4 = true then (m + 1) ^ n - (pre ++ [(⟨p', c', cur⟩ : Sl)]).length + 1 else 0, ?_, ?_⟩
        · rw [HK.out]
          simp only [if_true, List.length_append, List.length_cons, List.length_nil]
          split <;> omega
        · rw [hJL]
          exact ⟨b4, ys, pre ++ [(⟨p', c', cur⟩ : Sl)], P2, _, _, _, _, _, _, _, _, _, _, _, _, _, _, rfl, ⟨HJ.out P2 P2 _ w3 w4 HJ3.out (hch.mono fun k hk => by rw [hk]; exact HQ.out.2) (fun _ _ h => h), HQ.out.1, HQ.out.2⟩, ⟨hap HB3.out.1 (by decide), hap HB3.out.2.1 (by decide), hap HB3.out.2.2 (by decide)⟩, HO4.out, HORD.out.snoc e1 e2 e3, HN.1, HN.2, by have := HS3.out; have := hch.size; omega, rfl⟩
      · obtain ⟨e1, e2, e3, e4⟩ := HVL.out
        refine bodyPost_ret (results_none rfl _ _ _) rfl ?_
        refine ⟨⟨_, rfl⟩, .inr ⟨pre ++ [(⟨p', c', cur⟩ : Sl)], P2, ⟨?_, HORD.out.snoc e1 e2 e3⟩, HX3.out⟩⟩
        simp only [List.length_append, List.length_cons, List.length_nil]
        omega
end Go.Proofs.YtapgpdgbdmnkgaaDoor
