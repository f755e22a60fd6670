/-
  CONTRACTS OF LAYER 13 (powertrace): All's iterator.
-/
import Derived.Test.YtapgpdgbdmnkgaaDoorPtOf
import Derived.RangeFuncCalls
import Derived.RangeFuncBound
import Derived.Shelf.Abstract
import Derived.Shelf.AbstractIn
import Derived.OwnWalkIn
import Derived.TacticsInMore
import Derived.LoopIn
namespace Go.Proofs.YtapgpdgbdmnkgaaDoor
open Go Go.RowKit Go.IntWalk Go.Shelf
open Go.Lib (itoa)
set_option linter.unusedSimpArgs false
set_option linter.unusedVariables false
set_option maxRecDepth 8000

attribute [local go_sem] Oper.semAt_some
/-- Schedules of all lengths in their order. -/
def OrdA (m : Nat) (d : Int) (L : List Sl) : Prop := ∀ j x, L[j]? = some x → Good m d x.xs ∧ idx m x.xs = j
theorem OrdA.nil (m : Nat) (d : Int) : OrdA m d [] := fun j x h => by simp at h
theorem OrdA.append {m : Nat} {d : Int} {n : Nat} {L K : List Sl} (h : OrdA m d L) (k : Ord m d n K) (hl : L.length = geo m n) : OrdA m d (L ++ K) := fun j x hx => by
  rcases Nat.lt_or_ge j L.length with hj | hj
  · rw [List.getElem?_append_left hj] at hx
    exact h j x hx
  · rw [List.getElem?_append_right hj] at hx
    obtain ⟨h1, h2, h3⟩ := k _ x hx
    exact ⟨h1, by unfold idx; rw [h2, h3]; omega⟩
theorem geo_step {m n a b : Nat} (ha : a = geo m n) (hb : b = (m + 1) ^ n) : a + b = geo m (n + 1) := by rw [ha, hb]; rfl
theorem geo_part {m n a b f : Nat} (ha : a = geo m n) (hb : b ≤ (m + 1) ^ n) (hf : n + 1 ≤ f) : a + b ≤ geo m f := by
  have h1 : geo m (n + 1) = geo m n + (m + 1) ^ n := rfl
  have h2 := geo_mono m hf
  omega
set_option maxRecDepth 100000 in
set_option maxHeartbeats 4000000 in
theorem all1_bad (Bm Bo Bf : Nat) (m f d : Int) (w : World) (hm : Blk Bm [.int .i64 m] 3 w) (ho : Blk Bo [.int .i64 d] 2 w) (hf : Blk Bf [.int .i64 f] 3 w) (hok : okP (m, d) = false) :
    Gives Tryd.prog 50 #[.pointer (some ⟨Bm, 0, none⟩), .pointer (some ⟨Bo, 0, none⟩), .pointer (some ⟨Bf, 0, none⟩)] slEnc (Fresh w.heap.size) (fun k => k = Bm ∨ k = Bo ∨ k = Bf) (fun xs => xs = []) (fun _ => False) w := by
  intro nn l J Jx W hgW hJ hJx hY h0
  have HJ := Lib.hid (fun (W' : World) (hg : Grew W W') => hJ.grew h0 hg (fun _ _ h => h))
  have HV := Lib.hid (fun W => vperiod_any (m, d) W)
  rw [hok] at HV
  have hb1 := hm.grew hgW
  have hb2 := ho.grew hgW
  have c0 := hb1.cell 0
  have c1 := hb2.cell 0
  have l0 := hb1.lt
  have l1 := hb2.lt
  simp only [List.getElem?_cons_zero] at c0 c1
  clear hm ho hf hgW hJ hJx hY h0 hok hb1 hb2
  refine callsIn_of_wp_marks Tryd.func50 rfl trivial ?_ rfl
  simp only [Tryd.ntmps50, List.size_toArray, List.length_cons, List.length_nil, Nat.reduceAdd, Nat.reduceSub, Array.replicate_succ, Array.replicate_zero, List.push_toArray, List.append_toArray, List.nil_append, List.cons_append]
  gi_wp2_with (refine ⟨trivial, (fun h => absurd h (by decide)), ?_⟩; gi_at_call 34; generalize hV : World.alloc _ _ = V; have hg : Grew W V := (by subst hV; exact (Grew.refl _).alloc _); clear hV; refine (callsIn_wide.2 (HV.out _)).mono ?_; rintro e w1 ⟨rfl, g1⟩; have HG1 := Lib.hid (hg.trans g1); clear hg g1)
  exact ⟨_, results_none rfl _ _ _, ⟨_, rfl⟩, .inl ⟨[], _, rfl, HJ.out _ HG1.out⟩⟩
set_option maxRecDepth 100000 in
set_option maxHeartbeats 4000000 in
theorem all1_ok (Bm Bo Bf m : Nat) (f d : Int) (F : Nat) (w : World) (hm : Blk Bm [.int .i64 (m : Int)] 3 w) (ho : Blk Bo [.int .i64 d] 2 w) (hf : Blk Bf [.int .i64 f] 3 w) (hok : okP ((m : Int), d) = true) (hF : F = (f + 1).toNat) (hfb : f ≤ 1000) :
    Gives Tryd.prog 50 #[.pointer (some ⟨Bm, 0, none⟩), .pointer (some ⟨Bo, 0, none⟩), .pointer (some ⟨Bf, 0, none⟩)] slEnc (Fresh w.heap.size) (fun k => k = Bm ∨ k = Bo ∨ k = Bf) (fun xs => xs.length = geo m F ∧ OrdA m d xs) (fun xs => xs.length ≤ geo m F ∧ OrdA m d xs) w := by
  intro nn l J Jx W hgW hJ hJx hY h0
  obtain ⟨P₀, hP₀⟩ : ∃ P : Blks, P = fun k => k = Bm ∨ k = Bo ∨ k = Bf := ⟨_, rfl⟩
  rw [← hP₀] at h0
  have pM : P₀ Bm := by rw [hP₀]; exact .inl rfl
  have pO : P₀ Bo := by rw [hP₀]; exact .inr (.inl rfl)
  have pF : P₀ Bf := by rw [hP₀]; exact .inr (.inr rfl)
  have p0 : ∀ k, P₀ k → k < W.heap.size := fun k hk => by
    rw [hP₀] at hk
    have h1 := hm.lt; have h2 := ho.lt; have h3 := hf.lt; have h4 := hgW.sz
    rcases hk with rfl | rfl | rfl <;> omega
  have HY := Lib.hid hY
  have HJ := Lib.hid hJ
  have HJX := Lib.hid hJx
  have HJ0 := Lib.hid h0
  have HP0 := Lib.hid p0
  have HPP := Lib.hid (And.intro pM (And.intro pO pF))
  have HBM := Lib.hid (hm.grew hgW)
  have HBO := Lib.hid (ho.grew hgW)
  have HBF := Lib.hid (hf.grew hgW)
  have HWW := Lib.hid hgW
  have HV := Lib.hid (fun W => vperiod_any ((m : Int), d) W)
  rw [hok] at HV
  have HMB := Lib.hid (show m ≤ 1073741824 by have := (okP_bd hok).1.2; omega)
  have c0 := HBM.out.cell 0
  have c1 := HBO.out.cell 0
  have l0 := HBM.out.lt
  have l1 := HBO.out.lt
  simp only [List.getElem?_cons_zero] at c0 c1
  clear hm ho hf hgW hY hJ hJx h0 hP₀ pO pM pF p0 hok
  refine callsIn_of_wp_marks Tryd.func50 rfl trivial ?_ rfl
  simp only [Tryd.ntmps50, List.size_toArray, List.length_cons, List.length_nil, Nat.reduceAdd, Nat.reduceSub, Array.replicate_succ, Array.replicate_zero, List.push_toArray, List.append_toArray, List.nil_append, List.cons_append]
  gi_wp2_with (refine ⟨trivial, (fun h => absurd h (by decide)), ?_⟩; gi_at_call 34; generalize hV : World.alloc _ _ = V; have hB : Blk W.heap.size [.func (.yield l) #[] #[]] 26 V := (by subst hV; exact Blk.new W _ _); have hg : Grew W V := (by subst hV; exact (Grew.refl _).alloc _); clear hV; refine (callsIn_wide.2 (HV.out _)).mono ?_; rintro e w1 ⟨rfl, g1⟩; have HB4 := Lib.hid (hB.grew g1); have HG1 := Lib.hid (hg.trans g1); clear hg g1 hB)
  obtain ⟨B4, hB4⟩ : ∃ B, B = W.heap.size := ⟨_, rfl⟩
  rw [← hB4] at HB4 ⊢
  have HB4W := Lib.hid hB4
  clear hB4 c0 c1 l0 l1
  obtain ⟨JL, hJL⟩ : ∃ JL : Nat → Act → World → Prop, JL = fun k a' w' => ∃ (k9 : Nat) (Ds : List Nat) (pre : List Sl) (P1 : Blks) (u6 u7 u8 u9 u10 u11 u12 u13 u14 u15 u16 u17 u18 u19 u20 u21 u22 u23 u24 u25 : Value), k = F - k9 ∧ k9 ≤ F ∧ (J P1 pre w' ∧ (∀ k, P₀ k → P1 k) ∧ P1 B4 ∧ ∀ D, D ∈ Ds → P1 D) ∧ (Blk Bm [.int .i64 (m : Int)] 3 w' ∧ Blk Bo [.int .i64 d] 2 w' ∧ Blk Bf [.int .i64 f] 3 w' ∧ Blk B4 [.func (.yield l) #[] #[]] 26 w') ∧ (Ds.Nodup ∧ ∀ D, D ∈ Ds → w'.heap[D]? = some (.deferred (some []))) ∧ (pre.length = geo m k9 ∧ OrdA m d pre) ∧ W.heap.size ≤ w'.heap.size ∧ a' = { tmps := #[.func (.yield l) #[] #[], .pointer (some ⟨Bm, 0, none⟩), .pointer (some ⟨Bo, 0, none⟩), .pointer (some ⟨Bf, 0, none⟩), .pointer (some ⟨B4, 0, none⟩), .int .i64 (k9 : Int), u6, u7, u8, u9, u10, u11, u12, u13, u14, u15, u16, u17, u18, u19, u20, u21, u22, u23, u24, u25], defers := marks Ds } := ⟨_, rfl⟩
  refine wpIn_loop_ghost JL (F - 0) ?start ?round
  case start =>
    rw [hJL]
    exact ⟨0, [], [], fun k => P₀ k ∨ k = B4, _, _, _, _, _, _, _, _, _, _, _, _, _, _, _, _, _, _, _, _, rfl, Nat.zero_le _, ⟨HJ.out.grew HJ0.out HG1.out (fun k hk hp => hp.elim id (fun e => by have := HB4W.out; omega)), fun k hk => .inl hk, .inr rfl, fun D hD => by cases hD⟩, ⟨HBM.out.grew HG1.out, HBO.out.grew HG1.out, HBF.out.grew HG1.out, HB4.out⟩, ⟨List.nodup_nil, fun D hD => by cases hD⟩, ⟨rfl, OrdA.nil m d⟩, HG1.out.sz, rfl⟩
  case round =>
    intro k a' wr hj
    rw [hJL] at hj
    obtain ⟨k9, Ds, pre, P1, u6, u7, u8, u9, u10, u11, u12, u13, u14, u15, u16, u17, u18, u19, u20, u21, u22, u23, u24, u25, hk, hkF, ⟨hjj, hpp, hp4, hpD⟩, ⟨hbm, hbo, hbf, hb4⟩, ⟨hnd, hdd⟩, ⟨hlen, hord⟩, hws, rfl⟩ := hj
    have c1 := hbm.cell 0
    have c2 := hbo.cell 0
    have c3 := hbf.cell 0
    have c4 := hb4.cell 0
    have l1 := hbm.lt
    have l2 := hbo.lt
    have l3 := hbf.lt
    have l4 := hb4.lt
    simp only [List.getElem?_cons_zero] at c1 c2 c3 c4
    have HK := Lib.hid hk
    have HJJ := Lib.hid hjj
    have HWS := Lib.hid hws
    have HBS := Lib.hid (And.intro hbm (And.intro hbo (And.intro hbf hb4)))
    have HPS := Lib.hid (And.intro hpp (And.intro hp4 hpD))
    have HND := Lib.hid (And.intro hnd hdd)
    have HLO := Lib.hid (And.intro hlen hord)
    have HFD := Lib.hid hF
    clear hk hjj hws hbm hbo hbf hb4 hpp hp4 hpD hnd hdd hlen hord hF
    by_cases hlt : (k9 : Int) ≤ f
    · have HK1 : Hid (k9 + 1 ≤ F) := Lib.hid (by have := HFD.out; omega)
      have HOF := Lib.hid (fun W => of_any (k9 : Int) (m : Int) d W)
      have hk9 : k9 ≤ 1000 := by omega
      gi_wp2_with (refine ⟨trivial, (fun h => absurd h (by decide)), ?_⟩; gi_at_call 51; refine (callsIn_wide.2 (HOF.out _)).mono ?_; rintro e w2 ⟨B0, B1, B2, rfl, hbs, s0, s1, s2, g2⟩; have HB3 := Lib.hid hbs; have HSZ := Lib.hid (And.intro s0 (And.intro s1 s2)); have HG2 := Lib.hid g2; clear hbs s0 s1 s2 g2)
      obtain ⟨X, hX⟩ : ∃ X : Blks, X = fun k => P1 k ∧ k < wr.heap.size := ⟨_, rfl⟩
      have hXs : ∀ k, X k → P1 k ∧ k < wr.heap.size := fun k hk => by rw [hX] at hk; exact hk
      have hXi : ∀ k, P1 k → k < wr.heap.size → X k := fun k h1 h2 => by rw [hX]; exact ⟨h1, h2⟩
      have hg2 := HG2.out.sz
      have hsz := HSZ.out
      have bm := HBS.out.1.grew HG2.out
      have bo := HBS.out.2.1.grew HG2.out
      have bf := HBS.out.2.2.1.grew HG2.out
      have b4 := HBS.out.2.2.2.grew HG2.out
      have xB4 : X B4 := hXi _ HPS.out.2.1 l4
      obtain ⟨I, hI⟩ : ∃ I : Blks → List Sl → World → Prop, I = fun P xs w' => J (fun k => P k ∨ X k) (pre ++ xs) w' ∧ (∀ k, X k → ¬ P k) ∧ Kept X w2 w' := ⟨_, rfl⟩
      obtain ⟨Ix, hIx⟩ : ∃ Ix : Code → Blks → List Sl → World → Prop, Ix = fun c P xs w' => c = .ret ∧ Jx (fun k => P k ∨ X k) (pre ++ xs) w' ∧ (∀ k, X k → ¬ P k) ∧ Kept X w2 w' := ⟨_, rfl⟩
      have key : ∀ {K : Blks → List Sl → World → Prop} (hK : Abides K) (Q Q' : Blks) (s : List Sl) (A B : World), (K (fun k => Q k ∨ X k) (pre ++ s) A ∧ (∀ k, X k → ¬ Q k) ∧ Kept X w2 A) → Chg A B Q → (∀ k, k < A.heap.size → Q' k → Q k) → (K (fun k => Q' k ∨ X k) (pre ++ s) B ∧ (∀ k, X k → ¬ Q' k) ∧ Kept X w2 B) := by
        rintro K hK Q Q' s A B ⟨h1, h2, h3⟩ hc hp
        exact ⟨hK _ _ _ A B h1 (hc.mono fun k h => .inl h) (fun k hk h => h.imp (hp k hk) id), fun k hk h => h2 k hk (hp k (Nat.lt_of_lt_of_le (hXs k hk).2 (Nat.le_trans hg2 h3.size)) h), h3.trans (Kept.of_chg hc h2)⟩
      refine wpIn_each (gf := 57) (lb := #[.pointer (some ⟨B2, 0, none⟩), .pointer (some ⟨B0, 0, none⟩), .pointer (some ⟨B1, 0, none⟩)]) rfl (enters_of Tryd.func57 (by kernel_rfl) rfl) (encs := slEnc) (fun _ => rfl) (Fr := Fresh w2.heap.size) (fun P1 x W L D r d o h1 h2 h3 => h1.put h2 h3) (of1_gives B2 B0 B1 k9 m d w2 hk9 HMB.out HB3.out.2.2 HB3.out.1 HB3.out.2.1) (fun k hk => ?_) I Ix (fun Q Q' s A B h hc hp => ?_) (fun c Q Q' s A B h hc hp => ?_) ?_ (fun x => { tmps := #[.func (.yield l) #[] #[], .pointer (some ⟨Bm, 0, none⟩), .pointer (some ⟨Bo, 0, none⟩), .pointer (some ⟨Bf, 0, none⟩), .pointer (some ⟨B4, 0, none⟩), .int .i64 (k9 : Int), x.v, u7, u8, u9, u10, u11, .int .i64 (k9 : Int), .int .i64 f, .bool true, u15, u16, .int .i64 (k9 : Int), .int .i64 (m : Int), .int .i64 d, .func (.func 57) #[] #[.pointer (some ⟨B2, 0, none⟩), .pointer (some ⟨B0, 0, none⟩), .pointer (some ⟨B1, 0, none⟩)], x.v, u22, u23, u24, u25], defers := [] }) ?assign ?body ?done ?stop
      · have h1 := HB3.out.1.lt; have h2 := HB3.out.2.1.lt; have h3 := HB3.out.2.2.lt
        rcases hk with rfl | rfl | rfl <;> omega
      · rw [hI] at h ⊢
        exact key HJ.out Q Q' s A B h hc hp
      · rw [hIx] at h ⊢
        exact ⟨h.1, key HJX.out Q Q' s A B h.2 hc hp⟩
      · rw [hI]
        refine ⟨?_, fun k hk h => ?_, Kept.refl _ _⟩
        · rw [List.append_nil]
          exact HJ.out.grew HJJ.out HG2.out (fun k hk h => by
            rcases h with h | h
            · rcases h with h | h | h <;> omega
            · exact (hXs k h).1)
        · have h1 := (hXs k hk).2
          rcases h with h | h | h <;> omega
      case assign =>
        intro l' m' x W' K hK
        gi_wp2
        exact hK
      case body =>
        intro l' m' P pre' x W' hi hfr hbd
        rw [hI] at hi
        obtain ⟨hj, hdis, hkp⟩ := hi
        have b4' : Blk B4 [.func (.yield l) #[] #[]] 26 W' := hkp.heap xB4 b4
        have y := HY.out (fun k => P k ∨ X k) (pre ++ pre') x W' hj ⟨hfr.1.down (by have := HWW.out.sz; have := HWS.out; omega), fun a ha h => by
          rcases h with h | h
          · exact hfr.2 a ha h
          · have h1 := (hfr.1.place encI a ha).1
            have h2 := (hXs _ h).2
            omega⟩ (fun k h => by
          rcases h with h | h
          · exact hbd k h
          · have h1 := (hXs _ h).2
            have h2 := hkp.size
            omega)
        have y2 : Yields Tryd.prog l (slEnc x) W' fun e w3 => (e = .returned (.bool true) ∧ Hid (Kept P W' w3 ∧ I P (pre' ++ [x]) w3)) ∨ (e = .returned (.bool false) ∧ Hid (Kept P W' w3 ∧ Ix .ret P (pre' ++ [x]) w3)) := y.mono fun e w3 h => by
          rcases h with ⟨h1, h2, h3⟩ | ⟨h1, h2, h3⟩
          · refine .inl ⟨h1, h3.sub (fun k hk => .inl hk), ?_⟩
            rw [hI]
            exact ⟨by rw [← List.append_assoc]; exact h2, hdis, hkp.trans (h3.sub fun k hk => .inr hk)⟩
          · refine .inr ⟨h1, h3.sub (fun k hk => .inl hk), ?_⟩
            rw [hIx]
            exact ⟨rfl, by rw [← List.append_assoc]; exact h2, hdis, hkp.trans (h3.sub fun k hk => .inr hk)⟩
        obtain ⟨fn, tm, asg, bd, hy, hR⟩ := y2
        have HR := Lib.hid hR
        have c4' := b4'.cell 0
        have l4' := b4'.lt
        simp only [List.getElem?_cons_zero] at c4'
        clear hR hj hdis hkp b4' y hfr hbd
        gi_wp2_with (refine ⟨(fun h => absurd h (by decide)), ?_⟩; refine (round_wide (HR.out _)).mono ?_; rintro e w3 (⟨rfl, h3⟩ | ⟨rfl, h3⟩))
        · exact h3.out
        · exact h3.out
      case done =>
        intro D P xs W' hD hPD hS hi hdD
        rw [hI] at hi
        obtain ⟨hj, hdis, hkp⟩ := hi
        have HH := Lib.hid (And.intro hj (And.intro hdis hkp))
        have HS := Lib.hid hS
        have HDD := Lib.hid hdD
        have HX1 := Lib.hid (fun k (h : X k) => hXs k h)
        have HX2 := Lib.hid (fun k (h1 : P1 k) h2 => hXi k h1 h2)
        clear hj hdis hkp hS hdD hXs hXi key hI hIx hX
        gi_wp2
        refine ⟨F - (k9 + 1), by rw [HK.out]; have := HK1.out; omega, ?_⟩
        rw [hJL]
        have x1 : ∀ {S : Nat} {vs : List Value} {e : TypeId}, P1 S → Blk S vs e wr → Blk S vs e W' := fun h1 h2 => HH.out.2.2.heap (HX2.out _ h1 h2.lt) (h2.grew HG2.out)
        have hdl : ∀ D', D' ∈ Ds → D' < wr.heap.size := fun D' h => lt_of_heap (HND.out.2 D' h)
        refine ⟨k9 + 1, D :: Ds, pre ++ xs, fun k => P k ∨ X k, _, _, _, _, _, _, _, _, _, _, _, _, _, _, _, _, _, _, _, _, rfl, HK1.out, ⟨HH.out.1, fun k hk => .inr (HX2.out k (HPS.out.1 k hk) (by have := HP0.out k hk; have := HWS.out; omega)), .inr (HX2.out _ HPS.out.2.1 l4), fun D' hD' => ?_⟩, ⟨x1 (HPS.out.1 _ HPP.out.1) HBS.out.1, x1 (HPS.out.1 _ HPP.out.2.1) HBS.out.2.1, x1 (HPS.out.1 _ HPP.out.2.2) HBS.out.2.2.1, x1 HPS.out.2.1 HBS.out.2.2.2⟩, ⟨List.nodup_cons.2 ⟨fun h => by have := hdl D h; omega, HND.out.1⟩, fun D' hD' => ?_⟩, ⟨by rw [List.length_append]; exact geo_step HLO.out.1 HS.out.1, HLO.out.2.append HS.out.2 HLO.out.1⟩, by have := HWS.out; have := HH.out.2.2.size; omega, rfl⟩
        · rcases List.mem_cons.1 hD' with rfl | h
          · exact .inl hPD
          · exact .inr (HX2.out _ (HPS.out.2.2 D' h) (hdl D' h))
        · rcases List.mem_cons.1 hD' with rfl | h
          · exact HDD.out
          · exact HH.out.2.2.heap (HX2.out _ (HPS.out.2.2 D' h) (hdl D' h)) (HG2.out.heap (HND.out.2 D' h))
      case stop =>
        intro D c P xs W' hD hPD hS hi hdD
        rw [hIx] at hi
        obtain ⟨rfl, hj, hdis, hkp⟩ := hi
        have HH := Lib.hid (And.intro hj (And.intro hdis hkp))
        have HS := Lib.hid hS
        have HDD := Lib.hid hdD
        have HX2 := Lib.hid (fun k (h1 : P1 k) h2 => hXi k h1 h2)
        have hdl : ∀ D', D' ∈ Ds → D' < wr.heap.size := fun D' h => lt_of_heap (HND.out.2 D' h)
        have HDL := Lib.hid hdl
        clear hj hdis hkp hS hdD hXs hXi key hI hIx hX hdl
        gi_wp2
        refine leaves_marks (D :: Ds) W' (List.nodup_cons.2 ⟨fun h => by have := HDL.out D h; omega, HND.out.1⟩) (fun D' hD' => ?_) (fun w' hc => ⟨_, results_none rfl _ _ _, ⟨_, rfl⟩, .inr ⟨pre ++ xs, fun k => P k ∨ X k, ⟨by rw [List.length_append]; exact geo_part HLO.out.1 HS.out.1 HK1.out, HLO.out.2.append HS.out.2 HLO.out.1⟩, HJX.out _ _ _ W' w' HH.out.1 (hc.mono fun k hk => ?_) (fun _ _ h => h)⟩⟩)
        · rcases List.mem_cons.1 hD' with rfl | h
          · exact HDD.out
          · exact HH.out.2.2.heap (HX2.out _ (HPS.out.2.2 D' h) (HDL.out D' h)) (HG2.out.heap (HND.out.2 D' h))
        · rcases List.mem_cons.1 hk with rfl | h
          · exact .inl hPD
          · exact .inr (HX2.out _ (HPS.out.2.2 k h) (HDL.out k h))
    · have HK1 : Hid (k9 = F) := Lib.hid (by have := HFD.out; omega)
      gi_wp2
      refine leaves_marks Ds wr HND.out.1 HND.out.2 (fun w' hc => ⟨_, results_none rfl _ _ _, ⟨_, rfl⟩, .inl ⟨pre, ⟨by rw [HLO.out.1, HK1.out], HLO.out.2⟩, P1, HJ.out P1 P1 _ wr w' HJJ.out (hc.mono fun k hk => HPS.out.2.2 k hk) (fun _ _ h => h)⟩⟩)
end Go.Proofs.YtapgpdgbdmnkgaaDoor
