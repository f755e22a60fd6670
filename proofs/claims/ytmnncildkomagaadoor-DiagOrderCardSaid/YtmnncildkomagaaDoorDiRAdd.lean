/-
  CONTRACTS OF LAYER 14 (diag): the reference's ordered list; Same; Great.
-/
import Derived.Test.YtmnncildkomagaaDoorDiCmp
namespace Go.Proofs.YtmnncildkomagaaDoor
open Go Go.RowKit Go.IntWalk Go.Sort
set_option linter.unusedSimpArgs false
set_option linter.unusedVariables false
set_option maxRecDepth 8000

theorem equal_D (x y : It) (d : Nat) (W : World) : (Op.equalIn (d + 2) 37 (itv x) (itv y)).run Tryd.prog W = .ok (decide (x = y)) W := by
  have hp : Tryd.prog.stoodInHeld 37 = false := by kernel_rfl
  go_simp
  by_cases h1 : x.1 = y.1
  · by_cases h2 : x.2 = y.2
    · rw [if_pos h1, if_pos h2, decide_eq_true (Prod.ext h1 h2)]
    · rw [if_pos h1, if_neg h2, decide_eq_false (fun e => h2 (by rw [e]))]
  · rw [if_neg h1, decide_eq_false (fun e => h1 (by rw [e]))]
theorem before_any (x y : It) (w : World) : Calls Tryd.prog 33 #[itv x, itv y] w fun e w' => e = .returned (.bool (bef x y)) ∧ Grew w w' := by
  have hx := str_list x.2
  have hy := str_list y.2
  have HG : Hid (Grew w ((w.alloc (.cells #[.int .i64 x.1, .string ⟨x.2.toArray⟩] 37)).alloc (.cells #[.int .i64 y.1, .string ⟨y.2.toArray⟩] 37))) := Lib.hid (((Grew.refl w).alloc _).alloc _)
  rcases Int.lt_trichotomy x.1 y.1 with h | h | h
  · have HV := Lib.hid (show bef x y = true from bef_iff.2 (.inl h))
    go_enter Tryd.func33, Tryd.ntmps33
    go_wp2
    go_ret
    exact ⟨ret_bool HV.out.symm, by first | exact HG.out | (have h9 := HG.out; rw [h] at h9; exact h9)⟩
  · have h1 : ¬ x.1 < y.1 := by omega
    by_cases g : x.2 < y.2
    · have HV := Lib.hid (show bef x y = true from bef_iff.2 (.inr ⟨h, g⟩))
      have g1 := less_yes g
      clear g
      go_enter Tryd.func33, Tryd.ntmps33
      go_wp2
      go_ret
      exact ⟨ret_bool HV.out.symm, by first | exact HG.out | (have h9 := HG.out; rw [h] at h9; exact h9)⟩
    · have HV := Lib.hid (show bef x y = false by
        rw [Bool.eq_false_iff]
        intro e
        rcases bef_iff.1 e with e | e
        · omega
        · exact g e.2)
      have g1 := less_no g
      clear g
      go_enter Tryd.func33, Tryd.ntmps33
      go_wp2
      go_ret
      exact ⟨ret_bool HV.out.symm, by first | exact HG.out | (have h9 := HG.out; rw [h] at h9; exact h9)⟩
  · have h1 : ¬ x.1 < y.1 := by omega
    have h2 : ¬ x.1 = y.1 := by omega
    have HV := Lib.hid (show bef x y = false by
      rw [Bool.eq_false_iff]
      intro e
      rcases bef_iff.1 e with e | e
      · omega
      · omega)
    go_enter Tryd.func33, Tryd.ntmps33
    go_wp2
    go_ret
    exact ⟨ret_bool HV.out.symm, by first | exact HG.out | (have h9 := HG.out; rw [h] at h9; exact h9)⟩
theorem made1 (w : World) (S : Nat) (x : It) (e : TypeId) (cs : Array Value) (fr : Nat × Nat) (hS : w.heap.size = S) (hc : cs = (flatL itc [x]).toArray) : Rw 2 itc (w.alloc (.cells cs e fr)) (some ⟨S, 0, none⟩) 1 [x] := by
  subst hS
  exact Rw.made encI w [x] 1 e cs fr hc rfl (by omega)
theorem rowlt {w : World} {base : Nat} {p : Option Addr} {n c : Nat} {xs : List It} {S : Nat} (h : OwR w base 37 2 itc (.slice p n c) xs) (hs : Value.ownBlock (.slice p n c) = some S) : S < w.heap.size := by
  rw [ownBlock_sl] at hs
  cases p with
  | none => cases hs
  | some a =>
    have h1 := (h.place encI a rfl).2
    have h2 : a.block = S := Option.some.inj hs
    rwa [h2] at h1
/-- What the reference's Add has made. -/
def AddR (L : List It) (x : It) (w : World) (e : Ending) (w' : World) : Prop :=
  ∃ (p : Option Addr) (c : Nat), e = .returned (.slice p (addL L x).length c) ∧ Rw 2 itc w' p c (addL L x) ∧ Grew w w'
theorem ins_take {x : It} {L : List It} {k : Nat} (hk : k < L.length) {put : Bool} {out : List It} (ho : out = if put = true then ins x (L.take k) else L.take k) (hp : put = true ↔ ∃ z ∈ L.take k, bef x z = true) :
    (put = true → out ++ [L[k]] = ins x (L.take (k + 1)) ∧ (∃ z ∈ L.take (k + 1), bef x z = true)) ∧
    (put = false → bef x L[k] = true → out ++ [x] ++ [L[k]] = ins x (L.take (k + 1)) ∧ (∃ z ∈ L.take (k + 1), bef x z = true)) ∧
    (put = false → bef x L[k] = false → out ++ [L[k]] = L.take (k + 1) ∧ ¬ (∃ z ∈ L.take (k + 1), bef x z = true)) := by
  have e := List.take_succ_eq_append_getElem hk
  have hnone : put = false → ∀ z ∈ L.take k, bef x z = false := fun h z hz => by
    rw [Bool.eq_false_iff]
    intro hb
    have := hp.2 ⟨z, hz, hb⟩
    rw [h] at this
    exact Bool.noConfusion this
  refine ⟨fun h => ?_, fun h hb => ?_, fun h hb => ?_⟩
  · rw [if_pos h] at ho
    obtain ⟨z, hz, hb⟩ := hp.1 h
    exact ⟨by rw [e, ins_any _ ⟨z, hz, hb⟩, ho], z, by rw [e]; exact List.mem_append_left _ hz, hb⟩
  · rw [if_neg (by rw [h]; decide)] at ho
    refine ⟨by rw [e, ins_here (hnone h) hb, ho]; simp, L[k], by rw [e]; exact List.mem_append_right _ (List.mem_singleton.2 rfl), hb⟩
  · rw [if_neg (by rw [h]; decide)] at ho
    refine ⟨by rw [e, ho], ?_⟩
    rintro ⟨z, hz, hb'⟩
    rw [e] at hz
    rcases List.mem_append.1 hz with hz | hz
    · rw [hnone h z hz] at hb'
      exact Bool.noConfusion hb'
    · rw [List.mem_singleton.1 hz, hb] at hb'
      exact Bool.noConfusion hb'
set_option maxHeartbeats 8000000 in
theorem radd_any (p : Option Addr) (n c : Nat) (L : List It) (x : It) (w : World) (h : Rw 2 itc w p c L) (hn : L.length = n) (hl : n ≤ 1000) :
    Calls Tryd.prog 20 #[.slice p n c, itv x] w (AddR L x w) := by
  subst hn
  have HX := Lib.hid h
  have hcap := h.cap
  have hmax := h.max
  have HBF := Lib.hid (fun (y : It) (W : World) => before_any x y W)
  have hB0 : Blk w.heap.size (itc x) 37 (w.alloc (.cells #[.int .i64 x.1, .string ⟨x.2.toArray⟩] 37)) := Blk.new w (itc x) _
  have HG0 : Hid (Grew w (w.alloc (.cells #[.int .i64 x.1, .string ⟨x.2.toArray⟩] 37))) := Lib.hid ((Grew.refl w).alloc _)
  have HB0 := Lib.hid hB0
  clear h hB0
  go_enter Tryd.func20, Tryd.ntmps20
  go_wp2
  go_loopg [5, 6, 11] L.length (fun gg ov pv iv wr => ∃ (k : Nat) (put : Bool) (p1 : Option Addr) (n1 c1 : Nat) (out : List It), ov = .slice p1 n1 c1 ∧ pv = .bool put ∧ iv = .int .i64 (k : Int) ∧ k ≤ L.length ∧ gg = L.length - k ∧ n1 ≤ 2 * k ∧ Hid (out.length = n1) ∧ Hid (out = if put = true then ins x (L.take k) else L.take k) ∧ Hid (put = true ↔ ∃ z ∈ L.take k, bef x z = true) ∧ Hid (x ∉ L.take k) ∧ Hid (OwR wr (w.heap.size + 1) 37 2 itc (.slice p1 n1 c1) out) ∧ Hid (Grew w wr ∧ Blk w.heap.size (itc x) 37 wr))
  case atStart => exact ⟨0, false, none, 0, 0, [], rfl, rfl, rfl, Nat.zero_le _, rfl, Nat.zero_le _, Lib.hid rfl, Lib.hid rfl, Lib.hid (by simp), Lib.hid (by simp), Lib.hid (OwR.nil _ _ _ _ _), Lib.hid ⟨HG0.out, HB0.out⟩⟩
  case round =>
    obtain ⟨k, put, p1, n1, c1, out, rfl, rfl, rfl, hk, rfl, hn1, HN, HOUT, HPUT, HNX, HO, HGB⟩ := hrel
    have HSZ := Lib.hid HGB.out.2.lt
    by_cases hlt : k < L.length
    · obtain ⟨b', o', rfl, hcc⟩ := (HX.out.kept HGB.out.1).rd.cells (by omega)
      have hx : L[k]? = some L[k] := by simp [hlt]
      have hc1 := hcc k L[k] hx
      have hlb : b' < wr.heap.size := World.block_lt_of_cell? _ _ (hc1 0 _ rfl)
      have HLT := Lib.hid (Nat.succ_le_of_lt hlt)
      have HTK := Lib.hid (List.take_succ_eq_append_getElem hlt)
      have HIT := Lib.hid (ins_take hlt HOUT.out HPUT.out)
      have HMY := Lib.hid (List.getElem_mem hlt)
      generalize L[k] = y at hc1 hx HTK HIT HMY
      have e0 : wr.cell? ⟨b', o' + k * 2, none⟩ = some (.int .i64 y.1) := by simpa using hc1 0 _ rfl
      have e1 : wr.cell? ⟨b', o' + k * 2 + 1, none⟩ = some (.string ⟨y.2.toArray⟩) := hc1 1 _ rfl
      clear hcc hc1 hx
      have x0 := HGB.out.2.cell 0
      have x1 := HGB.out.2.cell 1
      have xl := HGB.out.2.lt
      simp only [List.getElem?_cons_zero, List.getElem?_cons_succ] at x0 x1
      by_cases hyx : y = x
      · subst hyx
        have HR : Hid (addL L y = L) := Lib.hid (if_pos HMY.out)
        go_wp2
        go_ret
        refine ⟨some ⟨b', o', none⟩, c, congrArg (fun m => Ending.returned (.slice (some ⟨b', o', none⟩) m c)) (by rw [HR.out]), by rw [HR.out]; exact HX.out.kept (HGB.out.1.alloc _), HGB.out.1.alloc _⟩
      · have HNX2 : Hid (x ∉ L.take (k + 1)) := Lib.hid (fun hm => by
          rw [HTK.out] at hm
          rcases List.mem_append.1 hm with hm | hm
          · exact HNX.out hm
          · exact hyx (List.mem_singleton.1 hm).symm)
        by_cases h1 : y.1 = x.1
        · have h2 : ¬ y.2 = x.2 := fun e => hyx (Prod.ext h1 e)
          clear hyx
          obtain ⟨y1, y2⟩ := y
          obtain rfl : y1 = x.1 := h1
          simp only at e0 e1 h2
          cases put with
          | true =>
            have hq := HIT.out.1 rfl
            have HQ := Lib.hid hq
            clear hq
            go_wp2_with (at_builtin; refine wpList_append_row encI rfl _ _ 31 rfl (w.heap.size + 1) 37 (itv (0, [])) 24 Tryd.underlying31 infoD rfl _ (out) rfl (HO.out.kept (((Grew.refl _).alloc _).alloc _)) _ _ _ [(x.1, y2)] rfl rfl (made1 _ _ _ _ _ _ (by simp) rfl) (by have := HN.out; simp; omega) (by have := HN.out; simp; omega) (by have := HSZ.out; simp; omega) ?_; intro p2 c2 zs2 w2 hz2 ho2 hb2 hc2; have HO2 := Lib.hid ho2; have HZ2 := Lib.hid hz2.out; have HB2 : Hid (Blk w.heap.size (itc x) 37 w2) := Lib.hid ((hb2.block w.heap.size (Nat.lt_succ_self _)).trans (HGB.out.2.grew (((Grew.refl _).alloc _).alloc _))); have HG2 : Hid (Grew w w2) := Lib.hid (Below.trans ((HGB.out.1.alloc _).alloc _) (hb2.mono (Nat.le_succ _))); clear ho2 hb2 hc2 hz2)
            obtain rfl := HZ2.out
            have hln : (out ++ [(x.1, y2)]).length = n1 + 1 := by rw [List.length_append, HN.out]; rfl
            go_roundg (L.length - (k + 1))
            case measure => have := HLT.out; omega
            case rel => exact ⟨k + 1, true, p2, n1 + 1, c2, out ++ [(x.1, y2)], by rw [hln], rfl, by go_num, HLT.out, rfl, by omega, Lib.hid hln, Lib.hid (by rw [if_pos rfl]; exact HQ.out.1), Lib.hid (⟨fun _ => HQ.out.2, fun _ => rfl⟩), HNX2, Lib.hid (by rw [← hln]; exact HO2.out), Lib.hid ⟨HG2.out, HB2.out⟩⟩
          | false =>
            cases hbf : bef x (x.1, y2) with
            | true =>
              have hq := HIT.out.2.1 rfl hbf
              have HQ := Lib.hid hq
              clear hq
              have tk := Lib.hid trivial
              go_wp2_with (first
                | (go_at_call 33; generalize hV : World.alloc _ _ = V; have hbY : Blk wr.heap.size (itc (x.1, y2)) 37 V := (by subst hV; exact Blk.new wr (itc (x.1, y2)) _); have hgV : Grew wr V := (by subst hV; exact (Grew.refl _).alloc _); clear hV; refine (HBF.out (x.1, y2) V).mono ?_; rintro e w3 ⟨rfl, g3⟩; have hg3 := hgV.trans g3; have hb3 := hbY.grew g3; have y0 := hb3.cell 0; have y1 := hb3.cell 1; have yl := hb3.lt; have hx3 := HGB.out.2.grew hg3; have x0 := hx3.cell 0; have x1 := hx3.cell 1; have xl := hx3.lt; simp only [List.getElem?_cons_zero, List.getElem?_cons_succ] at y0 y1 x0 x1; have HG3 := Lib.hid hg3; have HY3 := Lib.hid hb3; have HX3 := Lib.hid hx3; have HSZ3 := Lib.hid hg3.sz; clear g3 hgV hbY hg3 hb3 hx3)
                | (at_builtin; clear tk; refine wpList_append_row encI rfl _ _ 31 rfl (w.heap.size + 1) 37 (itv (0, [])) 24 Tryd.underlying31 infoD rfl _ (out) rfl (HO.out.kept (HG3.out.trans ((Grew.refl _).alloc _))) _ _ _ [x] rfl rfl (made1 _ _ _ _ _ _ (by simp) rfl) (by have := HN.out; simp; omega) (by have := HN.out; simp; omega) (by have := (And.intro HSZ.out HSZ3.out); simp; omega) ?_; intro p4 c4 zs4 w4 hz4 ho4 hb4 hc4; have HO4 := Lib.hid ho4; have HZ4 := Lib.hid hz4.out; have HB4 : Hid (Blk w.heap.size (itc x) 37 w4) := Lib.hid ((hb4.block w.heap.size (Nat.lt_succ_self _)).trans (HX3.out.grew ((Grew.refl _).alloc _))); have HG4 : Hid (Grew w w4) := Lib.hid (Below.trans (HGB.out.1.trans (HG3.out.trans ((Grew.refl _).alloc _))) (hb4.mono (Nat.le_succ _))); have HOX : Hid (OwR w4 (w.heap.size + 1) 37 2 itc (.slice p4 zs4.length c4) (out ++ [x])) := Lib.hid (by have h6 := ho4; rw [hz4.out] at h6 ⊢; exact h6); have hy4 : Blk wr.heap.size (itc (x.1, y2)) 37 w4 := (HY3.out.grew ((Grew.refl _).alloc _)).chg hc4 (fun hs => by have h5 := rowlt HO.out hs; omega); have y0 := hy4.cell 0; have y1 := hy4.cell 1; have yl := hy4.lt; simp only [List.getElem?_cons_zero, List.getElem?_cons_succ] at y0 y1; have HS4 := Lib.hid HB4.out.lt; clear hy4; clear ho4 hb4 hc4 hz4)
                | (at_builtin; refine wpList_append_row encI rfl _ _ 31 rfl (w.heap.size + 1) 37 (itv (0, [])) 24 Tryd.underlying31 infoD rfl _ (out ++ [x]) rfl (HOX.out.kept ((Grew.refl _).alloc _)) _ _ _ [(x.1, y2)] rfl rfl (made1 _ _ _ _ _ _ (by simp) rfl) (by have := HN.out; simp; omega) (by have := HN.out; simp; omega) (by have := HS4.out; simp; omega) ?_; intro p2 c2 zs2 w2 hz2 ho2 hb2 hc2; have HO2 := Lib.hid ho2; have HZ2 := Lib.hid hz2.out; have HB2 : Hid (Blk w.heap.size (itc x) 37 w2) := Lib.hid ((hb2.block w.heap.size (Nat.lt_succ_self _)).trans (HB4.out.grew ((Grew.refl _).alloc _))); have HG2 : Hid (Grew w w2) := Lib.hid (Below.trans (HG4.out.alloc _) (hb2.mono (Nat.le_succ _))); clear ho2 hb2 hc2 hz2))
              obtain rfl := HZ2.out
              have hln : (out ++ [x] ++ [(x.1, y2)]).length = n1 + 2 := by rw [List.length_append, List.length_append, HN.out]; rfl
              go_roundg (L.length - (k + 1))
              case measure => have := HLT.out; omega
              case rel => exact ⟨k + 1, true, p2, n1 + 2, c2, out ++ [x] ++ [(x.1, y2)], by rw [hln], rfl, by go_num, HLT.out, rfl, by omega, Lib.hid hln, Lib.hid (by rw [if_pos rfl]; exact HQ.out.1), Lib.hid (⟨fun _ => HQ.out.2, fun _ => rfl⟩), HNX2, Lib.hid (by rw [← hln]; exact HO2.out), Lib.hid ⟨HG2.out, HB2.out⟩⟩
            | false =>
              have hq := HIT.out.2.2 rfl hbf
              have HQ := Lib.hid hq
              clear hq
              go_wp2_with (first
                | (go_at_call 33; generalize hV : World.alloc _ _ = V; have hbY : Blk wr.heap.size (itc (x.1, y2)) 37 V := (by subst hV; exact Blk.new wr (itc (x.1, y2)) _); have hgV : Grew wr V := (by subst hV; exact (Grew.refl _).alloc _); clear hV; refine (HBF.out (x.1, y2) V).mono ?_; rintro e w3 ⟨rfl, g3⟩; have hg3 := hgV.trans g3; have hb3 := hbY.grew g3; have y0 := hb3.cell 0; have y1 := hb3.cell 1; have yl := hb3.lt; have hx3 := HGB.out.2.grew hg3; have x0 := hx3.cell 0; have x1 := hx3.cell 1; have xl := hx3.lt; simp only [List.getElem?_cons_zero, List.getElem?_cons_succ] at y0 y1 x0 x1; have HG3 := Lib.hid hg3; have HY3 := Lib.hid hb3; have HX3 := Lib.hid hx3; have HSZ3 := Lib.hid hg3.sz; clear g3 hgV hbY hg3 hb3 hx3)
                | (at_builtin; refine wpList_append_row encI rfl _ _ 31 rfl (w.heap.size + 1) 37 (itv (0, [])) 24 Tryd.underlying31 infoD rfl _ (out) rfl (HO.out.kept (HG3.out.trans ((Grew.refl _).alloc _))) _ _ _ [(x.1, y2)] rfl rfl (made1 _ _ _ _ _ _ (by simp) rfl) (by have := HN.out; simp; omega) (by have := HN.out; simp; omega) (by have := (And.intro HSZ.out HSZ3.out); simp; omega) ?_; intro p2 c2 zs2 w2 hz2 ho2 hb2 hc2; have HO2 := Lib.hid ho2; have HZ2 := Lib.hid hz2.out; have HB2 : Hid (Blk w.heap.size (itc x) 37 w2) := Lib.hid ((hb2.block w.heap.size (Nat.lt_succ_self _)).trans (HX3.out.grew ((Grew.refl _).alloc _))); have HG2 : Hid (Grew w w2) := Lib.hid (Below.trans (HGB.out.1.trans (HG3.out.trans ((Grew.refl _).alloc _))) (hb2.mono (Nat.le_succ _))); clear ho2 hb2 hc2 hz2))
              obtain rfl := HZ2.out
              have hln : (out ++ [(x.1, y2)]).length = n1 + 1 := by rw [List.length_append, HN.out]; rfl
              go_roundg (L.length - (k + 1))
              case measure => have := HLT.out; omega
              case rel => exact ⟨k + 1, false, p2, n1 + 1, c2, out ++ [(x.1, y2)], by rw [hln], rfl, by go_num, HLT.out, rfl, by omega, Lib.hid hln, Lib.hid (by rw [if_neg (by decide)]; exact HQ.out.1), Lib.hid (⟨fun h => (by cases h), fun h => absurd h HQ.out.2⟩), HNX2, Lib.hid (by rw [← hln]; exact HO2.out), Lib.hid ⟨HG2.out, HB2.out⟩⟩

        clear hyx
        cases put with
        | true =>
          have hq := HIT.out.1 rfl
          have HQ := Lib.hid hq
          clear hq
          go_wp2_with (at_builtin; refine wpList_append_row encI rfl _ _ 31 rfl (w.heap.size + 1) 37 (itv (0, [])) 24 Tryd.underlying31 infoD rfl _ (out) rfl (HO.out.kept (((Grew.refl _).alloc _).alloc _)) _ _ _ [y] rfl rfl (made1 _ _ _ _ _ _ (by simp) rfl) (by have := HN.out; simp; omega) (by have := HN.out; simp; omega) (by have := HSZ.out; simp; omega) ?_; intro p2 c2 zs2 w2 hz2 ho2 hb2 hc2; have HO2 := Lib.hid ho2; have HZ2 := Lib.hid hz2.out; have HB2 : Hid (Blk w.heap.size (itc x) 37 w2) := Lib.hid ((hb2.block w.heap.size (Nat.lt_succ_self _)).trans (HGB.out.2.grew (((Grew.refl _).alloc _).alloc _))); have HG2 : Hid (Grew w w2) := Lib.hid (Below.trans ((HGB.out.1.alloc _).alloc _) (hb2.mono (Nat.le_succ _))); clear ho2 hb2 hc2 hz2)
          obtain rfl := HZ2.out
          have hln : (out ++ [y]).length = n1 + 1 := by rw [List.length_append, HN.out]; rfl
          go_roundg (L.length - (k + 1))
          case measure => have := HLT.out; omega
          case rel => exact ⟨k + 1, true, p2, n1 + 1, c2, out ++ [y], by rw [hln], rfl, by go_num, HLT.out, rfl, by omega, Lib.hid hln, Lib.hid (by rw [if_pos rfl]; exact HQ.out.1), Lib.hid (⟨fun _ => HQ.out.2, fun _ => rfl⟩), HNX2, Lib.hid (by rw [← hln]; exact HO2.out), Lib.hid ⟨HG2.out, HB2.out⟩⟩
        | false =>
          cases hbf : bef x y with
          | true =>
            have hq := HIT.out.2.1 rfl hbf
            have HQ := Lib.hid hq
            clear hq
            have tk := Lib.hid trivial
            go_wp2_with (first
              | (go_at_call 33; generalize hV : World.alloc _ _ = V; have hbY : Blk wr.heap.size (itc y) 37 V := (by subst hV; exact Blk.new wr (itc y) _); have hgV : Grew wr V := (by subst hV; exact (Grew.refl _).alloc _); clear hV; refine (HBF.out y V).mono ?_; rintro e w3 ⟨rfl, g3⟩; have hg3 := hgV.trans g3; have hb3 := hbY.grew g3; have y0 := hb3.cell 0; have y1 := hb3.cell 1; have yl := hb3.lt; have hx3 := HGB.out.2.grew hg3; have x0 := hx3.cell 0; have x1 := hx3.cell 1; have xl := hx3.lt; simp only [List.getElem?_cons_zero, List.getElem?_cons_succ] at y0 y1 x0 x1; have HG3 := Lib.hid hg3; have HY3 := Lib.hid hb3; have HX3 := Lib.hid hx3; have HSZ3 := Lib.hid hg3.sz; clear g3 hgV hbY hg3 hb3 hx3)
              | (at_builtin; clear tk; refine wpList_append_row encI rfl _ _ 31 rfl (w.heap.size + 1) 37 (itv (0, [])) 24 Tryd.underlying31 infoD rfl _ (out) rfl (HO.out.kept (HG3.out.trans ((Grew.refl _).alloc _))) _ _ _ [x] rfl rfl (made1 _ _ _ _ _ _ (by simp) rfl) (by have := HN.out; simp; omega) (by have := HN.out; simp; omega) (by have := (And.intro HSZ.out HSZ3.out); simp; omega) ?_; intro p4 c4 zs4 w4 hz4 ho4 hb4 hc4; have HO4 := Lib.hid ho4; have HZ4 := Lib.hid hz4.out; have HB4 : Hid (Blk w.heap.size (itc x) 37 w4) := Lib.hid ((hb4.block w.heap.size (Nat.lt_succ_self _)).trans (HX3.out.grew ((Grew.refl _).alloc _))); have HG4 : Hid (Grew w w4) := Lib.hid (Below.trans (HGB.out.1.trans (HG3.out.trans ((Grew.refl _).alloc _))) (hb4.mono (Nat.le_succ _))); have HOX : Hid (OwR w4 (w.heap.size + 1) 37 2 itc (.slice p4 zs4.length c4) (out ++ [x])) := Lib.hid (by have h6 := ho4; rw [hz4.out] at h6 ⊢; exact h6); have hy4 : Blk wr.heap.size (itc y) 37 w4 := (HY3.out.grew ((Grew.refl _).alloc _)).chg hc4 (fun hs => by have h5 := rowlt HO.out hs; omega); have y0 := hy4.cell 0; have y1 := hy4.cell 1; have yl := hy4.lt; simp only [List.getElem?_cons_zero, List.getElem?_cons_succ] at y0 y1; have HS4 := Lib.hid HB4.out.lt; clear hy4; clear ho4 hb4 hc4 hz4)
              | (at_builtin; refine wpList_append_row encI rfl _ _ 31 rfl (w.heap.size + 1) 37 (itv (0, [])) 24 Tryd.underlying31 infoD rfl _ (out ++ [x]) rfl (HOX.out.kept ((Grew.refl _).alloc _)) _ _ _ [y] rfl rfl (made1 _ _ _ _ _ _ (by simp) rfl) (by have := HN.out; simp; omega) (by have := HN.out; simp; omega) (by have := HS4.out; simp; omega) ?_; intro p2 c2 zs2 w2 hz2 ho2 hb2 hc2; have HO2 := Lib.hid ho2; have HZ2 := Lib.hid hz2.out; have HB2 : Hid (Blk w.heap.size (itc x) 37 w2) := Lib.hid ((hb2.block w.heap.size (Nat.lt_succ_self _)).trans (HB4.out.grew ((Grew.refl _).alloc _))); have HG2 : Hid (Grew w w2) := Lib.hid (Below.trans (HG4.out.alloc _) (hb2.mono (Nat.le_succ _))); clear ho2 hb2 hc2 hz2))
            obtain rfl := HZ2.out
            have hln : (out ++ [x] ++ [y]).length = n1 + 2 := by rw [List.length_append, List.length_append, HN.out]; rfl
            go_roundg (L.length - (k + 1))
            case measure => have := HLT.out; omega
            case rel => exact ⟨k + 1, true, p2, n1 + 2, c2, out ++ [x] ++ [y], by rw [hln], rfl, by go_num, HLT.out, rfl, by omega, Lib.hid hln, Lib.hid (by rw [if_pos rfl]; exact HQ.out.1), Lib.hid (⟨fun _ => HQ.out.2, fun _ => rfl⟩), HNX2, Lib.hid (by rw [← hln]; exact HO2.out), Lib.hid ⟨HG2.out, HB2.out⟩⟩
          | false =>
            have hq := HIT.out.2.2 rfl hbf
            have HQ := Lib.hid hq
            clear hq
            go_wp2_with (first
              | (go_at_call 33; generalize hV : World.alloc _ _ = V; have hbY : Blk wr.heap.size (itc y) 37 V := (by subst hV; exact Blk.new wr (itc y) _); have hgV : Grew wr V := (by subst hV; exact (Grew.refl _).alloc _); clear hV; refine (HBF.out y V).mono ?_; rintro e w3 ⟨rfl, g3⟩; have hg3 := hgV.trans g3; have hb3 := hbY.grew g3; have y0 := hb3.cell 0; have y1 := hb3.cell 1; have yl := hb3.lt; have hx3 := HGB.out.2.grew hg3; have x0 := hx3.cell 0; have x1 := hx3.cell 1; have xl := hx3.lt; simp only [List.getElem?_cons_zero, List.getElem?_cons_succ] at y0 y1 x0 x1; have HG3 := Lib.hid hg3; have HY3 := Lib.hid hb3; have HX3 := Lib.hid hx3; have HSZ3 := Lib.hid hg3.sz; clear g3 hgV hbY hg3 hb3 hx3)
              | (at_builtin; refine wpList_append_row encI rfl _ _ 31 rfl (w.heap.size + 1) 37 (itv (0, [])) 24 Tryd.underlying31 infoD rfl _ (out) rfl (HO.out.kept (HG3.out.trans ((Grew.refl _).alloc _))) _ _ _ [y] rfl rfl (made1 _ _ _ _ _ _ (by simp) rfl) (by have := HN.out; simp; omega) (by have := HN.out; simp; omega) (by have := (And.intro HSZ.out HSZ3.out); simp; omega) ?_; intro p2 c2 zs2 w2 hz2 ho2 hb2 hc2; have HO2 := Lib.hid ho2; have HZ2 := Lib.hid hz2.out; have HB2 : Hid (Blk w.heap.size (itc x) 37 w2) := Lib.hid ((hb2.block w.heap.size (Nat.lt_succ_self _)).trans (HX3.out.grew ((Grew.refl _).alloc _))); have HG2 : Hid (Grew w w2) := Lib.hid (Below.trans (HGB.out.1.trans (HG3.out.trans ((Grew.refl _).alloc _))) (hb2.mono (Nat.le_succ _))); clear ho2 hb2 hc2 hz2))
            obtain rfl := HZ2.out
            have hln : (out ++ [y]).length = n1 + 1 := by rw [List.length_append, HN.out]; rfl
            go_roundg (L.length - (k + 1))
            case measure => have := HLT.out; omega
            case rel => exact ⟨k + 1, false, p2, n1 + 1, c2, out ++ [y], by rw [hln], rfl, by go_num, HLT.out, rfl, by omega, Lib.hid hln, Lib.hid (by rw [if_neg (by decide)]; exact HQ.out.1), Lib.hid (⟨fun h => (by cases h), fun h => absurd h HQ.out.2⟩), HNX2, Lib.hid (by rw [← hln]; exact HO2.out), Lib.hid ⟨HG2.out, HB2.out⟩⟩

    · obtain rfl : k = L.length := by omega
      rw [List.take_length] at HOUT HPUT HNX
      have HR : Hid (addL L x = ins x L) := Lib.hid (if_neg HNX.out)
      cases put with
      | true =>
        have HOE : Hid (out = ins x L) := Lib.hid (HOUT.out.trans (if_pos rfl))
        go_wp2
        go_ret
        obtain rfl := HOE.out
        refine ⟨p1, c1, congrArg (fun m => Ending.returned (.slice p1 m c1)) (by rw [HR.out, HN.out]), by rw [HR.out]; exact (HO.out.rd encI).2, HGB.out.1⟩
      | false =>
        have HOE : Hid (out = L) := Lib.hid (HOUT.out.trans (if_neg (by decide)))
        have x0 := HGB.out.2.cell 0
        have x1 := HGB.out.2.cell 1
        have xl := HGB.out.2.lt
        simp only [List.getElem?_cons_zero, List.getElem?_cons_succ] at x0 x1
        have HIN : Hid (ins x L = L ++ [x]) := Lib.hid (ins_none fun z hz => by
          rw [Bool.eq_false_iff]
          intro hb
          have := HPUT.out.2 ⟨z, hz, hb⟩
          exact Bool.noConfusion this)
        go_wp2_with (at_builtin; refine wpList_append_row encI rfl _ _ 31 rfl (w.heap.size + 1) 37 (itv (0, [])) 24 Tryd.underlying31 infoD rfl _ out rfl (HO.out.kept ((Grew.refl _).alloc _)) _ _ _ [x] rfl rfl (made1 _ _ _ _ _ _ (by simp) rfl) (by have := HN.out; simp; omega) (by have := HN.out; simp; omega) (by have := HSZ.out; simp; omega) ?_; intro p2 c2 zs2 w2 hz2 ho2 hb2 hc2; have HO2 := Lib.hid ho2; have HZ2 := Lib.hid hz2.out; have HG2 : Hid (Grew w w2) := Lib.hid (Below.trans (HGB.out.1.alloc _) (hb2.mono (Nat.le_succ _))); clear ho2 hb2 hc2 hz2)
        go_ret
        have hz : zs2 = addL L x := by rw [HZ2.out, HOE.out, HR.out, HIN.out]
        subst hz
        exact ⟨p2, c2, rfl, (HO2.out.rd encI).2, HG2.out⟩
end Go.Proofs.YtmnncildkomagaaDoor
