/-
  LAYER 6 (deadlinequeue): the reference's Push.
-/
import Derived.Test.YtjcoghjkjnhljaaDqRef
namespace Go.Proofs.Ytjcoghjkjnhljaa
open Go Go.RowKit Go.IntWalk Go.Sort
set_option maxRecDepth 8000
set_option linter.unusedSimpArgs false

theorem drop_consI (xs : List It) (k : Nat) (h : k < xs.length) : xs.drop k = xs.getD k (0, 0) :: xs.drop (k + 1) := by
  rw [List.drop_eq_getElem_cons h]
  simp [List.getD, h]
/-- As wpList_appendJ: nothing but the row itself has changed. -/
theorem wpList_appendG {w : World} {ops : Array Oper} {rest : List Oper} {o : Oper} {a : Act} {Q : Exit → Act → World → Prop} (hgd : o.guard = none) (s x : Operand)
    (ho : o.op = .call { callee := .builtin .append, args := #[s, x], argTypes := #[26, 26] })
    (base : Nat) (q : Option Addr) (m d : Nat) (xs : List It) (hs : a.eval s = .slice q m d) (hown : OwI w base 36 (.slice q m d) xs)
    (p : Option Addr) (n c : Nat) (ys : List It) (hx : a.eval x = .slice p n c) (hl : ys.length = n) (hin : RdI w p c ys) (hsz : xs.length + ys.length ≤ 3000000) (hbase : base ≤ w.heap.size)
    (h : ∀ p' c' zs w', Hid (zs = xs ++ ys) → OwI w' base 36 (.slice p' zs.length c') zs → Below base w w' → (∀ k, k < w.heap.size → (∀ ad, q = some ad → k ≠ ad.block) → w'.heap[k]? = w.heap[k]?) → wpList Try.prog ops Q rest (a.put o.dst (.slice p' zs.length c')) w') : wpList Try.prog ops Q (o :: rest) a w := by
  obtain ⟨v', w', hrun, h2, h3, h4, _⟩ := run_append_its (P := Try.prog) 26 o.type base 36 (itv (0, 0)) 16 Try.underlying26 infoJ rfl (.slice q m d) xs hown p n c ys hl hin (by omega) (by omega) hbase
  obtain ⟨p', c', rfl, _, _⟩ := h2.parts
  refine wpList_plain hgd fun K hK => ?_
  unfold Oper.wp
  simp [execOp, ho, resolve, invoke, builtin, hs, hx, hrun, Result.andThen]
  have := h p' c' _ w' rfl h2 h3 (fun k hk hq => h4.block k hk fun e => by
    cases q with
    | none => cases e
    | some ad => exact hq ad rfl (Option.some.inj e))
  rw [List.length_append] at this
  exact hK _ _ this
/-- What is still to be laid behind what lies there. -/
def todo (x : It) (put : Bool) (l : List It) : List It := if put then l else ins x l
set_option maxHeartbeats 4000000 in
theorem rpush_any (p : Option Addr) (n c : Nat) (xs : List It) (x : It) (w : World) (hl : xs.length = n) (hn : n ≤ 999999) (h : RdI w p c xs) :
    Calls Try.prog 28 #[.slice p n c, itv x] w fun e w' => ∃ p' c', e = .returned (.slice p' (pushL xs x).length c') ∧ OwI w' w.heap.size 36 (.slice p' (pushL xs x).length c') (pushL xs x) ∧ Grew w w' := by
  have hg0 : Grew w (w.alloc (.cells #[.int .i64 x.1, .int .i64 x.2] 36)) := (Grew.refl w).alloc _
  have HR := Lib.hid (rremove_any p n c xs x.1 _ hl (by omega) (h.kept hg0))
  have hzl : (rem x.1 xs).length ≤ 999999 := by have := rem_le x.1 xs; omega
  clear h hl hg0
  obtain ⟨x1, x2⟩ := x
  unfold pushL
  simp only [] at HR hzl ⊢
  generalize rem x1 xs = zs at HR hzl ⊢
  generalize hasId x1 xs = hb at HR
  go_enter Try.func28, Try.ntmps28
  go_wp2_with (go_at_call 21; (with_reducible refine HR.out.mono ?_); rintro e w1 ⟨q1, d1, rfl, o1, g1⟩; have bl : w.heap.size < w1.heap.size := (by have := Below.size g1; simp at this; omega); have O1 := Lib.hid o1; have B1 : Hid (Bx w.heap.size 0 (x1, x2) w1) := Lib.hid (Bx.grew ⟨by go_simp, by go_simp⟩ g1); have G1 := Lib.hid (((Grew.refl w).alloc _).trans g1); clear o1 g1)
  clear HR
  go_loopg [5, 6, 18] zs.length (fun g ov pv iv wr => ∃ (k : Nat) (put : Bool) (p1 : Option Addr) (n1 c1 : Nat) (us : List It), ov = .slice p1 n1 c1 ∧ pv = .bool put ∧ iv = .int .i64 (k : Int) ∧ k ≤ zs.length ∧ g = zs.length - k ∧ Hid (n1 ≤ k + put.toNat) ∧ Hid (n1 = us.length) ∧ Hid (us ++ todo (x1, x2) put (zs.drop k) = ins (x1, x2) zs) ∧ Hid (OwI wr w1.heap.size 36 (.slice p1 n1 c1) us) ∧ Hid (Grew w1 wr))
  case atStart => exact ⟨0, false, none, 0, 0, [], rfl, rfl, rfl, Nat.zero_le _, rfl, Lib.hid (Nat.le_refl _), rfl, rfl, OwI.nil _ _ _, Grew.refl _⟩
  case round =>
    obtain ⟨k, put, p1, n1, c1, us, rfl, rfl, rfl, hk, rfl, hnk, hnu, hu, ho, hg⟩ := hrel
    have hrd := O1.out.rd.2.kept hg.out
    have hgs : w1.heap.size ≤ wr.heap.size := Below.size hg.out
    have hwr : w.heap.size < wr.heap.size := by omega
    obtain ⟨bx0, bx1⟩ := B1.out.grew hg.out
    simp only [Nat.zero_add] at bx0 bx1
    by_cases hlt : k < zs.length
    · obtain ⟨b, o, rfl, -⟩ := hrd.cells (by omega)
      obtain ⟨hy0, hy1⟩ := hrd.at hlt
      have hdr := drop_consI zs k hlt
      generalize zs.getD k (0, 0) = y at hy0 hy1 hdr
      obtain ⟨y1, y2⟩ := y
      have Hdr := Lib.hid hdr
      clear hdr hrd
      cases put with
      | true =>
        have hn1 : n1 ≤ k + 1 := hnk.out
        have hnext := Lib.hid (show (us ++ [(y1, y2)]) ++ todo (x1, x2) true (zs.drop (k + 1)) = ins (x1, x2) zs by rw [← hu.out, Hdr.out]; simp [todo])
        go_wp2_with (at_builtin; refine wpList_appendJ rfl _ _ rfl w1.heap.size _ us rfl ((ho.out.alloc _).alloc _) _ _ _ [(y1, y2)] rfl rfl (made1 _ _ _ _ _ _ (by simp) rfl) (by have := hnu.out; simp; omega) (by simp; omega) ?_; intro p2 cp2 us2 w2 hzw2 how2 hbw2)
        have hl2 : us2.length = n1 + 1 := by rw [hzw2.out]; simp [hnu.out]
        rw [hl2] at how2 ⊢
        go_roundg (zs.length - (k + 1))
        case measure => omega
        case rel => exact ⟨k + 1, true, p2, n1 + 1, cp2, us2, rfl, rfl, by go_num, by omega, rfl, Lib.hid (by simp only [Bool.toNat_true, Bool.toNat_false]; omega), Lib.hid hl2.symm, by rw [hzw2.out]; exact hnext.out, how2, Below.trans ((hg.out.alloc _).alloc _) hbw2⟩
      | false =>
        have hn1 : n1 ≤ k := hnk.out
        cases hbf : bef (x1, x2) (y1, y2) with
        | true =>
          have hnext := Lib.hid (show (us ++ [(x1, x2)] ++ [(y1, y2)]) ++ todo (x1, x2) true (zs.drop (k + 1)) = ins (x1, x2) zs by rw [← hu.out, Hdr.out]; simp [todo, ins, hbf])
          have HB : Hid (∀ W, Calls Try.prog 20 #[.agg #[.int .i64 x1, .int .i64 x2], .agg #[.int .i64 y1, .int .i64 y2]] W fun e w' => e = .returned (.bool true) ∧ Grew W w') := Lib.hid fun W => by have := before_any (x1, x2) (y1, y2) W; rwa [hbf] at this
          clear hbf
          have tk1 := Lib.hid trivial
          go_wp2_with (first
            | (go_at_call 20; (with_reducible refine (HB.out _).mono ?_); rintro e wb ⟨rfl, gb⟩; have c0 : wb.cell? ⟨w.heap.size, 0, none⟩ = some (.int .i64 x1) := (Below.cell gb (p := ⟨w.heap.size, 0, none⟩) (by simp; omega)).trans (by go_simp); have c1' : wb.cell? ⟨w.heap.size, 1, none⟩ = some (.int .i64 x2) := (Below.cell gb (p := ⟨w.heap.size, 1, none⟩) (by simp; omega)).trans (by go_simp); have e0 : wb.cell? ⟨wr.heap.size, 0, none⟩ = some (.int .i64 y1) := (Below.cell gb (p := ⟨wr.heap.size, 0, none⟩) (by simp)).trans (by go_simp); have e1 : wb.cell? ⟨wr.heap.size, 1, none⟩ = some (.int .i64 y2) := (Below.cell gb (p := ⟨wr.heap.size, 1, none⟩) (by simp)).trans (by go_simp); have lb : wr.heap.size < wb.heap.size := (by have := Below.size gb; simp at this; omega); have GB := Lib.hid (((Grew.refl wr).alloc _).trans gb); clear gb)
            | (at_builtin; clear tk1; refine wpList_appendG rfl _ _ rfl w1.heap.size p1 n1 c1 us rfl ((ho.out.kept GB.out).alloc _) _ _ _ [(x1, x2)] rfl rfl (made1 _ _ _ _ _ _ (by simp) rfl) (by have := hnu.out; simp; omega) (by simp; omega) ?_; intro p2 cp2 us2 w2 hzw2 how2 hbw2 hkw2; have hl2 : us2.length = n1 + 1 := (by rw [hzw2.out]; simp [hnu.out]); have hk2 := hkw2 wr.heap.size (by simp; omega) (fun ad ha => by have := (ho.out.place ad ha).2; omega); have e0 : w2.cell? ⟨wr.heap.size, 0, none⟩ = some (.int .i64 y1) := (World.cell?_of_block (a := ⟨wr.heap.size, 0, none⟩) hk2).trans (by go_simp); have e1 : w2.cell? ⟨wr.heap.size, 1, none⟩ = some (.int .i64 y2) := (World.cell?_of_block (a := ⟨wr.heap.size, 1, none⟩) hk2).trans (by go_simp); have l2 : w1.heap.size ≤ w2.heap.size := (by have := hbw2.size; simp at this; omega); have g2 := Lib.hid (Below.trans ((hg.out.trans GB.out).alloc _) hbw2); rw [hl2] at how2 ⊢; have HO2 := Lib.hid how2; have Hl2 := Lib.hid hl2; have Hz2 := Lib.hid hzw2.out; clear how2 hbw2 hl2 hzw2 hkw2 hk2)
            | (at_builtin; refine wpList_appendJ rfl _ _ rfl w1.heap.size _ us2 rfl (HO2.out.alloc _) _ _ _ [(y1, y2)] rfl rfl (made1 _ _ _ _ _ _ (by simp) rfl) (by have := Hl2.out; simp; omega) (by simp; omega) ?_; intro p3 cp3 us3 w3 hzw3 how3 hbw3))
          have hl3 : us3.length = n1 + 1 + 1 := by rw [hzw3.out]; simp [Hl2.out]
          rw [hl3] at how3 ⊢
          go_roundg (zs.length - (k + 1))
          case measure => omega
          case rel => exact ⟨k + 1, true, p3, n1 + 1 + 1, cp3, us3, rfl, rfl, by go_num, by omega, rfl, Lib.hid (by simp only [Bool.toNat_true]; omega), Lib.hid hl3.symm, by rw [hzw3.out, Hz2.out]; exact hnext.out, how3, Below.trans ((show Grew w1 w2 from g2.out).alloc _) hbw3⟩
        | false =>
          have hnext := Lib.hid (show (us ++ [(y1, y2)]) ++ todo (x1, x2) false (zs.drop (k + 1)) = ins (x1, x2) zs by rw [← hu.out, Hdr.out]; simp [todo, ins, hbf])
          have HB : Hid (∀ W, Calls Try.prog 20 #[.agg #[.int .i64 x1, .int .i64 x2], .agg #[.int .i64 y1, .int .i64 y2]] W fun e w' => e = .returned (.bool false) ∧ Grew W w') := Lib.hid fun W => by have := before_any (x1, x2) (y1, y2) W; rwa [hbf] at this
          clear hbf
          go_wp2_with (first
            | (go_at_call 20; (with_reducible refine (HB.out _).mono ?_); rintro e wb ⟨rfl, gb⟩; have e0 : wb.cell? ⟨wr.heap.size, 0, none⟩ = some (.int .i64 y1) := (Below.cell gb (p := ⟨wr.heap.size, 0, none⟩) (by simp)).trans (by go_simp); have e1 : wb.cell? ⟨wr.heap.size, 1, none⟩ = some (.int .i64 y2) := (Below.cell gb (p := ⟨wr.heap.size, 1, none⟩) (by simp)).trans (by go_simp); have lb : wr.heap.size < wb.heap.size := (by have := Below.size gb; simp at this; omega); have GB := Lib.hid (((Grew.refl wr).alloc _).trans gb); clear gb)
            | (at_builtin; refine wpList_appendJ rfl _ _ rfl w1.heap.size _ us rfl ((ho.out.kept GB.out).alloc _) _ _ _ [(y1, y2)] rfl rfl (made1 _ _ _ _ _ _ (by simp) rfl) (by have := hnu.out; simp; omega) (by simp; omega) ?_; intro p2 cp2 us2 w2 hzw2 how2 hbw2))
          have hl2 : us2.length = n1 + 1 := by rw [hzw2.out]; simp [hnu.out]
          rw [hl2] at how2 ⊢
          go_roundg (zs.length - (k + 1))
          case measure => omega
          case rel => exact ⟨k + 1, false, p2, n1 + 1, cp2, us2, rfl, rfl, by go_num, by omega, rfl, Lib.hid (by simp only [Bool.toNat_true, Bool.toNat_false]; omega), Lib.hid hl2.symm, by rw [hzw2.out]; exact hnext.out, how2, Below.trans ((hg.out.trans GB.out).alloc _) hbw2⟩
    · obtain rfl : k = zs.length := by omega
      rw [List.drop_length] at hu
      clear hrd
      cases put with
      | true =>
        have hfin : us = ins (x1, x2) zs := by have := hu.out; simpa [todo] using this
        have Hf := Lib.hid hfin
        clear hfin
        go_wp2
        go_ret
        have e1 : n1 = (ins (x1, x2) zs).length := by rw [hnu.out, Hf.out]
        have e2 : us = ins (x1, x2) zs := Hf.out
        subst e1 e2
        exact ⟨p1, c1, rfl, ho.out.down (by omega), G1.out.trans hg.out⟩
      | false =>
        have hn1 : n1 ≤ zs.length := hnk.out
        have hfin : us ++ [(x1, x2)] = ins (x1, x2) zs := by have := hu.out; simpa [todo, ins] using this
        have Hf := Lib.hid hfin
        clear hfin
        go_wp2_with (at_builtin; refine wpList_appendJ rfl _ _ rfl w1.heap.size _ us rfl (ho.out.alloc _) _ _ _ [(x1, x2)] rfl rfl (made1 _ _ _ _ _ _ (by simp) rfl) (by have := hnu.out; simp; omega) (by simp; omega) ?_; intro p2 cp2 us2 w2 hzw2 how2 hbw2)
        go_ret
        have e2 : us2 = ins (x1, x2) zs := hzw2.out.trans Hf.out
        subst e2
        exact ⟨p2, cp2, rfl, how2.down (by omega), G1.out.trans (Below.trans (hg.out.alloc _) hbw2)⟩
end Go.Proofs.Ytjcoghjkjnhljaa
