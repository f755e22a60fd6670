/-
  CONTRACTS OF LAYER 13 (powertrace): advance.
-/
import Derived.Test.YtapgpdgbdmnkgaaDoorPtSeq
import Derived.Test.YtapgpdgbdmnkgaaDoorPtLists
namespace Go.Proofs.YtapgpdgbdmnkgaaDoor
open Go Go.RowKit Go.IntWalk
open Go.Lib (itoa)
set_option linter.unusedSimpArgs false
set_option linter.unusedVariables false
set_option maxRecDepth 8000

theorem set_same {α : Type} {L : List α} {j : Nat} {v : α} (h : L[j]? = some v) : L.set j v = L := by
  apply List.ext_getElem?
  intro i
  by_cases hij : j = i
  · subst hij
    have := (List.getElem?_eq_some_iff.1 h).1
    rw [List.getElem?_set_self (by omega), h]
  · rw [List.getElem?_set_ne hij]
/-- The energy of one element is stored. -/
theorem OwR.setE {w : World} {base : Nat} {e : TypeId} {b n c : Nat} {xs : List It} (h : OwR w base e 2 itc (.slice (some ⟨b, 0, none⟩) n c) xs) (i : Nat) (x : It) (hx : xs[i]? = some x) (z : Int) :
    OwR (w.setCell ⟨b, i * 2, none⟩ (.int .i64 z)) base e 2 itc (.slice (some ⟨b, 0, none⟩) n c) (xs.set i (z, x.2)) := by
  obtain ⟨rfl, _⟩ := h.rd encI
  have hi := (List.getElem?_eq_some_iff.1 hx).1
  have h2 : World.ownsRow w base e 2 (.slice (some ⟨b, 0, none⟩) xs.length c) xs.length (flatL itc xs) := h
  have h3 := (World.ownsRow.stored h2 (i * 2) (.int .i64 z)).1
  show World.ownsRow _ _ _ _ _ _ _
  rw [List.length_set, flatL_set2 encI xs i (z, x.2) (.int .i64 z) (.int .i64 x.2) rfl hi]
  have h1 := flatL_get encI hx (show (itc x)[1]? = some (.int .i64 x.2) from rfl)
  rw [set_same (j := i * 2 + 1) (by rw [List.getElem?_set_ne (by omega)]; exact h1)]
  exact h3
theorem set_mid {α : Type} {xs : List α} {j : Nat} (h : j < xs.length) (R : List α) (y : α) : (xs.take (j + 1) ++ R).set j y = xs.take j ++ y :: R := by
  rw [List.take_succ_eq_append_getElem h, List.append_assoc]
  rw [List.set_append, if_neg (by simp; omega)]
  simp [show min j xs.length = j by omega]
theorem drop_map {xs : List It} {j : Nat} (h : j < xs.length) : (xs.drop j).map zeroed = zeroed xs[j] :: (xs.drop (j + 1)).map zeroed := by rw [List.drop_eq_getElem_cons h, List.map_cons]
/-- What advance makes of a schedule. -/
def Adv (m : Int) (xs ys : List It) (b : Bool) : Prop := (b = true → ∃ a x r, xs = a ++ x :: r ∧ (∀ y ∈ r, ¬ y.1 < m) ∧ x.1 < m ∧ ys = a ++ bumped x :: r.map zeroed) ∧ (b = false → ∀ y ∈ xs, ¬ y.1 < m)
def Advd (base n c : Nat) (p : Option Addr) (xs : List It) (m : Int) (w : World) (e : Ending) (w' : World) : Prop := ∃ b ys, e = .returned (.bool b) ∧ Adv m xs ys b ∧ ys.length = n ∧ OwR w' base 52 2 itc (.slice p n c) ys ∧ Chg w w' (fun k => Value.ownBlock (.slice p n c) = some k)
set_option maxHeartbeats 2000000 in
theorem advance_any (base n c : Nat) (p : Option Addr) (xs : List It) (m : Int) (w : World) (h : OwR w base 52 2 itc (.slice p n c) xs) (hl : n ≤ 100000) (hm : 0 ≤ m ∧ m ≤ 1073741824) (hx : ∀ x ∈ xs, 0 ≤ x.1 ∧ x.1 ≤ 1073741824) :
    Calls Tryd.prog 59 #[.slice p n c, .int .i64 m] w (Advd base n c p xs m w) := by
  obtain ⟨hn, hR⟩ := h.rd encI
  have HX := Lib.hid hx
  have hmax := hR.max
  have hcap := hR.cap
  rw [← hn] at hcap
  have HN := Lib.hid hn
  have HO0 := Lib.hid h
  clear h hR hx hn
  go_enter Tryd.func59, Tryd.ntmps59
  go_wp2
  go_loopg [5] (n + n) (fun gg iv wr => ∃ (k : Nat) (z : Int), iv = .int .i64 z ∧ z = (k : Int) - 1 ∧ gg = k + n ∧ k ≤ n ∧ Hid (OwR wr base 52 2 itc (.slice p n c) (xs.take k ++ (xs.drop k).map zeroed)) ∧ Hid (∀ y ∈ xs.drop k, ¬ y.1 < m) ∧ Hid (Chg w wr (fun k => Value.ownBlock (.slice p n c) = some k)))
  case atStart => exact ⟨n, (n : Int) - 1, rfl, rfl, rfl, Nat.le_refl _, Lib.hid (by rw [HN.out, List.take_length, List.drop_length]; simpa using HN.out ▸ HO0.out), Lib.hid (by rw [HN.out, List.drop_length]; intro y hy; cases hy), Lib.hid (Chg.refl _ _)⟩
  clear HO0
  case round =>
    obtain ⟨k, z, rfl, hz, rfl, hk, HO, HD, HC⟩ := hrel
    cases k with
    | zero =>
      obtain rfl : z = -1 := by omega
      clear hz
      go_wp2
      go_ret
      refine ⟨false, (xs.drop 0).map zeroed, rfl, ⟨(fun h => by cases h), fun _ => by simpa using HD.out⟩, by simp [HN.out], by simpa using HO.out, HC.out⟩
    | succ j =>
      obtain rfl : z = (j : Int) := by omega
      have hlt : j < xs.length := by rw [← HN.out]; omega
      have hcur : (xs.take (j + 1) ++ (xs.drop (j + 1)).map zeroed)[j]? = some xs[j] := by
        rw [List.getElem?_append_left (by simp; omega), List.getElem?_take_of_lt (by omega), List.getElem?_eq_getElem hlt]
      obtain ⟨g, rfl, hbg, hgl⟩ := HO.out.at (by omega)
      have hfr := fun q => (HO.out.free encI q).2
      have d0 := ((HO.out.rd encI).2).cell hcur (j := 0) rfl
      simp only [Nat.zero_add, Nat.add_zero] at d0
      have hxb := HX.out xs[j] (List.getElem_mem hlt)
      have HS1 := Lib.hid (fun zz => HO.out.setE j xs[j] hcur zz)
      have HM := Lib.hid (fun y => set_mid hlt ((xs.drop (j + 1)).map zeroed) y)
      have HDM := Lib.hid (drop_map hlt)
      have HDR := Lib.hid (List.drop_eq_getElem_cons hlt)
      have HSP := Lib.hid (List.take_append_drop j xs)
      rw [List.drop_eq_getElem_cons hlt] at HSP
      have HCS := Lib.hid (fun zz : Int => HC.out.trans ((Chg.set wr ⟨g, j * 2, none⟩ (.int .i64 zz)).mono (fun k hk => (show Value.ownBlock (.slice (some ⟨g, 0, none⟩) n c) = some k by rw [ownBlock_sl]; rw [show k = g from hk]; rfl))))
      generalize xs[j] = x at d0 hxb HS1 HDM HDR HSP
      clear hz hcur HC
      by_cases hxm : x.1 < m
      · have HXM := Lib.hid hxm
        go_wp2
        all_goals first | (exfalso; omega) | skip
        go_ret
        have ho := HS1.out (x.1 + 1)
        rw [HM.out] at ho
        exact ⟨true, xs.take j ++ bumped x :: (xs.drop (j + 1)).map zeroed, rfl, ⟨fun _ => ⟨xs.take j, x, xs.drop (j + 1), HSP.out.symm, (fun y hy => by have := HD.out y hy; omega), HXM.out, rfl⟩, (fun h => by cases h)⟩, (by have := HN.out; simp; omega), ho, HCS.out _⟩
      · have HXM := Lib.hid hxm
        go_wp2
        all_goals first | (exfalso; omega) | skip
        go_roundg (j + n)
        case measure => omega
        case rel =>
          have ho := HS1.out 0
          rw [HM.out] at ho
          exact ⟨j, (j : Int) - 1, rfl, rfl, rfl, by omega, Lib.hid (by rw [HDM.out]; exact ho), Lib.hid (by rw [HDR.out]; intro y hy; rcases List.mem_cons.1 hy with rfl | hy; exact HXM.out; have := HD.out y hy; omega), Lib.hid (HCS.out 0)⟩
end Go.Proofs.YtapgpdgbdmnkgaaDoor
