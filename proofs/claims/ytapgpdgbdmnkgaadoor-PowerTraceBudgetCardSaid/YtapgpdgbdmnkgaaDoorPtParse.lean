/-
  CONTRACTS OF LAYER 13 (powertrace): Parse.
-/
import Derived.Test.YtapgpdgbdmnkgaaDoorPtWord
namespace Go.Proofs.YtapgpdgbdmnkgaaDoor
open Go Go.RowKit Go.IntWalk
open Go.Lib (itoa)
set_option linter.unusedSimpArgs false
set_option linter.unusedVariables false
set_option maxRecDepth 8000

theorem made1 (w : World) (S : Nat) (x : It) (e : TypeId) (cs : Array Value) (fr : Nat × Nat) (hS : w.heap.size = S) (hc : cs = (flatL itc [x]).toArray) : Rw 2 itc (w.alloc (.cells cs e fr)) (some ⟨S, 0, none⟩) 1 [x] := by
  subst hS
  exact Rw.made encI w [x] 1 e cs fr hc rfl (by omega)
/-- What Parse answers. -/
def Parsed (l : List UInt8) (w : World) (e : Ending) (w' : World) : Prop := ∃ (xs : List It) (k er : Nat) (p : Option Addr) (c : Nat), parseT l = (xs, k, er) ∧ e = .returned (.tuple #[.slice p xs.length c, .int .i64 (k : Int), .int .i64 (er : Int)]) ∧ OwR w' w.heap.size 52 2 itc (.slice p xs.length c) xs ∧ Grew w w'
theorem Parsed.bad {l : List UInt8} {k : Nat} {w w' : World} (h : parseT l = ([], k, 2)) (hg : Grew w w') : Parsed l w (.returned (.tuple #[.slice none 0 0, .int .i64 (k : Int), .int .i64 2])) w' := ⟨[], k, 2, none, 0, h, rfl, OwR.nil _ _ _ _ _, hg⟩
set_option maxHeartbeats 4000000 in
theorem parse_any (l : List UInt8) (hl : l.length ≤ 50000) (w : World) (he : Env w) : Calls Tryd.prog 17 #[.string ⟨l.toArray⟩] w (Parsed l w) := by
  have HE := Lib.hid he
  clear he
  by_cases hl0 : l = []
  · subst hl0
    go_enter Tryd.func17, Tryd.ntmps17
    go_wp2
    refine bodyPost_ret (v := .tuple #[.slice none 0 0, .int .i64 0, .int .i64 0]) (by simp [results, Tryd.results17, go_sem]) rfl ?_
    exact ⟨[], 0, 0, none, 0, rfl, rfl, OwR.nil _ _ _ _ _, Grew.refl _⟩
  have hlb : (l == []) = false := by rw [beq_eq_false_iff_ne]; exact hl0
  have HS := Lib.hid (parseT_cons hl0)
  clear hl0
  go_enter Tryd.func17, Tryd.ntmps17
  go_wp2
  go_loopg [0, 5, 6] l.length (fun gg sv lv nv wr => ∃ (r : List UInt8) (L : List It) (m n : Nat) (p : Option Addr) (c : Nat), sv = .string ⟨r.toArray⟩ ∧ lv = .slice p n c ∧ nv = .int .i64 (m : Int) ∧ gg = r.length ∧ r.length ≤ 50000 ∧ m ≤ 50001 ∧ n ≤ 50000 ∧ Hid (n = L.length ∧ m = L.length + 1) ∧ Hid (L.length + r.length ≤ l.length) ∧ Hid (parseT l = goP L (L.length + 1) (wordsL r)) ∧ Hid (OwR wr w.heap.size 52 2 itc (.slice p n c) L) ∧ Hid (Grew w wr))
  case atStart => exact ⟨l, [], 1, 0, none, 0, rfl, rfl, rfl, rfl, hl, by omega, by omega, Lib.hid ⟨rfl, rfl⟩, Lib.hid (by simp), HS, Lib.hid (OwR.nil _ _ _ _ _), Lib.hid (Grew.refl _)⟩
  clear HS
  case round =>
    obtain ⟨r, L, m, n, p, c, rfl, rfl, rfl, rfl, hr5, hm5, hn5, HM, HLR, HP0, HO, HG⟩ := hrel
    have hc0 := cut_any r [32] (by omega) wr (HE.out.grew HG.out)
    rcases cut_one r 32 with ⟨hno, hc⟩ | ⟨a, q, hpq, ha, hc⟩
    · rw [hc] at hc0
      have HC := Lib.hid hc0
      have HP := Lib.hid (fun W hW => pper_any r (by omega) W hW)
      have HW := Lib.hid (wordsL_one hno)
      have HLL : Hid (L.length ≤ 50000) := Lib.hid (by have := HLR.out; omega)
      clear hc hc0 hno
      go_wp2_with (first
        | (go_at_call 37; (with_reducible refine (HC.out).mono ?_); rintro e w1 ⟨rfl, g1⟩; have HO1 := Lib.hid (HO.out.kept g1); have HG1 := Lib.hid (HG.out.trans g1); clear g1)
        | (go_at_call 38; (with_reducible refine (HP.out _ (HE.out.grew HG1.out)).mono ?_); rintro e w2 ⟨x, ok, rfl, hy, hn, g2⟩; have HY := Lib.hid hy; have HN := Lib.hid hn; have HO2 := Lib.hid (HO1.out.kept g2); have HG2 := Lib.hid (HG1.out.trans g2); clear g2 hy hn)
        | (at_builtin; refine wpList_append_row encI rfl _ _ 22 rfl w.heap.size 52 (itv (0, 0)) 16 Tryd.underlying22 infoC rfl _ L rfl (HO2.out.kept (((Grew.refl _).alloc _).alloc _)) _ _ _ [x] rfl rfl (made1 _ _ _ _ _ _ (by simp) rfl) (by have := HLL.out; simp; omega) (by have := HLL.out; simp; omega) (by have := HG2.out.size; simp; omega) ?_; intro p4 c4 zs4 w4 hz4 ho4 hb4 hc4; have HO4 := Lib.hid ho4; have HZ4 := Lib.hid hz4.out; have HG4 := Lib.hid (((HG2.out.alloc _).alloc _).below hb4); clear ho4 hb4 hc4))
      · rename_i hok
        have hok2 : ok = false := by simpa using hok
        refine bodyPost_ret (v := .tuple #[.slice none 0 0, .int .i64 m, .int .i64 2]) (by simp [results, Tryd.results17, go_sem]) rfl ?_
        exact Parsed.bad (by rw [HP0.out, HW.out, goP_bad (HN.out hok2), HM.out.2]) (HG2.out.alloc _)
      · have hok2 : ok = true := by
          have hh : (!ok) = false := by assumption
          simpa using hh
        have HR : Hid (parseT l = (L ++ [x], 0, 0)) := Lib.hid (by rw [HP0.out, HW.out, goP_ok (HY.out hok2)]; rfl)
        refine bodyPost_ret (v := .tuple #[.slice p4 zs4.length c4, .int .i64 0, .int .i64 0]) (by simp [results, Tryd.results17, go_sem]) rfl ?_
        exact ⟨zs4, 0, 0, p4, c4, by rw [HR.out, HZ4.out], rfl, HO4.out, HG4.out⟩
    · rw [hc] at hc0
      have HC := Lib.hid hc0
      have hal : a.length ≤ 50000 ∧ q.length + 1 ≤ r.length := by rw [hpq] at hr5; rw [hpq]; simp at hr5 ⊢; omega
      have HP := Lib.hid (fun W hW => pper_any a (by omega) W hW)
      have HW := Lib.hid (show wordsL r = a :: wordsL q by rw [hpq, wordsL_cut ha])
      have HLL : Hid (L.length ≤ 50000 ∧ L.length + 1 ≤ 50000) := Lib.hid (by have := HLR.out; omega)
      have HAL := Lib.hid hal
      clear hc hc0 ha hpq hal
      go_wp2_with (first
        | (go_at_call 37; (with_reducible refine (HC.out).mono ?_); rintro e w1 ⟨rfl, g1⟩; have HO1 := Lib.hid (HO.out.kept g1); have HG1 := Lib.hid (HG.out.trans g1); clear g1)
        | (go_at_call 38; (with_reducible refine (HP.out _ (HE.out.grew HG1.out)).mono ?_); rintro e w2 ⟨x, ok, rfl, hy, hn, g2⟩; have HY := Lib.hid hy; have HN := Lib.hid hn; have HO2 := Lib.hid (HO1.out.kept g2); have HG2 := Lib.hid (HG1.out.trans g2); clear g2 hy hn)
        | (at_builtin; refine wpList_append_row encI rfl _ _ 22 rfl w.heap.size 52 (itv (0, 0)) 16 Tryd.underlying22 infoC rfl _ L rfl (HO2.out.kept (((Grew.refl _).alloc _).alloc _)) _ _ _ [x] rfl rfl (made1 _ _ _ _ _ _ (by simp) rfl) (by have := HLL.out; simp; omega) (by have := HLL.out; simp; omega) (by have := HG2.out.size; simp; omega) ?_; intro p4 c4 zs4 w4 hz4 ho4 hb4 hc4; have HO4 := Lib.hid ho4; have HZ4 := Lib.hid hz4.out; have HG4 := Lib.hid (((HG2.out.alloc _).alloc _).below hb4); clear ho4 hb4 hc4))
      · rename_i hok
        have hok2 : ok = false := by simpa using hok
        refine bodyPost_ret (v := .tuple #[.slice none 0 0, .int .i64 m, .int .i64 2]) (by simp [results, Tryd.results17, go_sem]) rfl ?_
        exact Parsed.bad (by rw [HP0.out, HW.out, goP_bad (HN.out hok2), HM.out.2]) (HG2.out.alloc _)
      · rename_i hok
        have hok2 : ok = true := by simpa using hok
        have HR : Hid (parseT l = goP (L ++ [x]) (L.length + 1 + 1) (wordsL q)) := Lib.hid (by rw [HP0.out, HW.out, goP_ok (HY.out hok2)])
        have HZL : Hid (zs4.length = L.length + 1) := Lib.hid (by rw [HZ4.out]; simp)
        clear hok hok2
        go_roundg q.length
        case measure => have := HAL.out; omega
        case rel => exact ⟨q, zs4, m + 1, zs4.length, p4, c4, rfl, rfl, by go_num, rfl, (by have := HAL.out; omega), (by have := HLL.out; have := HM.out; omega), (by have := HLL.out; have := HZL.out; omega), Lib.hid ⟨rfl, by have := HM.out; have := HZL.out; omega⟩, Lib.hid (by have := HLR.out; have := HAL.out; have := HZL.out; omega), Lib.hid (by rw [HR.out, HZL.out, HZ4.out]), HO4, HG4⟩
end Go.Proofs.YtapgpdgbdmnkgaaDoor
