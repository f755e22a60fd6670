/-
  CONTRACTS OF LAYER 10 (sensor): Parse.
-/
import Derived.Test.YtaehlpdnjfblbaaDoorSeText2
namespace Go.Proofs.YtaehlpdnjfblbaaDoor
open Go Go.RowKit Go.IntWalk
open Go.Lib (itoa)
set_option linter.unusedSimpArgs false
set_option linter.unusedVariables false
set_option maxRecDepth 8000

/-- What Parse of the program answers. -/
def Parsed (l : List UInt8) (w : World) (e : Ending) (w' : World) : Prop := ∃ (L : List It) (r : List UInt8), Ends l L r ∧ ((r = [] ∧ ∃ t, e = .returned (.tuple #[.pointer (some ⟨t, 0, none⟩), .int .i64 0, .int .i64 0]) ∧ Tr w.heap.size t L w') ∨ (r ≠ [] ∧ e = .returned (.tuple #[.pointer none, .int .i64 ((L.length + 1 : Nat) : Int), .int .i64 2]))) ∧ Grew w w'
set_option maxHeartbeats 4000000 in
theorem parse_any (l : List UInt8) (hl : l.length ≤ 50000) (w : World) (he : Env w) : Calls Tryd.prog 20 #[.string ⟨l.toArray⟩] w (Parsed l w) := by
  have HE := Lib.hid he
  clear he
  go_enter Tryd.func20, Tryd.ntmps20
  go_wp2
  obtain ⟨t, ht⟩ : ∃ t, t = w.heap.size := ⟨_, rfl⟩
  rw [← ht]
  refine wp_at9 (fun W => Tr w.heap.size t [] W ∧ Grew w W) ⟨⟨none, 0, by rw [ht]; exact Blk.new w _ _, OwR.nil _ _ _ _ _, Nat.le_of_eq ht.symm⟩, (Grew.refl _).alloc _⟩ ?_
  intro W hW
  have HS := Lib.hid hW
  clear hW ht
  go_loopg [0, 6] l.length (fun gg sv nv wr => ∃ (L : List It) (r : List UInt8) (m : Nat), sv = .string ⟨r.toArray⟩ ∧ nv = .int .i64 (m : Int) ∧ gg = r.length ∧ r.length ≤ 50000 ∧ L.length ≤ 50000 ∧ m ≤ 50001 ∧ Hid (m = L.length + 1) ∧ Hid (l = fmtT L ++ r ∧ good L) ∧ Hid (Tr w.heap.size t L wr ∧ Grew w wr))
  case atStart => exact ⟨[], l, 1, rfl, rfl, rfl, hl, by simp, by omega, Lib.hid rfl, Lib.hid ⟨by simp [fmtT], good_nil⟩, HS⟩
  clear HS
  case round =>
    obtain ⟨L, r, m, rfl, rfl, rfl, hr5, hL5, hm5, HM, HH, HT⟩ := hrel
    by_cases hr : r = []
    · subst hr
      go_wp2
      refine bodyPost_ret (v := .tuple #[.pointer (some ⟨t, 0, none⟩), .int .i64 0, .int .i64 0]) (by simp [results, Tryd.results20, go_sem]) rfl ?_
      exact ⟨L, [], ⟨HH.out.1, HH.out.2, .inl rfl⟩, .inl ⟨rfl, t, rfl, HT.out.1⟩, HT.out.2⟩
    · have HNE := Lib.hid hr
      have hrb : (r == []) = false := by rw [beq_eq_false_iff_ne]; exact hr
      have hc0 := cut_any r [10] (by omega) wr (HE.out.grew HT.out.2)
      rcases cut_one r 10 with ⟨hno, hc⟩ | ⟨p, q, hpq, hp, hc⟩
      · rw [hc] at hc0
        have HC := Lib.hid hc0
        have HP := Lib.hid (fun W hW => pchg_any r (by omega) W hW)
        have HB : Hid (Bad L r) := Lib.hid (bad_no hno)
        clear hc hc0 hno hr
        go_wp2_with (first
          | (go_at_call 29; (with_reducible refine (HC.out).mono ?_); rintro e w1 ⟨rfl, g1⟩; have HT1 := Lib.hid (HT.out.1.grew g1); have HG1 := Lib.hid (HT.out.2.trans g1); clear g1)
          | (go_at_call 30; (with_reducible refine (HP.out _ (HE.out.grew HG1.out)).mono ?_); rintro e w2 ⟨cc, ok, rfl, hy, hn, g2⟩; have HY := Lib.hid hy; have HN := Lib.hid hn; have HT2 := Lib.hid (HT1.out.grew g2); have HG2 := Lib.hid (HG1.out.trans g2); clear g2 hy hn))
        all_goals
          refine bodyPost_ret (v := .tuple #[.pointer none, .int .i64 m, .int .i64 2]) (by simp [results, Tryd.results20, go_sem]) rfl ?_
          exact ⟨L, r, ⟨HH.out.1, HH.out.2, .inr HB.out⟩, .inr ⟨HNE.out, by rw [HM.out]⟩, HG2.out.alloc _⟩
      · rw [hc] at hc0
        have HC := Lib.hid hc0
        have hpl : p.length ≤ 50000 ∧ q.length < r.length := by rw [hpq] at hr5; rw [hpq]; simp at hr5 ⊢; omega
        have HP := Lib.hid (fun W hW => pchg_any p (by omega) W hW)
        have HPQ := Lib.hid (And.intro hpq hp)
        have HPL := Lib.hid hpl.2
        have hlen : L.length + 1 ≤ l.length := by
          have h1 := HH.out.1
          have h2 := fmtT_ge L
          rw [h1, hpq]
          simp; omega
        have HAS : Hid (asc (-1) L = true) := Lib.hid HH.out.2.1
        have HLL : Hid (L.length + 1 ≤ 50000) := Lib.hid (by omega)
        clear hc hc0 hp hpq hr hpl hlen
        go_wp2_with (first
          | (go_at_call 29; (with_reducible refine (HC.out).mono ?_); rintro e w1 ⟨rfl, g1⟩; have HT1 := Lib.hid (HT.out.1.grew g1); have HG1 := Lib.hid (HT.out.2.trans g1); clear g1)
          | (go_at_call 30; (with_reducible refine (HP.out _ (HE.out.grew HG1.out)).mono ?_); rintro e w2 ⟨cc, ok, rfl, hy, hn, g2⟩; have HY := Lib.hid hy; have HN := Lib.hid hn; have HT2 := Lib.hid (HT1.out.grew g2); have HG2 := Lib.hid (HG1.out.trans g2); clear g2 hy hn)
          | (go_at_call 31; (with_reducible refine (add_any w.heap.size t L cc _ (HT2.out.grew ((Grew.refl _).alloc _)) HAS.out (by omega) (HG2.out.alloc _).sz).mono ?_); rintro e w3 ⟨rfl, h1, h2⟩; have HT3 := Lib.hid h1; have HG3 := Lib.hid ((HG2.out.alloc _).below h2); clear h1 h2; generalize hgb : okAdd L cc = bb; have HOK := Lib.hid hgb; rw [hgb] at HT3; clear hgb))
        · rename_i hok hbb
          have hb2 : bb = false := by simpa using hbb
          obtain ⟨e1, e2, e3⟩ := HY.out hok
          have HB : Hid (Bad L r) := Lib.hid (by rw [HPQ.out.1, e1]; exact bad_add (by rw [HOK.out, hb2]))
          refine bodyPost_ret (v := .tuple #[.pointer none, .int .i64 m, .int .i64 2]) (by simp [results, Tryd.results20, go_sem]) rfl ?_
          exact ⟨L, r, ⟨HH.out.1, HH.out.2, .inr HB.out⟩, .inr ⟨HNE.out, by rw [HM.out]⟩, HG3.out⟩
        · rename_i hok hbb
          have hb2 : bb = true := by simpa using hbb
          obtain ⟨e1, e2, e3⟩ := HY.out hok
          rw [if_pos hb2] at HT3
          have HG' : Hid (l = fmtT (L ++ [cc]) ++ q ∧ good (L ++ [cc])) := Lib.hid ⟨by rw [HH.out.1, HPQ.out.1, e1, fmtT_snoc]; simp, HH.out.2.snoc (by rw [HOK.out, hb2]) e3⟩
          clear e1 e2 e3 hbb hb2
          go_roundg q.length
          case measure => exact HPL.out
          case rel => exact ⟨L ++ [cc], q, m + 1, rfl, by go_num, rfl, (by have := HPL.out; omega), (by have := HLL.out; simp; omega), (by have := HLL.out; have := HM.out; omega), Lib.hid (by rw [HM.out]; simp), HG', Lib.hid ⟨HT3.out, HG3.out⟩⟩
        · rename_i hok
          have hok2 : ok = false := by simpa using hok
          have HB : Hid (Bad L r) := Lib.hid (by rw [HPQ.out.1]; exact bad_line HPQ.out.2 (HN.out hok2))
          refine bodyPost_ret (v := .tuple #[.pointer none, .int .i64 m, .int .i64 2]) (by simp [results, Tryd.results20, go_sem]) rfl ?_
          exact ⟨L, r, ⟨HH.out.1, HH.out.2, .inr HB.out⟩, .inr ⟨HNE.out, by rw [HM.out]⟩, HG2.out.alloc _⟩
end Go.Proofs.YtaehlpdnjfblbaaDoor
