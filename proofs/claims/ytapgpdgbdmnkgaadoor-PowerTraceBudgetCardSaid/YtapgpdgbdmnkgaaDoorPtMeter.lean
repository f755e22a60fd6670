/-
  CONTRACTS OF LAYER 13 (powertrace): the program's meter.
-/
import Derived.Test.YtapgpdgbdmnkgaaDoorPtLists
namespace Go.Proofs.YtapgpdgbdmnkgaaDoor
open Go Go.RowKit Go.IntWalk
open Go.Lib (itoa)
set_option linter.unusedSimpArgs false
set_option linter.unusedVariables false
set_option maxRecDepth 8000

/-- A slice of periods whose block is known to be one of periods. -/
def Row (w : World) (p : Option Addr) (c : Nat) (xs : List It) : Prop := Rw 2 itc w p c xs ∧ ∀ a, p = some a → (∃ b o, a = ⟨b, o, none⟩) ∧ ∃ cur, w.heap[a.block]? = some (.cells cur 52 (0, 0))
theorem Row.grew {w w' : World} {p : Option Addr} {c : Nat} {xs : List It} (h : Row w p c xs) (hg : Grew w w') : Row w' p c xs :=
  ⟨h.1.kept hg, fun a ha => ⟨(h.2 a ha).1, by obtain ⟨cur, hc⟩ := (h.2 a ha).2; exact ⟨cur, hg.heap hc⟩⟩⟩
theorem Row.chg {w w' : World} {p : Option Addr} {c : Nat} {xs : List It} {S : Nat → Prop} (h : Row w p c xs) (hc : Chg w w' S) (hS : ∀ k, S k → ∃ vs e, Blk k vs e w ∧ e ≠ 52) : Row w' p c xs := by
  have key : ∀ a, p = some a → ¬ S a.block := fun a ha hs => by
    obtain ⟨vs, e, hb, hne⟩ := hS _ hs
    obtain ⟨cur, hk⟩ := (h.2 a ha).2
    have hb' : w.heap[a.block]? = _ := hb
    rw [hk] at hb'
    simp only [Option.some.injEq, Obj.cells.injEq] at hb'
    exact hne hb'.2.1.symm
  exact ⟨h.1.chg hc key, fun a ha => ⟨(h.2 a ha).1, by
    obtain ⟨cur, hk⟩ := (h.2 a ha).2
    exact ⟨cur, (hc.block _ (lt_of_heap hk) (key a ha)).trans hk⟩⟩⟩
theorem Row.of_own {w : World} {base : Nat} {p : Option Addr} {n c : Nat} {xs : List It} (h : OwR w base 52 2 itc (.slice p n c) xs) : Row w p c xs :=
  ⟨(h.rd encI).2, fun a ha => ⟨by
    obtain ⟨p', c', hv, _, hb⟩ := h.parts encI
    simp only [Value.slice.injEq] at hv
    obtain ⟨rfl, rfl, rfl⟩ := hv
    rcases hb with ⟨rfl, _⟩ | ⟨g, cur, rfl, _⟩
    · cases ha
    · exact ⟨g, 0, (Option.some.inj ha).symm⟩, h.kind encI a ha⟩⟩
theorem Row.tail {w : World} {b o c : Nat} {x : It} {r : List It} (h : Row w (some ⟨b, o, none⟩) c (x :: r)) : Row w (some ⟨b, if c = 1 then o else o + 2, none⟩) (c - 1) r := by
  have hcap := h.1.cap
  have hmax := h.1.max
  simp only [List.length_cons] at hcap
  obtain ⟨_, cur, hk⟩ := h.2 _ rfl
  refine ⟨⟨⟨by omega, by omega, fun hn => ⟨b, if c = 1 then o else o + 2, rfl, fun i y hi j v hv => ?_⟩⟩, fun h => by cases h⟩, fun a ha => ⟨⟨b, _, (Option.some.inj ha).symm⟩, cur, by cases ha; exact hk⟩⟩
  have h1 := h.1.cell (i := i + 1) (x := y) (by simpa using hi) hv
  have hr : 0 < r.length := hn
  rw [if_neg (by omega)]
  rwa [show o + (i + 1) * 2 + j = o + 2 + i * 2 + j by omega] at h1
/-- The meter at q. -/
def MtA (q : Nat) (m : Mt) (w : World) : Prop := ∃ p c, Blk q [.slice p m.rest.length c, .int .i64 m.left, .bool m.dark, .int .i64 (m.count : Int)] 72 w ∧ Row w p c m.rest
theorem MtA.grew {q : Nat} {m : Mt} {w w' : World} (h : MtA q m w) (hg : Grew w w') : MtA q m w' := by
  obtain ⟨p, c, h1, h2⟩ := h
  exact ⟨p, c, h1.grew hg, h2.grew hg⟩
theorem MtA.lt {q : Nat} {m : Mt} {w : World} (h : MtA q m w) : q < w.heap.size := by
  obtain ⟨p, c, h1, _⟩ := h
  exact h1.lt
/-- It stays where only blocks of other types change. -/
theorem MtA.chg {q : Nat} {m : Mt} {w w' : World} {S : Nat → Prop} (h : MtA q m w) (hc : Chg w w' S) (hS : ∀ k, S k → ∃ vs e, Blk k vs e w ∧ e ≠ 52 ∧ e ≠ 72) : MtA q m w' := by
  obtain ⟨p, c, h1, h2⟩ := h
  refine ⟨p, c, h1.chg hc fun hs => ?_, h2.chg hc fun k hk => ?_⟩
  · obtain ⟨vs, e, hb, _, hne⟩ := hS _ hs
    exact hb.ne h1 hne rfl
  · obtain ⟨vs, e, hb, hne, _⟩ := hS _ hk
    exact ⟨vs, e, hb, hne⟩
theorem chg_q {q : Nat} {vs : List Value} {w w' : World} (h : Blk q vs 72 w) (hc : Chg w w' (fun k => k = q)) {p : Option Addr} {c : Nat} {xs : List It} (hr : Row w p c xs) : Row w' p c xs :=
  hr.chg hc fun k hk => ⟨vs, 72, by rw [show k = q from hk]; exact h, by decide⟩
set_option maxHeartbeats 1000000 in
theorem begin_any (q n c cnt : Nat) (p : Option Addr) (left : Int) (d : Bool) (xs : List It) (w : World) (hB : Blk q [.slice p n c, .int .i64 left, .bool d, .int .i64 (cnt : Int)] 72 w) (hR : Row w p c xs) (hn : xs.length = n) :
    Calls Tryd.prog 41 #[.pointer (some ⟨q, 0, none⟩)] w fun e w' => (∃ v, e = .returned v) ∧ Blk q [.slice p n c, .int .i64 (leftOf xs left), .bool false, .int .i64 (cnt : Int)] 72 w' ∧ Chg w w' (fun k => k = q) := by
  have b0 := hB.cell 0
  have b1 := hB.cell 1
  have b2 := hB.cell 2
  have b3 := hB.cell 3
  have bf := hB.free
  have bl := hB.lt
  simp only [List.getElem?_cons_zero, List.getElem?_cons_succ] at b0 b1 b2 b3
  have HQ := Lib.hid hB
  subst hn
  cases xs with
  | nil =>
    clear hB hR
    go_enter Tryd.func41, Tryd.ntmps41
    go_wp2
    go_end0
    refine ⟨⟨_, rfl⟩, ?_, Chg.set w ⟨q, 2, none⟩ _⟩
    simpa [leftOf] using HQ.out.set 2 (.bool false)
  | cons x r =>
    obtain ⟨b, o, rfl, hcc⟩ := hR.1.rd.cells (by simp)
    have d0 := hR.1.cell (i := 0) (x := x) rfl (j := 0) rfl
    simp only [Nat.zero_mul, Nat.add_zero] at d0
    have hmax := hR.1.max
    have hcap := hR.1.cap
    have hbl := World.block_lt_of_cell? _ _ d0
    obtain ⟨_, cur, hk⟩ := hR.2 _ rfl
    have hqb : b ≠ q := fun e => by
      have h1 : w.heap[q]? = _ := hB
      rw [← e] at h1
      rw [hk] at h1
      simp only [Option.some.injEq, Obj.cells.injEq] at h1
      exact absurd h1.2.1 (by decide)
    have HC := Lib.hid ((Chg.set w ⟨q, 2, none⟩ (.bool false)).then_set ⟨q, 1, none⟩ (.int .i64 x.1) rfl)
    simp only [List.length_cons] at b0 HQ hcap ⊢
    clear hB hR hcc hk
    go_enter Tryd.func41, Tryd.ntmps41
    go_wp2
    go_end0
    refine ⟨⟨_, rfl⟩, ?_, HC.out⟩
    simpa [leftOf] using (HQ.out.set 2 (.bool false)).set 1 (.int .i64 x.1)
set_option maxHeartbeats 1000000 in
theorem start_ok (p : Option Addr) (n c : Nat) (xs : List It) (w : World) (h : Row w p c xs) (hn : xs.length = n) (hl : n ≤ 100000) (hok : okL xs = true) :
    Calls Tryd.prog 20 #[.slice p n c] w fun e w' => ∃ q, e = .returned (.tuple #[.pointer (some ⟨q, 0, none⟩), .int .i64 0]) ∧ MtA q (Mt.start xs) w' ∧ w.heap.size ≤ q ∧ Grew w w' := by
  have HV := Lib.hid (valid_any p n c xs w h.1 hn)
  rw [hok] at HV
  have HC := Lib.hid (fun (W : World) (hg : Grew w W) => clone_any p n c xs W (h.1.kept hg) hn hl (fun a ha => (h.2 a ha).1))
  have HN := Lib.hid hn
  clear h hn
  go_enter Tryd.func20, Tryd.ntmps20
  go_wp2_with (first
    | (go_at_call 14; (with_reducible refine (HV.out).mono ?_); rintro e w1 ⟨rfl, g1⟩; have HG1 := Lib.hid g1; clear g1)
    | (go_at_call 40; (with_reducible refine (HC.out _ HG1.out).mono ?_); rintro e w2 ⟨p', c', rfl, ho, g2⟩; have HO := Lib.hid ho; have HG2 := Lib.hid (HG1.out.trans g2); clear ho g2)
    | (go_at_call 41; generalize hW : World.alloc _ _ = V; have hB : Blk w2.heap.size [.slice p' n c', .int .i64 0, .bool false, .int .i64 ((0 : Nat) : Int)] 72 V := (by subst hW; exact Blk.new w2 _ _); have hg : Grew w2 V := (by subst hW; exact (Grew.refl _).alloc _); clear hW; (with_reducible refine (begin_any w2.heap.size n c' 0 p' 0 false xs V hB ((Row.of_own HO.out).grew hg) HN.out).mono ?_); rintro e w3 ⟨⟨v3, rfl⟩, hb3, hc3⟩; have HR3 := Lib.hid (chg_q hB hc3 ((Row.of_own HO.out).grew hg)); have HB3 := Lib.hid hb3; have HG3 := Lib.hid (grew_lift (HG2.out.trans hg) hc3 (fun k hk => by have hk' : k = w2.heap.size := hk; have := HG2.out.sz; omega)); clear hB hg hb3 hc3))
  refine bodyPost_ret (v := .tuple #[.pointer (some ⟨w2.heap.size, 0, none⟩), .int .i64 0]) (by simp [results, Tryd.results20, go_sem]) rfl ?_
  have hb := HB3.out
  refine ⟨w2.heap.size, rfl, ⟨p', c', ?_, HR3.out⟩, HG2.out.sz, HG3.out⟩
  show Blk _ [.slice p' xs.length c', _, _, _] _ _
  rw [HN.out]
  exact hb
theorem start_no (p : Option Addr) (n c : Nat) (xs : List It) (w : World) (h : Row w p c xs) (hn : xs.length = n) (hok : okL xs = false) :
    Calls Tryd.prog 20 #[.slice p n c] w fun e w' => e = .returned (.tuple #[.pointer none, .int .i64 1]) ∧ Grew w w' := by
  have HV := Lib.hid (valid_any p n c xs w h.1 hn)
  rw [hok] at HV
  clear h hn
  go_enter Tryd.func20, Tryd.ntmps20
  go_wp2_with (go_at_call 14; (with_reducible refine (HV.out).mono ?_); rintro e w1 ⟨rfl, g1⟩; have HG1 := Lib.hid g1; clear g1)
  refine bodyPost_ret (v := .tuple #[.pointer none, .int .i64 1]) (by simp [results, Tryd.results20, go_sem]) rfl ?_
  exact ⟨rfl, HG1.out⟩
/-- What a method of the meter leaves behind. -/
def Did (q : Nat) (m : Mt) (w w' : World) : Prop := MtA q m w' ∧ Chg w w' (fun k => k = q)
set_option maxHeartbeats 1000000 in
theorem spend_any (q : Nat) (m : Mt) (n : Int) (w : World) (h : MtA q m w) (hg : m.good) (hn : -9223372036854775808 ≤ n ∧ n ≤ 9223372036854775807) (hc : m.count ≤ 1000000) :
    Calls Tryd.prog 23 #[.pointer (some ⟨q, 0, none⟩), .int .i64 n] w fun e w' => e = .returned (.bool (m.spent n)) ∧ Did q (m.spend n) w w' := by
  obtain ⟨p, c, hB, hR⟩ := h
  have b0 := hB.cell 0
  have b1 := hB.cell 1
  have b2 := hB.cell 2
  have b3 := hB.cell 3
  have bf := hB.free
  have bl := hB.lt
  simp only [List.getElem?_cons_zero, List.getElem?_cons_succ] at b0 b1 b2 b3
  have HQ := Lib.hid hB
  have HR := Lib.hid hR
  obtain ⟨rest, left, dark, count⟩ := m
  simp only at b0 b1 b2 b3 HQ HR hc
  obtain ⟨-, -, hg3⟩ := hg
  cases dark with
  | true =>
    have HM : Hid (MtA q ⟨rest, left, true, count⟩ w) := Lib.hid ⟨p, c, HQ.out, HR.out⟩
    clear hB hR
    go_enter Tryd.func23, Tryd.ntmps23
    go_wp2
    go_ret
    exact ⟨rfl, HM.out, Chg.refl _ _⟩
  | false =>
    cases rest with
    | nil =>
      have HM : Hid (MtA q ⟨[], left, false, count⟩ w) := Lib.hid ⟨p, c, HQ.out, HR.out⟩
      simp only [List.length_nil] at b0
      clear hB hR hg3
      go_enter Tryd.func23, Tryd.ntmps23
      go_wp2
      go_ret
      exact ⟨rfl, HM.out, Chg.refl _ _⟩
    | cons x r =>
      obtain ⟨l0, l1⟩ := hg3 (by simp)
      simp only at l0 l1
      simp only [List.length_cons] at b0 HQ
      have hmx : max n 0 = if n < 0 then 0 else n := by split <;> omega
      by_cases hlt : left < max n 0
      · have HS : Hid ((⟨x :: r, left, false, count⟩ : Mt).spend n = ⟨x :: r, 0, true, count + 1⟩ ∧ (⟨x :: r, left, false, count⟩ : Mt).spent n = false) := Lib.hid ⟨by simp [Mt.spend, hlt], by simp [Mt.spent, hlt]⟩
        have hn0 : 0 < n := by omega
        have hnl : left < n := by omega
        have hm0 : max n 0 = n := by omega
        have HB1 := Lib.hid (((HQ.out.set 1 (.int .i64 0)).set 2 (.bool true)).set 3 (.int .i64 ((count + 1 : Nat) : Int)))
        have HC := Lib.hid (((Chg.set w ⟨q, 1, none⟩ (.int .i64 0)).then_set ⟨q, 2, none⟩ (.bool true) rfl).then_set ⟨q, 3, none⟩ (.int .i64 ((count + 1 : Nat) : Int)) rfl)
        clear hB hR hlt hmx hg3
        go_enter Tryd.func23, Tryd.ntmps23
        go_wp2
        all_goals first | (exfalso; omega) | skip
        go_ret
        refine ⟨ret_bool HS.out.2.symm, ?_⟩
        rw [HS.out.1]
        have hcc : ((count : Int) + 1) = ((count + 1 : Nat) : Int) := by omega
        rw [hcc]
        exact ⟨⟨p, c, by simpa using HB1.out, chg_q HQ.out HC.out HR.out⟩, HC.out⟩
      · have HS : Hid ((⟨x :: r, left, false, count⟩ : Mt).spend n = ⟨x :: r, left - max n 0, false, count⟩ ∧ (⟨x :: r, left, false, count⟩ : Mt).spent n = true) := Lib.hid ⟨by simp [Mt.spend, hlt], by simp [Mt.spent, hlt]⟩
        have HB1 := Lib.hid (fun z : Int => HQ.out.set 1 (.int .i64 z))
        have HC := Lib.hid (fun z : Int => Chg.set w ⟨q, 1, none⟩ (.int .i64 z))
        clear hB hR hg3
        by_cases hn0 : 0 < n
        · have hm0 : max n 0 = n := by omega
          rw [hm0] at HS
          have hnl : ¬ left < n := by omega
          clear hlt hmx
          go_enter Tryd.func23, Tryd.ntmps23
          go_wp2
          all_goals first | (exfalso; omega) | skip
          go_ret
          refine ⟨ret_bool HS.out.2.symm, ?_⟩
          rw [HS.out.1]
          exact ⟨⟨p, c, by simpa using HB1.out (left - n), chg_q HQ.out (HC.out _) HR.out⟩, HC.out _⟩
        · have hm0 : max n 0 = 0 := by omega
          rw [hm0] at HS
          have hnl : ¬ left < 0 := by omega
          clear hlt hmx
          go_enter Tryd.func23, Tryd.ntmps23
          go_wp2
          all_goals first | (exfalso; omega) | skip
          go_ret
          refine ⟨ret_bool HS.out.2.symm, ?_⟩
          rw [HS.out.1]
          exact ⟨⟨p, c, by simpa using HB1.out (left - 0), chg_q HQ.out (HC.out _) HR.out⟩, by simpa using HC.out (left - 0)⟩
theorem Blk.fit {S : Nat} {vs us : List Value} {e : TypeId} {w : World} (h : Blk S vs e w) (hv : vs = us) : Blk S us e w := hv ▸ h
set_option maxHeartbeats 1000000 in
theorem next_any (q : Nat) (m : Mt) (w : World) (h : MtA q m w) (hg : m.good) :
    Calls Tryd.prog 25 #[.pointer (some ⟨q, 0, none⟩)] w fun e w' => e = .returned (.tuple #[.int .i64 m.off, .bool m.dark]) ∧ Did q m.next w w' := by
  obtain ⟨p, c, hB, hR⟩ := h
  have b0 := hB.cell 0
  have b1 := hB.cell 1
  have b2 := hB.cell 2
  have b3 := hB.cell 3
  have bf := hB.free
  have bl := hB.lt
  simp only [List.getElem?_cons_zero, List.getElem?_cons_succ] at b0 b1 b2 b3
  have HQ := Lib.hid hB
  have HR := Lib.hid hR
  obtain ⟨rest, left, dark, count⟩ := m
  simp only at b0 b1 b2 b3 HQ HR
  obtain ⟨-, hg2, -⟩ := hg
  cases dark with
  | false =>
    have HM : Hid (MtA q ⟨rest, left, false, count⟩ w) := Lib.hid ⟨p, c, HQ.out, HR.out⟩
    clear hB hR hg2
    go_enter Tryd.func25, Tryd.ntmps25
    go_wp2
    refine bodyPost_ret (v := .tuple #[.int .i64 0, .bool false]) (by simp [results, Tryd.results25, go_sem]) rfl ?_
    exact ⟨rfl, HM.out, Chg.refl _ _⟩
  | true =>
    cases rest with
    | nil => exact absurd rfl (hg2 rfl)
    | cons x r =>
      clear hg2
      obtain ⟨b, o, rfl, hcc⟩ := HR.out.1.rd.cells (by simp)
      have d1 := HR.out.1.cell (i := 0) (x := x) rfl (j := 1) rfl
      simp only [Nat.zero_mul, Nat.add_zero] at d1
      have hmax := HR.out.1.max
      have hcap := HR.out.1.cap
      have hbl := World.block_lt_of_cell? _ _ d1
      have HT := Lib.hid HR.out.tail
      simp only [List.length_cons] at b0 HQ hcap
      have HX : Hid ((⟨x :: r, left, true, count⟩ : Mt).off = x.2 ∧ (⟨x :: r, left, true, count⟩ : Mt).next = ⟨r, leftOf r left, false, count⟩) := Lib.hid ⟨rfl, rfl⟩
      obtain ⟨o', ho'⟩ : ∃ o', o' = if c = 1 then o else o + 2 := ⟨_, rfl⟩
      rw [← ho'] at HT
      have HB1 := Lib.hid (HQ.out.set 0 (.slice (some ⟨b, o', none⟩) r.length (c - 1)))
      have HC1 := Lib.hid (Chg.set w ⟨q, 0, none⟩ (.slice (some ⟨b, o', none⟩) r.length (c - 1)))
      have HT1 := Lib.hid (chg_q HQ.out HC1.out HT.out)
      have HBG := Lib.hid (begin_any q r.length (c - 1) count (some ⟨b, o', none⟩) left true r _ (HB1.out.fit (us := [.slice (some ⟨b, o', none⟩) r.length (c - 1), .int .i64 left, .bool true, .int .i64 (count : Int)]) rfl) HT1.out rfl)
      clear hB hR hcc
      by_cases hc1 : c = 1
      · rw [if_pos hc1] at ho'
        subst ho' hc1
        have hr0 : r.length = 0 := by omega
        rw [hr0] at b0 HB1 HC1 HBG HT1
        simp only [Nat.zero_add, Nat.sub_self] at b0 HB1 HC1 HBG HT1 hcap
        go_enter Tryd.func25, Tryd.ntmps25
        go_wp2_with (go_at_call 41; (with_reducible refine (HBG.out).mono ?_); rintro e w2 ⟨⟨v2, rfl⟩, hb2, hc2⟩; have HB2 := Lib.hid hb2; have HC2 := Lib.hid hc2; clear hb2 hc2)
        refine bodyPost_ret (v := .tuple #[.int .i64 x.2, .bool true]) (by simp [results, Tryd.results25, go_sem]) rfl ?_
        refine ⟨by rw [HX.out.1], ?_⟩
        rw [HX.out.2]
        refine ⟨⟨some ⟨b, o', none⟩, 0, HB2.out.fit (by rw [← hr0]), ?_⟩, HC1.out.trans HC2.out⟩
        exact chg_q (HB1.out) HC2.out HT1.out
      · rw [if_neg hc1] at ho'
        subst ho'
        have hc2 : 1 < c := by omega
        have hc3 : ¬ (c : Int) = 1 := by omega
        go_enter Tryd.func25, Tryd.ntmps25
        go_wp2_with (go_at_call 41; (with_reducible refine (HBG.out).mono ?_); rintro e w2 ⟨⟨v2, rfl⟩, hb2, hc2⟩; have HB2 := Lib.hid hb2; have HC2 := Lib.hid hc2; clear hb2 hc2)
        refine bodyPost_ret (v := .tuple #[.int .i64 x.2, .bool true]) (by simp [results, Tryd.results25, go_sem]) rfl ?_
        refine ⟨by rw [HX.out.1], ?_⟩
        rw [HX.out.2]
        refine ⟨⟨some ⟨b, o + 2, none⟩, c - 1, HB2.out, ?_⟩, HC1.out.trans HC2.out⟩
        exact chg_q (HB1.out) HC2.out HT1.out
theorem failed_any (q : Nat) (m : Mt) (w : World) (h : MtA q m w) : Calls Tryd.prog 26 #[.pointer (some ⟨q, 0, none⟩)] w fun e w' => e = .returned (.bool m.dark) ∧ w' = w := by
  obtain ⟨p, c, hB, hR⟩ := h
  have b0 := hB.cell 0
  have b1 := hB.cell 1
  have b2 := hB.cell 2
  have b3 := hB.cell 3
  have bf := hB.free
  have bl := hB.lt
  simp only [List.getElem?_cons_zero, List.getElem?_cons_succ] at b0 b1 b2 b3
  clear hB hR
  go_enter Tryd.func26, Tryd.ntmps26
  go_wp2
  go_ret
  exact ⟨rfl, rfl⟩
theorem periods_any (q : Nat) (m : Mt) (w : World) (h : MtA q m w) : Calls Tryd.prog 28 #[.pointer (some ⟨q, 0, none⟩)] w fun e w' => e = .returned (.int .i64 (m.count : Int)) ∧ w' = w := by
  obtain ⟨p, c, hB, hR⟩ := h
  have b0 := hB.cell 0
  have b1 := hB.cell 1
  have b2 := hB.cell 2
  have b3 := hB.cell 3
  have bf := hB.free
  have bl := hB.lt
  simp only [List.getElem?_cons_zero, List.getElem?_cons_succ] at b0 b1 b2 b3
  clear hB hR
  go_enter Tryd.func28, Tryd.ntmps28
  go_wp2
  go_ret
  exact ⟨rfl, rfl⟩
theorem left_any (q : Nat) (m : Mt) (w : World) (h : MtA q m w) : Calls Tryd.prog 27 #[.pointer (some ⟨q, 0, none⟩)] w fun e w' => e = .returned (.int .i64 m.shown) ∧ w' = w := by
  obtain ⟨p, c, hB, hR⟩ := h
  have b0 := hB.cell 0
  have b1 := hB.cell 1
  have b2 := hB.cell 2
  have b3 := hB.cell 3
  have bf := hB.free
  have bl := hB.lt
  simp only [List.getElem?_cons_zero, List.getElem?_cons_succ] at b0 b1 b2 b3
  obtain ⟨rest, left, dark, count⟩ := m
  clear hB hR
  cases rest with
  | nil =>
    simp only [List.length_nil] at b0
    go_enter Tryd.func27, Tryd.ntmps27
    go_wp2
    go_ret
    exact ⟨rfl, rfl⟩
  | cons x r =>
    simp only [List.length_cons] at b0
    go_enter Tryd.func27, Tryd.ntmps27
    go_wp2
    go_ret
    exact ⟨rfl, rfl⟩
end Go.Proofs.YtapgpdgbdmnkgaaDoor
