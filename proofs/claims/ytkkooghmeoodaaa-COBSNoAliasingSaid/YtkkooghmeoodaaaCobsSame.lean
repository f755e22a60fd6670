/-
  CONTRACTS OF THE REFERENCE OF LAYER 3 (cobs): SamePackets, Split.
-/
import Derived.Test.YtkkooghmeoodaaaCobsWrite2
namespace Go.Proofs.Ytkkooghmeoodaaa
open Go Go.RowKit Go.IntWalk
set_option linter.unusedSimpArgs false

theorem same_next {la lb : List Pk} {k : Nat} (ha : k < la.length) (hb : k < lb.length) (h : (la.map Pk.x).take k = (lb.map Pk.x).take k) : ((la.map Pk.x).take (k + 1) = (lb.map Pk.x).take (k + 1)) ↔ la[k].x = lb[k].x := by
  rw [List.take_add_one, List.take_add_one, h]
  simp [ha, hb]
theorem same_not {la lb : List Pk} {k : Nat} (ha : k < la.length) (hb : k < lb.length) (h : la[k].x ≠ lb[k].x) : la.map Pk.x ≠ lb.map Pk.x := by
  intro e
  have := congrArg (fun l => l[k]?) e
  simp [ha, hb] at this
  exact h this

set_option maxRecDepth 20000 in
set_option maxHeartbeats 1000000 in
theorem samepk_any (p : Option Addr) (n c : Nat) (la : List Pk) (q : Option Addr) (m d : Nat) (lb : List Pk) (w : World) (hn : la.length = n) (h : BinV w p c (pkv la)) (hm : lb.length = m) (h' : BinV w q d (pkv lb)) (hba : ∀ t ∈ la, Bin w t.p t.c t.x) (hbb : ∀ t ∈ lb, Bin w t.p t.c t.x) :
    Calls Try.prog 22 #[.slice p n c, .slice q m d] w fun e w' => e = .returned (.bool (decide (la.map Pk.x = lb.map Pk.x))) ∧ Below w.heap.size w w' := by
  subst hn hm
  by_cases hl : la.length = lb.length
  · by_cases h0 : la.length = 0
    · obtain rfl : la = [] := List.eq_nil_of_length_eq_zero h0
      obtain rfl : lb = [] := List.eq_nil_of_length_eq_zero (by omega)
      go_enter Try.func22, Try.ntmps22
      go_wp2_with fail
      refine wp_loop_rounds 1 ?_
      rw [rounds_succ]
      go_wp2_with fail
      go_ret
      exact ⟨rfl, Below.refl _ _⟩
    · have hL := hl
      obtain ⟨L, hLa⟩ : ∃ L, L = la.length := ⟨_, rfl⟩
      have hLb : L = lb.length := by omega
      have hcap := h.cap
      have hmax := h.max
      have hcap' := h'.cap
      have hmax' := h'.max
      rw [pkv_len] at hcap hcap'
      obtain ⟨b, o, rfl, hc⟩ := h.cells (by rw [pkv_len]; omega)
      obtain ⟨b', o', rfl, hc'⟩ := h'.cells (by rw [pkv_len]; omega)
      have HC := Lib.hid hc
      have HC' := Lib.hid hc'
      have HA := Lib.hid hba
      have HBb := Lib.hid hbb
      rw [← hLa] at hcap ⊢
      rw [← hLb] at hcap' ⊢
      have HLa := Lib.hid hLa
      have HLb := Lib.hid hLb
      have hL0 : 0 < L := by omega
      clear hc hc' hba hbb h h' hl hL hLa hLb h0
      go_enter Try.func22, Try.ntmps22
      go_wp2_with fail
      go_loopg [5] L (fun g i wr => ∃ k : Nat, i = .int .i64 k ∧ k ≤ L ∧ g = L - k ∧ Hid (Below w.heap.size w wr) ∧ Hid ((la.map Pk.x).take k = (lb.map Pk.x).take k))
      case atStart => exact ⟨0, rfl, by omega, rfl, Below.refl _ _, rfl⟩
      case round =>
        obtain ⟨k, rfl, hk, rfl, hbw, heq⟩ := hrel
        by_cases hkL : k < L
        · have hkL' : (k : Int) < L := by omega
          have hka : k < la.length := by rw [← HLa.out]; exact hkL
          have hkb : k < lb.length := by rw [← HLb.out]; exact hkL
          obtain ⟨⟨pa, ca, xa⟩, hta⟩ : ∃ t, t = la[k] := ⟨_, rfl⟩
          obtain ⟨⟨pb, cb, xb⟩, htb⟩ : ∃ t, t = lb[k] := ⟨_, rfl⟩
          have hca : w.cell? ⟨b, o + k, none⟩ = some (.slice pa xa.length ca) := by rw [HC.out k _ (pkv_get la k hka), ← hta]; rfl
          have hcb : w.cell? ⟨b', o' + k, none⟩ = some (.slice pb xb.length cb) := by rw [HC'.out k _ (pkv_get lb k hkb), ← htb]; rfl
          have hca1 : wr.cell? ⟨b, o + k, none⟩ = some (.slice pa xa.length ca) := (hbw.out.cell (World.block_lt_of_cell? _ _ hca)).trans hca
          have hcb1 : wr.cell? ⟨b', o' + k, none⟩ = some (.slice pb xb.length cb) := (hbw.out.cell (World.block_lt_of_cell? _ _ hcb)).trans hcb
          have hia := Lib.hid ((HA.out la[k] (List.getElem_mem _)).kept hbw.out)
          have hib := Lib.hid ((HBb.out lb[k] (List.getElem_mem _)).kept hbw.out)
          rw [← hta] at hia
          rw [← htb] at hib
          have HN := Lib.hid (same_next hka hkb heq.out)
          have HD := Lib.hid (same_not hka hkb)
          rw [← hta, ← htb] at HN HD
          clear hca hcb hta htb hka hkb
          go_wp2_with fail
          go_region_held3 (fun W => W.cell? ⟨b, o + k, none⟩ = some (.slice pa xa.length ca) ∧ W.cell? ⟨b', o' + k, none⟩ = some (.slice pb xb.length cb) ∧ Go.Proofs.Ytkkooghmeoodaaa.Same wr W)
            (first
              | exact ⟨hca1, hcb1, (Go.Proofs.Ytkkooghmeoodaaa.Same.refl _).drew⟩
              | exact hHeld)
            (first
              | (go_simp; go_at_call 12; (with_reducible refine (same_any _ _ _ xa _ _ _ xb _ rfl (hia.out.drew) rfl (hib.out.drew)).mono ?_); rintro e w1 ⟨rfl, rfl⟩))
          all_goals go_wp2_with fail
          · rename_i hne
            go_ret
            have hne : xa ≠ xb := by simpa using hne
            exact ⟨ret_bool (decide_eq_false (HD.out hne)).symm, hbw.out.trans ((Go.Proofs.Ytkkooghmeoodaaa.Same.refl wr).drew.below _)⟩
          · rename_i he
            have he : xa = xb := by simpa using he
            go_roundg (L - (k + 1))
            case measure => omega
            case rel => exact ⟨k + 1, by go_num, by omega, rfl, hbw.out.trans ((Go.Proofs.Ytkkooghmeoodaaa.Same.refl wr).drew.below _), HN.out.2 he⟩
        · obtain rfl : k = L := by omega
          go_wp2_with fail
          go_ret
          refine ⟨ret_bool ?_, hbw.out⟩
          have := heq.out
          rw [List.take_of_length_le (by simp; have := HLa.out; omega), List.take_of_length_le (by simp; have := HLb.out; omega)] at this
          exact (decide_eq_true this).symm
  · have hne : ((la.length : Int) != lb.length) = true := by simp; omega
    go_enter Try.func22, Try.ntmps22
    go_wp2_with fail
    go_ret
    refine ⟨ret_bool ?_, Below.refl _ _⟩
    have : la.map Pk.x ≠ lb.map Pk.x := fun e => hl (by have := congrArg List.length e; simpa using this)
    exact (decide_eq_false this).symm

/-- A packet as the reference has it. -/
structure PkB (w : World) (t : Pk) : Prop where
  bin : Bin w t.p t.c t.x
  typ : Typ w t.p 5
theorem PkB.kept {w w' : World} {t : Pk} (h : PkB w t) (hb : Below w.heap.size w w') : PkB w' t := ⟨h.bin.kept hb, h.typ.keep fun _ _ hl => hb.block _ hl⟩
theorem OwnV.kept {w w' : World} {base : Nat} {e : TypeId} {p : Option Addr} {n c : Nat} {vs : List Value} (h : OwnV w base e (.slice p n c) vs) (hb : Below w.heap.size w w') : OwnV w' base e (.slice p n c) vs := h.keep fun _ _ hl => hb.block _ hl
theorem list_append' {w w' : World} {base : Nat} {p : Option Addr} {n c : Nat} {us vs : List Value} {v' : Value} (h : OwnV w base 22 (.slice p n c) us) (ha : Appended w base 22 p c vs v' w') (hbase : base ≤ w.heap.size) :
    (∀ t, PkB w t → PkB w' t) ∧ Below base w w' := by
  obtain ⟨p1, c1, rfl, _, hk, _, _⟩ := id ha
  have hpk : ∀ t : Pk, PkB w t → ∀ a, t.p = some a → a.block < w.heap.size → w'.heap[a.block]? = w.heap[a.block]? := fun t ht a hta hl => hk.block a.block hl fun he => by
    cases p with
    | none => simp at he
    | some b =>
      simp at he
      obtain ⟨cs, fr, h3⟩ := ht.typ a hta
      obtain ⟨cs', fr', h4⟩ := h.parts.2.2.1 b rfl
      rw [he, h3] at h4
      simp only [Option.some.injEq, Obj.cells.injEq] at h4
      exact absurd h4.2.1 (by decide)
  refine ⟨fun t ht => ⟨ht.bin.keep fun b o hp hl => hpk t ht _ hp hl, ht.typ.keep (hpk t ht)⟩, hk.below base hbase fun k hkb he => ?_⟩
  cases p with
  | none => simp at he
  | some a =>
    simp at he
    have := (h.parts.2.2.2 a rfl).1
    omega

/-- What a call of Split returns. -/
def Splitted (most : Nat) (xs : List UInt8) (w : World) (e : Ending) (w' : World) : Prop :=
  ∃ (p' : Option Addr) (c' : Nat) (l : List Pk), e = .returned (.tuple #[.slice p' l.length c', .int .i64 ((stL most ⟨[], [], 0⟩ xs).skip : Int)]) ∧ Hid (OwnV w' w.heap.size 22 (.slice p' l.length c') (pkv l)) ∧ Hid (∀ t ∈ l, PkB w' t) ∧ Below w.heap.size w w' ∧ Hid (l.map Pk.x = (stL most ⟨[], [], 0⟩ xs).out)
theorem Splitted.mk {most : Nat} {xs : List UInt8} {w w' : World} {p' : Option Addr} {n c' sk : Nat} {l : List Pk} {cd : List UInt8} (hst : stL most ⟨[], [], 0⟩ xs = ⟨cd, l.map Pk.x, sk⟩) (hn : n = l.length) (ho : OwnV w' w.heap.size 22 (.slice p' n c') (pkv l)) (hp : ∀ t ∈ l, PkB w' t) (hb : Below w.heap.size w w') :
    Splitted most xs w (.returned (.tuple #[.slice p' n c', .int .i64 (sk : Int)])) w' := by
  subst hn
  unfold Splitted
  rw [hst]
  exact ⟨p', c', l, rfl, ho, hp, hb, rfl⟩
theorem take_more {xs : List UInt8} {k f : Nat} (hk : k < xs.length) (hf : f ≤ k) : (xs.take (k + 1)).drop f = (xs.take k).drop f ++ [xs.getD k 0] := by
  rw [List.take_add_one, List.drop_append_of_le_length (by simp; omega)]
  simp [List.getD, hk]
theorem stL_more (most : Nat) (s : St) (xs : List UInt8) (k : Nat) (hk : k < xs.length) : stL most s (xs.take (k + 1)) = stB most (stL most s (xs.take k)) (xs.getD k 0) := by
  rw [List.take_add_one, stL_append]
  simp [List.getD, hk, stL]

set_option maxRecDepth 20000 in
set_option maxHeartbeats 2000000 in
theorem split_any (p : Option Addr) (n c : Nat) (xs : List UInt8) (most : Nat) (w : World) (hl : xs.length = n) (hs : n ≤ 4294967296) (h : Bin w p c xs) :
    Calls Try.prog 21 #[.slice p n c, .int .i64 most] w (Splitted most xs w) := by
  rcases h.parts with rfl | ⟨hn, b, o, rfl⟩
  · obtain rfl : n = 0 := hl.symm
    go_enter Try.func21, Try.ntmps21
    go_wp2_with fail
    refine wp_loop_rounds 1 ?_
    rw [rounds_succ]
    go_wp2_with fail
    go_ret2
    exact Splitted.mk (cd := []) (l := []) (sk := 0) rfl rfl (OwnV.nil _ _ _) (fun t ht => by cases ht) (Below.refl _ _)
  · have hcap := h.cap
    have hmax := h.max
    have HI := Lib.hid h
    subst hl
    clear h
    go_enter Try.func21, Try.ntmps21
    go_wp2_with fail
    go_loopg [6, 7, 8, 9, 10, 11] xs.length (fun g ov sv fv iv pv ev wr => ∃ (p2 : Option Addr) (n2 c2 : Nat) (l : List Pk) (sk f k : Nat), ov = .slice p2 n2 c2 ∧ sv = .int .i64 sk ∧ fv = .int .i64 f ∧ iv = .int .i64 k ∧ n2 = l.length ∧ n2 ≤ k ∧ sk ≤ k ∧ f ≤ k ∧ k ≤ xs.length ∧ g = xs.length - k ∧
      Hid (OwnV wr w.heap.size 22 (.slice p2 n2 c2) (pkv l)) ∧ Hid (∀ t ∈ l, PkB wr t) ∧ Hid (Below w.heap.size w wr) ∧ Hid (stL most ⟨[], [], 0⟩ (xs.take k) = ⟨(xs.take k).drop f, l.map Pk.x, sk⟩))
    case atStart => exact ⟨none, 0, 0, [], 0, 0, 0, rfl, rfl, rfl, rfl, rfl, by omega, by omega, by omega, by omega, rfl, OwnV.nil _ _ _, (fun t ht => by cases ht), Below.refl _ _, rfl⟩
    case round =>
      obtain ⟨p2, n2, c2, l, sk, f, k, rfl, rfl, rfl, rfl, rfl, hn2, hsk, hf, hk, rfl, hown, hpk, hbw, hst⟩ := hrel
      by_cases hkn : k < xs.length
      · have hkn' : (k : Int) < xs.length := by omega
        have hc0 := (HI.out.kept hbw.out).cell k hkn
        have hmore := stL_more most ⟨[], [], 0⟩ xs k hkn
        rw [hst.out] at hmore
        have htake := take_more hkn hf
        obtain ⟨d, hd⟩ : ∃ d, d = xs.getD k 0 := ⟨_, rfl⟩
        rw [← hd] at hc0 hmore htake
        have HM := Lib.hid hmore
        have HT := Lib.hid htake
        have l1 := d.toNat_lt
        clear hd hmore htake
        by_cases hz : d = 0
        · subst hz
          go_wp2_with (first
            | (refine wpList_cut_lh rfl (.tmp 27) _ (.tmp 28) (.tmp 30) rfl under_bytes size_u8 _ _ c xs rfl rfl HI.out _ _ _ _ f (k + 1) rfl rfl rfl (by omega) (by omega) (by omega) ?_; intro p5 c5 n5 gs hgl hg hn5 hgb)
            | (go_at_call 16; (with_reducible refine (rdecode_any _ _ _ gs _ (by omega) (by omega) (hgb.kept hbw.out)).mono ?_); rintro e w4 ⟨p4, c4, rfl, ho4, hb4⟩; have hown4 := Lib.hid (hown.out.kept hb4))
            | (at_builtin; refine wpList_append_vals rfl (.tmp 43) (.tmp 45) 35 rfl w.heap.size 22 _ 24 Try.underlying35 info_bytes rfl p2 _ c2 (pkv l) rfl (hown4.out.keep fun a _ hl => Below.heap_alloc _ _ _ hl) _ 1 1 [.slice p4 (dec gs).1.length c4] rfl rfl (BinV.made _ _ _ _) (by intro u hu; simp at hu; subst hu; rfl) (by rw [pkv_len]; simp; omega) (by rw [pkv_len]; simp; omega) (size_alloc_le _ (Nat.le_trans hbw.out.size hb4.size)) ?_; intro p6 c6 n6 w6 ha hn6))
          · have hd : (dec gs).2 = 0 := by assumption
            have hlen : (dec gs).1.length ≤ most := by assumption
            have hgc : gs = (xs.take k).drop f ++ [0] := by rw [hg.out, HT.out]
            have hcn : (xs.take k).drop f ≠ [] := by apply List.length_pos_iff.1; simp; omega
            have hnil : (xs.take (k + 1)).drop (k + 1) = [] := List.drop_eq_nil_of_le (by simp; omega)
            obtain ⟨h6b, h6c⟩ := list_append' (hown4.out.keep fun a _ hl => Below.heap_alloc _ _ _ hl) ha.out (size_alloc_le _ (Nat.le_trans hbw.out.size hb4.size))
            obtain ⟨p', c', hv, ho6, _, _, _⟩ := id ha.out
            simp only [Value.slice.injEq] at hv
            obtain ⟨rfl, _, rfl⟩ := hv
            rw [List.length_append] at ho6
            have hb5 := hbw.out.trans (hb4.mono hbw.out.size)
            go_roundg (xs.length - (k + 1))
            case measure => omega
            case rel =>
              refine ⟨p6, _, c6, l ++ [⟨p4, c4, (dec gs).1⟩], sk, k + 1, k + 1, rfl, rfl, by go_num, by go_num, by simp [pkv_len], by rw [pkv_len]; omega, by omega, by omega, by omega, rfl, ?_, ?_, (hb5.alloc hb5.size _).trans h6c, ?_⟩
              · rw [pkv_append]; exact ho6
              · intro t ht
                refine h6b t ?_
                rcases List.mem_append.1 ht with ht | ht
                · exact ((hpk.out t ht).kept hb4).kept ((Below.refl _ _).alloc (Nat.le_refl _) _)
                · obtain rfl := List.mem_singleton.1 ht
                  exact PkB.kept ⟨ho4.bin.2, ho4.typ⟩ ((Below.refl _ _).alloc (Nat.le_refl _) _)
              · rw [hgc] at hd hlen
                rw [HM.out, hnil, stB_good most _ _ sk hcn hd hlen, hgc, List.map_append]
                exact Lib.hid rfl
          · have hlen : ¬ (dec gs).1.length ≤ most := by assumption
            have hgc : gs = (xs.take k).drop f ++ [0] := by rw [hg.out, HT.out]
            have hcn : (xs.take k).drop f ≠ [] := by apply List.length_pos_iff.1; simp; omega
            have hnil : (xs.take (k + 1)).drop (k + 1) = [] := List.drop_eq_nil_of_le (by simp; omega)
            have hbad : ¬ ((dec ((xs.take k).drop f ++ [0])).2 = 0 ∧ (dec ((xs.take k).drop f ++ [0])).1.length ≤ most) := by rw [← hgc]; exact fun h => hlen h.2
            go_roundg (xs.length - (k + 1))
            case measure => omega
            case rel =>
              refine ⟨p2, _, c2, l, sk + 1, k + 1, k + 1, rfl, by go_num, by go_num, by go_num, rfl, by omega, by omega, by omega, by omega, rfl, hown4, fun t ht => (hpk.out t ht).kept hb4, hbw.out.trans (hb4.mono hbw.out.size), ?_⟩
              rw [HM.out, hnil, stB_bad most _ _ sk hcn hbad]
              exact Lib.hid rfl
          · have hd : ¬ (dec gs).2 = 0 := by assumption
            have hgc : gs = (xs.take k).drop f ++ [0] := by rw [hg.out, HT.out]
            have hcn : (xs.take k).drop f ≠ [] := by apply List.length_pos_iff.1; simp; omega
            have hnil : (xs.take (k + 1)).drop (k + 1) = [] := List.drop_eq_nil_of_le (by simp; omega)
            have hbad : ¬ ((dec ((xs.take k).drop f ++ [0])).2 = 0 ∧ (dec ((xs.take k).drop f ++ [0])).1.length ≤ most) := by rw [← hgc]; exact fun h => hd h.1
            go_roundg (xs.length - (k + 1))
            case measure => omega
            case rel =>
              refine ⟨p2, _, c2, l, sk + 1, k + 1, k + 1, rfl, by go_num, by go_num, by go_num, rfl, by omega, by omega, by omega, by omega, rfl, hown4, fun t ht => (hpk.out t ht).kept hb4, hbw.out.trans (hb4.mono hbw.out.size), ?_⟩
              rw [HM.out, hnil, stB_bad most _ _ sk hcn hbad]
              exact Lib.hid rfl
          · obtain rfl : f = k := by omega
            have hnil : (xs.take (f + 1)).drop (f + 1) = [] := List.drop_eq_nil_of_le (by simp; omega)
            have hnil0 : (xs.take f).drop f = [] := List.drop_eq_nil_of_le (by simp; omega)
            go_roundg (xs.length - (f + 1))
            case measure => omega
            case rel =>
              refine ⟨p2, _, c2, l, sk, f + 1, f + 1, rfl, rfl, by go_num, by go_num, rfl, by omega, by omega, by omega, by omega, rfl, hown, hpk, hbw, ?_⟩
              rw [HM.out, hnil, hnil0, stB_empty]
              exact Lib.hid rfl
        · have hd0 : ((d.toNat : Int) != 0) = true := by
            simp only [bne_iff_ne, ne_eq]
            intro e
            exact hz (UInt8.toNat_inj.1 (by simpa using e))
          go_wp2_with fail
          go_roundg (xs.length - (k + 1))
          case measure => omega
          case rel =>
            refine ⟨p2, _, c2, l, sk, f, k + 1, rfl, rfl, rfl, by go_num, rfl, by omega, by omega, by omega, by omega, rfl, hown, hpk, hbw, ?_⟩
            have e : stB most ⟨(xs.take k).drop f, l.map Pk.x, sk⟩ d = ⟨(xs.take k).drop f ++ [d], l.map Pk.x, sk⟩ := by unfold stB; rw [if_pos hz]
            rw [HM.out, e, HT.out]
            exact Lib.hid rfl
      · obtain rfl : k = xs.length := by omega
        go_wp2_with fail
        go_ret2
        have he := hst.out
        rw [List.take_length] at he
        exact Splitted.mk he rfl hown.out hpk.out hbw.out
end Go.Proofs.Ytkkooghmeoodaaa
