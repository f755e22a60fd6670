/-
  LAYER 6 (deadlinequeue): valid and Feasible.
-/
import Derived.Test.YtjcoghjkjnhljaaDqFeas
namespace Go.Proofs.Ytjcoghjkjnhljaa
open Go Go.RowKit Go.IntWalk Go.Sort
set_option maxRecDepth 8000
set_option linter.unusedSimpArgs false

section
variable {w : World} {ops : Array Oper} {rest : List Oper} {o : Oper} {a : Act} {Q : Exit → Act → World → Prop}
theorem wpList_lookB (m x : Operand) (hop : o.op = Op.lookup 43 m x false) (hgn : o.guard = none)
    (b s : Nat) (f : Int → Option Bool) (hm : a.eval m = .map (some b)) (hM : MapB w b s f) (i : Int) (hx : a.eval x = .int .i64 i) (hi : In64 i)
    (hK : wpList Try.prog ops Q rest (a.put o.dst (.bool ((f i).getD false))) w) : wpList Try.prog ops Q (o :: rest) a w := by
  refine wpList_plain hgn fun K' hK' => ?_
  have hrun : (Instr.lookup 43 (.map (some b)) (.int .i64 i) false).run Try.prog w = .ok (.bool ((f i).getD false)) w := MapG.look Try.underlying3 Try.underlying43 hM hi
  unfold Oper.wp
  simp [execOp, hop, hm, hx, hrun, Result.andThen]
  exact hK' _ _ hK
theorem wpList_updB (m x v : Operand) (hop : o.op = Op.mapUpdate 43 m x v) (hgn : o.guard = none)
    (b s : Nat) (f : Int → Option Bool) (hm : a.eval m = .map (some b)) (hM : MapB w b s f) (hs : s < maxLen) (i : Int) (hx : a.eval x = .int .i64 i) (hi : In64 i) (hv : a.eval v = .bool true)
    (hK : ∀ w', MapB w' b (if (f i).isSome then s else s + 1) (fun j => if j = i then some true else f j) → w.mapTurned w' b → wpList Try.prog ops Q rest (a.put o.dst undef) w') : wpList Try.prog ops Q (o :: rest) a w := by
  refine wpList_plain hgn fun K' hK' => ?_
  obtain ⟨w', hrun, h1, h2⟩ := MapG.store Try.underlying3 Try.underlying43 hM hs hi (v := true) trivial
  have hrun' : (Instr.mapUpdate 43 (.map (some b)) (.int .i64 i) (.bool true)).run Try.prog w = .ok () w' := hrun
  unfold Oper.wp
  simp [execOp, hop, hm, hx, hv, hrun', Result.andThen]
  exact hK' _ _ (hK w' h1 h2)
end
/-- The IDs that have been seen. -/
def seenF (l : List It) : Int → Option Bool := fun i => if hasId i l then some true else none
theorem seenF_snoc (l : List It) (x : It) : (fun j => if j = x.1 then some true else seenF l j) = seenF (l ++ [x]) := by
  funext j
  unfold seenF hasId
  rw [List.any_append]
  by_cases h : j = x.1
  · subst h; simp
  · have h' : (x.1 == j) = false := by simpa using Ne.symm h
    simp only [List.any_cons, List.any_nil, h', Bool.or_false, if_neg h]
theorem Below.turned {N b : Nat} {w w1 w2 : World} (h : Below N w w1) (ht : w1.mapTurned w2 b) (hb : N ≤ b) (hs : N ≤ w1.heap.size) : Below N w w2 :=
  h.grown ht.grown hs fun k hk => by
    obtain rfl := Option.some.inj hk
    exact hb
set_option maxHeartbeats 4000000 in
theorem valid_any (t : Int) (p : Option Addr) (n c b : Nat) (xs : List It) (g : Int → Int) (w : World) (hl : xs.length = n) (hn : n ≤ 1000) (h : RdI w p c xs) (hok : itOk xs) (hD : Dur w b g) :
    Calls Try.prog 35 #[.int .i64 t, .slice p n c, .map (some b)] w fun e w' => e = .returned (.bool (validB g t xs)) ∧ Grew w w' := by
  subst hl
  have HI := Lib.hid h
  have HD := Lib.hid hD
  have Hok := Lib.hid hok
  clear h hD hok
  have hmm := @run_makeMap Try.prog
  cases hT : isTm t with
  | false =>
    have hno := Lib.hid (show validB g t xs = false by simp [validB, hT])
    go_enter Try.func35, Try.ntmps35
    go_wp2_with (go_at_call 42; (with_reducible refine (isTime_any _ _).mono ?_); rintro e _ ⟨rfl, rfl⟩)
    go_ret
    exact ⟨ret_bool hno.out.symm, Grew.refl _⟩
  | true =>
    go_enter Try.func35, Try.ntmps35
    go_wp2_with (go_at_call 42; (with_reducible refine (isTime_any _ _).mono ?_); rintro e _ ⟨rfl, rfl⟩)
    have hM0 := MapG.made (P := Try.prog) (k := 3) (E := elmBool Try.underlying4 zero_bool) w
    have hG0 : Grew w (w.alloc (.map #[] 0)) := (Grew.refl w).alloc _
    have hs0 : (w.alloc (.map #[] 0)).heap.size = w.heap.size + 1 := by simp
    obtain ⟨B, hB⟩ : ∃ B, B = w.heap.size := ⟨_, rfl⟩
    rw [← hB] at hM0 ⊢
    generalize World.alloc w _ = W at hM0 hG0 hs0 ⊢
    have hBw := Lib.hid hB
    have HM0 := Lib.hid hM0
    have HG0 := Lib.hid hG0
    have Hs0 := Lib.hid hs0
    clear hB hM0 hG0 hs0 hmm
    go_loopg [16] xs.length (fun gg iv wr => ∃ (k s : Nat), iv = .int .i64 (k : Int) ∧ k ≤ xs.length ∧ gg = xs.length - k ∧ s ≤ k ∧ Hid (MapB wr B s (seenF (xs.take k))) ∧ Hid (Grew w wr) ∧ Hid (Ids (xs.take k) ∧ ∀ x ∈ xs.take k, okIt g x = true) ∧ Hid (B < wr.heap.size))
    case atStart => exact ⟨0, 0, rfl, Nat.zero_le _, rfl, Nat.le_refl _, HM0.out, HG0.out, by simp [Hid, Ids], Lib.hid (by rw [Hs0.out, hBw.out]; omega)⟩
    case round =>
      obtain ⟨k, s, rfl, hk, rfl, hsk, hB, hg, hall, hBl⟩ := hrel
      by_cases hlt : k < xs.length
      · have hrk := HI.out.kept hg.out
        obtain ⟨bb, o, rfl, -⟩ := hrk.cells (by omega)
        obtain ⟨hx0, hx1⟩ := hrk.at hlt
        have hts := take_snocI xs k hlt
        have hmem : xs.getD k (0, 0) ∈ xs := by simp [List.getD, hlt]
        have hin := Hok.out _ hmem
        generalize xs.getD k (0, 0) = x at hx0 hx1 hts hin hmem
        obtain ⟨x1, x2⟩ := x
        simp only [] at hin
        have Hmem := Lib.hid hmem
        have Hin := Lib.hid hin.1
        have Hts := Lib.hid hts
        have HD' := Lib.hid ((HD.out.grew hg.out).grew ((Grew.refl wr).alloc (.cells #[.int .i64 x1, .int .i64 x2] 32)))
        have HB' : Hid (MapB (wr.alloc (.cells #[.int .i64 x1, .int .i64 x2] 32)) B s (seenF (xs.take k))) := Lib.hid (MapG.keep hB.out (((Grew.refl wr).alloc _).block B hBl.out))
        clear hts hrk hmem hin
        have tkB := Lib.hid trivial
        cases hsn : hasId x1 (xs.take k) with
        | true =>
          have Hseen := Lib.hid (show (seenF (xs.take k) x1).getD false = true by simp [seenF, hsn])
          have hno := Lib.hid (show validB g t xs = false by
            rw [← Bool.not_eq_true, valid_iff]
            rintro ⟨_, hi, _⟩
            have := ids_take hi (k + 1)
            rw [Hts.out, ids_snoc, hsn] at this
            cases this.2)
          clear hsn
          go_wp2_with (first | (at_lookup; clear tkB; refine wpList_lookB _ _ rfl rfl B s _ rfl HB'.out x1 rfl Hin.out ?_; rw [Hseen.out]) | (go_at_call 42; (with_reducible refine (isTime_any _ _).mono ?_); rintro e _ ⟨rfl, rfl⟩))
          go_ret
          exact ⟨ret_bool hno.out.symm, hg.out.alloc _⟩
        | false =>
          have Hseen := Lib.hid (show (seenF (xs.take k) x1).getD false = false by simp [seenF, hsn])
          have Hns := Lib.hid (show (seenF (xs.take k) x1).isSome = false by simp [seenF, hsn])
          have Hsn := Lib.hid hsn
          clear hsn
          cases hT2 : isTm x2 with
          | false =>
            have hno := Lib.hid (show validB g t xs = false by
              rw [← Bool.not_eq_true, valid_iff]
              rintro ⟨_, _, hi⟩
              have := hi _ Hmem.out
              simp [okIt, hT2] at this)
            go_wp2_with (first | (at_lookup; clear tkB; refine wpList_lookB _ _ rfl rfl B s _ rfl HB'.out x1 rfl Hin.out ?_; rw [Hseen.out]) | (go_at_call 42; (with_reducible refine (isTime_any _ _).mono ?_); rintro e _ ⟨rfl, rfl⟩))
            go_ret
            exact ⟨ret_bool hno.out.symm, hg.out.alloc _⟩
          | true =>
            have hlk := HD'.out.look Hin.out
            cases hT3 : isTm (g x1) with
            | false =>
              have hno := Lib.hid (show validB g t xs = false by
                rw [← Bool.not_eq_true, valid_iff]
                rintro ⟨_, _, hi⟩
                have := hi _ Hmem.out
                simp [okIt, hT3] at this)
              go_wp2_with (first | (at_lookup; clear tkB; refine wpList_lookB _ _ rfl rfl B s _ rfl HB'.out x1 rfl Hin.out ?_; rw [Hseen.out]) | (go_at_call 42; (with_reducible refine (isTime_any _ _).mono ?_); rintro e _ ⟨rfl, rfl⟩))
              go_ret
              exact ⟨ret_bool hno.out.symm, hg.out.alloc _⟩
            | true =>
              have hnext : Hid (Ids (xs.take (k + 1)) ∧ ∀ x ∈ xs.take (k + 1), okIt g x = true) := Lib.hid ⟨by rw [Hts.out]; exact ids_snoc.2 ⟨hall.out.1, Hsn.out⟩, fun x hx => by
                rw [Hts.out] at hx
                rcases List.mem_append.1 hx with hx | hx
                · exact hall.out.2 x hx
                · obtain rfl : x = (x1, x2) := by simpa using hx
                  simp [okIt, hT2, hT3]⟩
              have hss := Lib.hid (show s < maxLen by unfold maxLen; omega)
              go_wp2_with (first | (at_lookup; clear tkB; refine wpList_lookB _ _ rfl rfl B s _ rfl HB'.out x1 rfl Hin.out ?_; rw [Hseen.out]) | (go_at_call 42; (with_reducible refine (isTime_any _ _).mono ?_); rintro e _ ⟨rfl, rfl⟩) | (at_mapUpdate; refine wpList_updB _ _ _ rfl rfl B s _ rfl HB'.out hss.out x1 rfl Hin.out rfl ?_; intro w2 hM2 hT2'; have M2 := Lib.hid hM2; have T2 := Lib.hid hT2'; clear hM2 hT2'))
              go_roundg (xs.length - (k + 1))
              case measure => omega
              case rel =>
                refine ⟨k + 1, s + 1, by go_num, by omega, rfl, by omega, Lib.hid ?_, Lib.hid (Below.turned (hg.out.alloc _) T2.out (by rw [hBw.out]; exact Nat.le_refl _) (by have := Below.size hg.out; simp; omega)), hnext, Lib.hid (MapG.lt M2.out)⟩
                have := M2.out
                rw [Hns.out, if_neg (by simp), seenF_snoc (xs.take k) (x1, x2), ← Hts.out] at this
                exact this
      · obtain rfl : k = xs.length := by omega
        rw [List.take_length] at hall
        have hyes := Lib.hid (show validB g t xs = true from valid_iff.2 ⟨hT, hall.out.1, hall.out.2⟩)
        go_wp2
        go_ret
        exact ⟨ret_bool hyes.out.symm, hg.out⟩
set_option maxHeartbeats 4000000 in
theorem feasible_any (t : Int) (p : Option Addr) (n c b : Nat) (xs : List It) (g : Int → Int) (w : World) (hl : xs.length = n) (hn : n ≤ 1000) (h : RdI w p c xs) (hok : itOk xs) (hD : Dur w b g) :
    Calls Try.prog 23 #[.int .i64 t, .slice p n c, .map (some b)] w fun e w' => e = .returned (.tuple #[.int .i64 (feas g t xs).1, .int .i64 (feas g t xs).2]) ∧ Grew w w' := by
  have HV := Lib.hid (valid_any t p n c b xs g w hl hn h hok hD)
  have HO : Hid (∀ W, Grew w W → Calls Try.prog 30 #[.slice p n c] W fun e w' => ∃ q d, e = .returned (.slice q n d) ∧ Its w' W.heap.size q d (isort xs) ∧ Grew W w') := Lib.hid fun W hW => ordered_any p n c xs W hl (by omega) (h.kept hW)
  have HD := Lib.hid hD
  have Hok := Lib.hid (itOk_perm (isort_perm xs).symm hok)
  have hxl : xs.length ≤ 1000 := by omega
  have hsl := isort_len xs
  rw [hl] at hsl
  clear h hl hD hok hxl
  cases hv : validB g t xs with
  | false =>
    have hno := Lib.hid hv
    rw [hv] at HV
    clear hv
    go_enter Try.func23, Try.ntmps23
    go_wp2_with (go_at_call 35; (with_reducible refine HV.out.mono ?_); rintro e w1 ⟨rfl, g1⟩; have G1 := Lib.hid g1; clear g1)
    go_ret2
    exact ⟨ret_two (feas_bad hno.out), G1.out⟩
  | true =>
    have hval := Lib.hid hv
    have hv' := valid_iff.1 hv
    have Hpos := Lib.hid (show ∀ x ∈ isort xs, okIt g x = true from fun x hx => hv'.2.2 x ((isort_perm xs).mem_iff.1 hx))
    obtain ⟨ht0, ht1⟩ := isTm_iff.1 hv'.1
    rw [hv] at HV
    clear hv hv'
    go_enter Try.func23, Try.ntmps23
    go_wp2_with (first
      | (go_at_call 35; (with_reducible refine HV.out.mono ?_); rintro e w1 ⟨rfl, g1⟩; have G1 := Lib.hid g1; clear g1)
      | (go_at_call 30; (with_reducible refine (HO.out _ G1.out).mono ?_); rintro e w2 ⟨q2, d2, rfl, i2, g2⟩; have HR2 := Lib.hid i2.rd; have G2 := Lib.hid (G1.out.trans g2); clear i2 g2))
    have hsb : (isort xs).length ≤ 1000 := by omega
    rw [← hsl]
    clear hsl HO HV
    generalize hso : isort xs = so at HR2 Hok Hpos hsb ⊢
    have Hso := Lib.hid hso
    clear hso
    go_loopg [8, 20] so.length (fun gg tv iv wr => ∃ (k : Nat) (u : Int), tv = .int .i64 u ∧ iv = .int .i64 (k : Int) ∧ k ≤ so.length ∧ gg = so.length - k ∧ 0 ≤ u ∧ u ≤ 1099511627776 ∧ Hid (late g u (so.drop k) = late g t so) ∧ Hid (Grew w2 wr))
    case atStart => exact ⟨0, t, rfl, rfl, Nat.zero_le _, rfl, ht0, ht1, rfl, Grew.refl _⟩
    case round =>
      obtain ⟨k, u, rfl, rfl, hk, rfl, hu1, hu2, hla, hg⟩ := hrel
      by_cases hlt : k < so.length
      · have hrk := HR2.out.kept hg.out
        obtain ⟨bb, o, rfl, -⟩ := hrk.cells (by omega)
        obtain ⟨hx0, hx1⟩ := hrk.at hlt
        have hdr := drop_consI so k hlt
        have hmem : so.getD k (0, 0) ∈ so := by simp [List.getD, hlt]
        have hin := Hok.out _ hmem
        have hpp := Hpos.out _ hmem
        generalize so.getD k (0, 0) = x at hx0 hx1 hdr hin hpp hmem
        obtain ⟨x1, x2⟩ := x
        simp only [okIt, Bool.and_eq_true, isTm_iff] at hpp
        obtain ⟨⟨hd3, hd4⟩, hd1, hd2⟩ := hpp
        simp only [] at hin hd1 hd2 hd3 hd4
        have Hin := Lib.hid hin.1
        have hls := late_split g u (x1, x2) (so.drop (k + 1))
        rw [← hdr, hla.out] at hls
        simp only [] at hls
        have Hls := Lib.hid hls
        have HD' := Lib.hid (((HD.out.grew G2.out).grew hg.out).grew ((Grew.refl wr).alloc (.cells #[.int .i64 x1, .int .i64 x2] 32)))
        generalize hgx : g x1 = gx at hd1 hd2
        clear hls hdr hin hrk hmem
        by_cases hlate : x2 < u + gx
        · have Hgx := Lib.hid hgx
          clear hgx
          have e1 := Lib.hid (show late g t so = some (x1, x2) by rw [Hls.out, Hgx.out, if_pos hlate])
          go_wp2_with (at_lookup; refine wpList_lookD _ _ rfl rfl b g rfl HD'.out x1 rfl Hin.out ?_; rw [Hgx.out])
          go_ret2
          exact ⟨ret_two (feas_some hval.out (by rw [Hso.out]; exact e1.out)), (G2.out.trans hg.out).alloc _⟩
        · have Hgx := Lib.hid hgx
          clear hgx
          have e1 := Lib.hid (show late g (u + gx) (so.drop (k + 1)) = late g t so by rw [Hls.out, Hgx.out, if_neg hlate])
          have hle : u + gx ≤ x2 := by omega
          clear hlate
          go_wp2_with (at_lookup; refine wpList_lookD _ _ rfl rfl b g rfl HD'.out x1 rfl Hin.out ?_; rw [Hgx.out])
          go_roundg (so.length - (k + 1))
          case measure => omega
          case rel => exact ⟨k + 1, u + gx, rfl, by go_num, by omega, rfl, by omega, by omega, e1, hg.out.alloc _⟩
      · obtain rfl : k = so.length := by omega
        rw [List.drop_length] at hla
        have e1 := Lib.hid (show late g t so = none by rw [← hla.out]; rfl)
        go_wp2
        go_ret2
        exact ⟨ret_two (feas_none hval.out (by rw [Hso.out]; exact e1.out)), G2.out.trans hg.out⟩
end Go.Proofs.Ytjcoghjkjnhljaa
