/-
  CONTRACTS OF LAYER 14 (diag): the library's table; lineStarts; Format, the program's and the reference's.
-/
import Derived.Test.YtmnncildkomagaaDoorDiFmtOps
import Derived.Lib.LaidTab
namespace Go.Proofs.YtmnncildkomagaaDoor
open Go Go.RowKit Go.IntWalk Go.Sort
open Go.Lib (itoa)
set_option linter.unusedSimpArgs false
set_option linter.unusedVariables false
set_option maxRecDepth 8000

theorem var?_keep {P : Program} {w w' : World} {n : String} {cs : Array Value} (hb : Below w.heap.size w w') (h : w.var? P n = some cs) : w'.var? P n = some cs := by
  unfold World.var? at h ⊢
  cases hg : P.globalNamed n with
  | none => simp [hg] at h
  | some g =>
    simp only [hg, Option.bind_some] at h ⊢
    have hlt : g < w.heap.size := by
      rcases Nat.lt_or_ge g w.heap.size with h' | h'
      · exact h'
      · simp [Array.getElem?_eq_none h'] at h
    rw [hb.block g hlt]
    exact h
/-- The library's table, as the program's initialisers lay it. -/
structure Env (w : World) : Prop where
  pow : Lib.TabIs Tryd.prog w "internal/strconv.uint64pow10" .u64 Lib.pow10Tab
theorem Env.grew {w w' : World} (h : Env w) (hb : Grew w w') : Env w' := ⟨var?_keep hb h.pow⟩
theorem grew_grow (w : World) (k : Nat) (os : Array Obj) : Grew w (grow (w.drewN k) os) :=
  ⟨rfl, rfl, rfl, by simp [grow, World.drewN], fun j hj => by
    show (w.heap ++ os)[j]? = w.heap[j]?
    exact Array.getElem?_append_left hj⟩
theorem grew_drewN (w : World) (k : Nat) : Grew w (w.drewN k) := ⟨rfl, rfl, rfl, Nat.le_refl _, fun _ _ => rfl⟩
theorem itoa_any (z : Int) (hz : 0 ≤ z ∧ z ≤ 1000000) (w : World) (he : Env w) : Calls Tryd.prog 40 #[.int .i64 z] w fun e w' => e = .returned (.string ⟨(itoa z).toArray⟩) ∧ Grew w w' :=
  (Tryd.strconv_Itoa z (by omega) (by omega) w he.pow).mono fun _ _ ⟨h1, k, os, h2⟩ => ⟨h1, h2 ▸ grew_grow w k os⟩
/-- A diagnostic's cells. -/
abbrev itc (x : It) : List Value := [.int .i64 x.1, .string ⟨x.2.toArray⟩]
abbrev itv (x : It) : Value := .agg #[.int .i64 x.1, .string ⟨x.2.toArray⟩]
abbrev nc (z : Int) : List Value := [.int .i64 z]
theorem encI : Enc 2 itc := ⟨fun _ => rfl, fun x u hu => by simp at hu; rcases hu with rfl | rfl <;> rfl, by decide⟩
theorem encN : Enc 1 nc := ⟨fun _ => rfl, fun x u hu => by simp at hu; subst hu; rfl, by decide⟩
theorem infoN : (Tryd.prog.info? 3).map (fun i => (i.zero, i.size, i.bytes)) = some (some (.int .i64 0), 1, 8) := by kernel_rfl
theorem infoD : (Tryd.prog.info? 37).map (fun i => (i.zero, i.size, i.bytes)) = some (some (itv (0, [])), 2, 24) := by kernel_rfl
set_option maxHeartbeats 2000000 in
theorem starts_any (s : ByteArray) (hs : s.size ≤ 100000) (w : World) :
    Calls Tryd.prog 37 #[.string s] w fun e w' => ∃ b c, e = .returned (.slice (some ⟨b, 0, none⟩) (stz s.data.toList s.size).length c) ∧ OwR w' w.heap.size 3 1 nc (.slice (some ⟨b, 0, none⟩) (stz s.data.toList s.size).length c) (stz s.data.toList s.size) ∧ Grew w w' := by
  have hsl := size_list s
  have HE := Lib.hid (fun k hk q hq W => end_any s hs k hk q hq W)
  have HSL := Lib.hid hsl
  obtain ⟨q0, hq0⟩ : ∃ q, Lnd s.data.toList 0 q := ⟨_, lnd_is (Nat.zero_le _)⟩
  have HQ0 := Lib.hid hq0
  have hql : q0 ≤ s.size := by have := hq0.len; omega
  have HC0 : Hid (∀ W, Calls Tryd.prog 32 #[.string s, .int .i64 0] W fun e w' => e = .returned (.int .i64 (q0 : Int)) ∧ W = w') := Lib.hid (fun W => HE.out 0 (Nat.zero_le _) q0 hq0 W)
  clear hq0
  have HL0 := Lib.hid (OwR.lit encN w [0] 1 w.heap.size 3 #[.int .i64 0] rfl rfl (by omega) (Nat.le_refl _))
  have HG0 : Hid (Grew w (w.alloc (.cells #[.int .i64 0] 3))) := Lib.hid ((Grew.refl w).alloc _)
  go_enter Tryd.func37, Tryd.ntmps37
  go_wp2_with (go_at_call 32; (with_reducible refine (HC0.out _).mono ?_); rintro e w1 ⟨rfl, rfl⟩)
  go_loopg [3, 4] (s.size - q0) (fun gg sv ev wr => ∃ (q b n c : Nat), sv = .slice (some ⟨b, 0, none⟩) n c ∧ ev = .int .i64 (q : Int) ∧ q ≤ s.size ∧ gg = s.size - q ∧ n ≤ q + 1 ∧ Hid ((stz s.data.toList q).length = n) ∧ Hid (q = s.size ∨ s.data.toList[q]? = some 10) ∧ Hid (OwR wr w.heap.size 3 1 nc (.slice (some ⟨b, 0, none⟩) n c) (stz s.data.toList q)) ∧ Hid (Grew w wr))
  case atStart =>
    have e1 : stz s.data.toList q0 = [0] := by unfold stz; rw [sts_same (Nat.zero_le _) HQ0.out.no]; rfl
    refine ⟨q0, w.heap.size, 1, 1, rfl, rfl, hql, rfl, by omega, Lib.hid (by rw [e1]; rfl), Lib.hid (by have := HQ0.out.at'; rwa [hsl] at this), Lib.hid ?_, HG0⟩
    rw [e1]
    exact HL0.out
  case round =>
    obtain ⟨q, b, n, c, rfl, rfl, hq, rfl, hn, HN, HA, HO, HG⟩ := hrel
    by_cases hlt : q < s.size
    · have HLF : Hid (s.data.toList[q]? = some 10) := Lib.hid (HA.out.resolve_left (by omega))
      obtain ⟨q2, hq2⟩ : ∃ q2, Lnd s.data.toList (q + 1) q2 := ⟨_, lnd_is (by omega)⟩
      have HQ2 := Lib.hid hq2
      have hql2 : q2 ≤ s.size := by have := hq2.len; omega
      have hqq : q + 1 ≤ q2 := hq2.le
      have HC : Hid (∀ W, Calls Tryd.prog 32 #[.string s, .int .i64 ((q : Int) + 1)] W fun e w' => e = .returned (.int .i64 (q2 : Int)) ∧ W = w') := Lib.hid (fun W => HE.out (q + 1) (by omega) q2 hq2 W)
      clear hq2
      have HST : Hid (stz s.data.toList q2 = stz s.data.toList q ++ [(q : Int) + 1]) := Lib.hid (by
        unfold stz
        rw [sts_same HQ2.out.le HQ2.out.no, sts_lf HLF.out, List.map_append]
        rfl)
      go_wp2_with (first
        | (at_builtin; refine wpList_append_row encN rfl _ _ 55 rfl w.heap.size 3 (.int .i64 0) 8 Tryd.underlying55 infoN rfl _ (stz s.data.toList q) rfl (HO.out.kept ((Grew.refl _).alloc _)) _ _ _ [(q : Int) + 1] rfl rfl (Rw.made encN _ [(q : Int) + 1] 1 3 _ (0, 0) rfl rfl (by omega)) (by rw [HN.out]; simp; omega) (by rw [HN.out]; simp; omega) (by have := HG.out.size; simp; omega) ?_; intro p2 c2 zs2 w2 hz2 ho2 hb2 hc2; have HO2 := Lib.hid ho2; have HZ2 := Lib.hid hz2.out; have HG2 : Hid (Grew w w2) := Lib.hid (Below.trans (HG.out.alloc _) hb2); clear ho2 hb2 hz2 hc2)
        | (go_at_call 32; (with_reducible refine (HC.out _).mono ?_); rintro e w1 ⟨rfl, rfl⟩))
      obtain ⟨g, hg, _, _⟩ := HO2.out.at (by rw [HZ2.out, List.length_append, List.length_singleton]; omega)
      obtain rfl := HZ2.out
      subst hg
      have hln : (stz s.data.toList q ++ [(q : Int) + 1]).length = n + 1 := by rw [List.length_append, HN.out]; rfl
      go_roundg (s.size - q2)
      case measure => omega
      case rel => exact ⟨q2, g, n + 1, c2, by rw [hln], rfl, hql2, rfl, by omega, Lib.hid (by rw [HST.out, hln]), Lib.hid (by have := HQ2.out.at'; rwa [HSL.out] at this), Lib.hid (by rw [HST.out, ← hln]; exact HO2.out), HG2⟩
    · obtain rfl : q = s.size := by omega
      go_wp2
      go_ret
      obtain rfl := HN.out
      exact ⟨b, c, rfl, HO.out, HG.out⟩
theorem fmt_len (xs : List UInt8) (hx : xs.length ≤ 100000) : ∀ (l : List It), (∀ x ∈ l, x.2.length ≤ 1000) → (fmt xs l).length ≤ l.length * 1100
  | [], _ => Nat.zero_le _
  | x :: l, h => by
    have ih := fmt_len xs hx l fun y hy => h y (List.mem_cons_of_mem _ hy)
    have h1 := h x (List.mem_cons_self ..)
    have h2 := clp_le xs.length x.1
    have h3 := lin_le xs (clp xs.length x.1)
    have h4 : col xs (clp xs.length x.1) ≤ clp xs.length x.1 + 1 := by unfold col; omega
    have h5 := fline_len (xs := xs) (p := clp xs.length x.1) (by omega) x.2 (itoa_len _ (by omega)) (itoa_len _ (by omega))
    have e : fmt xs (x :: l) = fline xs (clp xs.length x.1) x.2 ++ fmt xs l := by simp [fmt]
    rw [e, List.length_append, List.length_cons]
    omega
set_option maxHeartbeats 4000000 in
theorem rfmt_any (s : ByteArray) (hs : s.size ≤ 100000) (p : Option Addr) (n c : Nat) (xs : List It) (w : World) (h : Rw 2 itc w p c xs) (hn : xs.length = n) (hl : xs.length ≤ 40) (ht : ∀ x ∈ xs, x.2.length ≤ 1000) :
    Calls Tryd.prog 25 #[.string s, .slice p n c] w fun e w' => e = .returned (.string ⟨(fmt s.data.toList xs).toArray⟩) ∧ Grew w w' := by
  have HSL := Lib.hid (size_list s)
  have HP := Lib.hid (fun (z : Int) W => rpos_any s hs z W)
  have HFL := Lib.hid (fun k => fmt_len s.data.toList (by rw [HSL.out]; exact hs) (xs.take k) fun x hx => ht x (List.mem_of_mem_take hx))
  subst hn
  have HX := Lib.hid h
  have hcap := h.cap
  have hmax := h.max
  have HT := Lib.hid ht
  clear h ht
  go_enter Tryd.func25, Tryd.ntmps25
  go_wp2
  go_loopg [5, 12] xs.length (fun gg sv iv wr => ∃ (k : Nat) (pre : List UInt8), sv = .string ⟨pre.toArray⟩ ∧ iv = .int .i64 (k : Int) ∧ k ≤ xs.length ∧ gg = xs.length - k ∧ Hid (pre = fmt s.data.toList (xs.take k)) ∧ Hid (Grew w wr))
  case atStart => exact ⟨0, [], rfl, rfl, Nat.zero_le _, rfl, Lib.hid rfl, Lib.hid (Grew.refl _)⟩
  case round =>
    obtain ⟨k, pre, rfl, rfl, hk, rfl, HPR, HG⟩ := hrel
    by_cases hlt : k < xs.length
    · obtain ⟨b', o', rfl, hcc⟩ := (HX.out.kept HG.out).rd.cells (by omega)
      have hx : xs[k]? = some xs[k] := by simp [hlt]
      have hc1 := hcc k xs[k] hx
      have hlb : b' < wr.heap.size := World.block_lt_of_cell? _ _ (hc1 0 _ rfl)
      have HLT := Lib.hid (Nat.succ_le_of_lt hlt)
      have HTK := Lib.hid (List.take_succ_eq_append_getElem hlt)
      have hxt := HT.out xs[k] (List.getElem_mem hlt)
      generalize xs[k] = x at hc1 hx HTK hxt
      have e0 : wr.cell? ⟨b', o' + k * 2, none⟩ = some (.int .i64 x.1) := by simpa using hc1 0 _ rfl
      have e1 : wr.cell? ⟨b', o' + k * 2 + 1, none⟩ = some (.string ⟨x.2.toArray⟩) := hc1 1 _ rfl
      clear hcc hc1 hx
      have HPX := Lib.hid (fun W => HP.out x.1 W)
      obtain ⟨q, hq⟩ : ∃ q, clp s.size x.1 = q := ⟨_, rfl⟩
      have hle := clp_le s.size x.1
      have HFN : Hid (fmt s.data.toList (xs.take (k + 1)) = fmt s.data.toList (xs.take k) ++ fline s.data.toList q x.2) := Lib.hid (by rw [HTK.out, fmt_snoc, HSL.out, hq])
      have hpl : pre.length ≤ 44000 := by
        have h1 := HFL.out k
        rw [← HPR.out] at h1
        have h2 : (xs.take k).length ≤ 40 := by rw [List.length_take]; omega
        omega
      rw [hq] at HPX hle
      have hlb0 := lin_le s.data.toList q
      have hcb0 : col s.data.toList q ≤ q + 1 := by unfold col; omega
      have HFE : Hid (fline s.data.toList q x.2 = itoa (lin s.data.toList q : Nat) ++ [58] ++ itoa (col s.data.toList q : Nat) ++ [58, 32] ++ x.2 ++ [10]) := Lib.hid rfl
      generalize fline s.data.toList q x.2 = fl at HFE HFN
      generalize lin s.data.toList q = l0 at HPX hlb0 HFE
      generalize col s.data.toList q = c0 at HPX hcb0 HFE
      have hl1 := itoa_len l0 (by omega)
      have hl2 := itoa_len c0 (by omega)
      clear hq
      have HLL := Lib.hid (And.intro hl1 (And.intro hl2 (And.intro hxt hpl)))
      clear hl1 hl2 hxt hpl
      go_wp2_with (go_at_call 13; (with_reducible refine (HPX.out _).mono ?_); rintro e w1 ⟨rfl, rfl⟩)
      generalize hV : World.alloc _ _ = W1
      have hB : Blk wr.heap.size (itc x) 37 W1 := by subst hV; exact Blk.new wr _ _
      have hG : Grew wr W1 := by subst hV; exact (Grew.refl _).alloc _
      generalize wr.heap.size = S at hB
      clear hV e0 e1
      obtain ⟨hl1, hl2, hxt, hpl⟩ := HLL.out
      have d0 : Atv ⟨S, 0, none⟩ (.int .i64 x.1) W1.drew := (hB.grew (Grew.refl _).drw).atv 0 rfl
      have d1 : Atv ⟨S, 1, none⟩ (.string ⟨x.2.toArray⟩) W1.drew := (hB.grew (Grew.refl _).drw).atv 1 rfl
      refine wp_grew_tail 13 [some 23, some 24, some 25, some 26, some 27, some 28, some 29, some 30, some 31, some 32, some 33, some 34, some 35] [false, false, false, false, false, false, false, false, false, false, false, false, false, false, false, false, false, false, false, false, false, false, false, true, true, true, true, true, true, true, true, true, true, true, true, true, false, false] [fun v _ => v = .string ⟨(pre).toArray⟩, fun v _ => v = .int .i64 (((l0 : Nat) : Int)), fun v _ => v = .string ⟨(itoa (((l0 : Nat) : Int))).toArray⟩, fun v _ => v = .string ⟨((itoa (((l0 : Nat) : Int))) ++ ([58])).toArray⟩, fun v _ => v = .int .i64 (((c0 : Nat) : Int)), fun v _ => v = .string ⟨(itoa (((c0 : Nat) : Int))).toArray⟩, fun v _ => v = .string ⟨(((itoa (((l0 : Nat) : Int))) ++ ([58])) ++ (itoa (((c0 : Nat) : Int)))).toArray⟩, fun v _ => v = .string ⟨((((itoa (((l0 : Nat) : Int))) ++ ([58])) ++ (itoa (((c0 : Nat) : Int)))) ++ ([58, 32])).toArray⟩, fun v _ => v = .pointer (some ⟨S, 1, none⟩), fun v _ => v = .string ⟨(x.2).toArray⟩, fun v _ => v = .string ⟨(((((itoa (((l0 : Nat) : Int))) ++ ([58])) ++ (itoa (((c0 : Nat) : Int)))) ++ ([58, 32])) ++ (x.2)).toArray⟩, fun v _ => v = .string ⟨((((((itoa (((l0 : Nat) : Int))) ++ ([58])) ++ (itoa (((c0 : Nat) : Int)))) ++ ([58, 32])) ++ (x.2)) ++ ([10])).toArray⟩, fun v _ => v = .string ⟨((pre) ++ ((((((itoa (((l0 : Nat) : Int))) ++ ([58])) ++ (itoa (((c0 : Nat) : Int)))) ++ ([58, 32])) ++ (x.2)) ++ ([10]))).toArray⟩] (by kernel_rfl) (by kernel_rfl) (by kernel_rfl) rfl ?_ ⟨?_, ?_, ?_, ?_, ?_, ?_, ?_, ?_, ?_, ?_, ?_, ?_, ?_, trivial⟩ ?_
      · exact ⟨fun _ _ _ _ h => h, fun _ _ _ _ h => h, fun _ _ _ _ h => h, fun _ _ _ _ h => h, fun _ _ _ _ h => h, fun _ _ _ _ h => h, fun _ _ _ _ h => h, fun _ _ _ _ h => h, fun _ _ _ _ h => h, fun _ _ _ _ h => h, fun _ _ _ _ h => h, fun _ _ _ _ h => h, fun _ _ _ _ h => h, trivial⟩
      · intro u w hR hd; exact runs_mv (ev rfl) ⟨Grew.refl _, rfl⟩
      · intro u w hR hd; exact runs_mv (ev rfl) ⟨Grew.refl _, rfl⟩
      · intro u w hR hd; exact runs_c1 enters_num (ev (hd.1 rfl)) (callp (fun _ e => e) (rnum_any _ (by omega) _))
      · intro u w hR hd; exact rn_cat_9 (ev (hd.1 rfl)) rfl (by first | omega | (simp <;> omega)) ⟨Grew.refl _, rfl⟩
      · intro u w hR hd; exact runs_mv (ev rfl) ⟨Grew.refl _, rfl⟩
      · intro u w hR hd; exact runs_c1 enters_num (ev (hd.1 rfl)) (callp (fun _ e => e) (rnum_any _ (by omega) _))
      · intro u w hR hd; exact rn_cat_9 (ev (hd.1 rfl)) (ev (hd.2.1 rfl)) (by first | omega | (simp <;> omega)) ⟨Grew.refl _, rfl⟩
      · intro u w hR hd; exact rn_cat_9 (ev (hd.1 rfl)) rfl (by first | omega | (simp <;> omega)) ⟨Grew.refl _, rfl⟩
      · intro u w hR hd; exact rn_fld_37_1 (ev rfl) ⟨Grew.refl _, rfl⟩
      · intro u w hR hd; exact rn_ld_9 (ev (hd.1 rfl)) (d1.kept hR) ⟨Grew.refl _, rfl⟩
      · intro u w hR hd; exact rn_cat_9 (ev (hd.1 rfl)) (ev (hd.2.1 rfl)) (by first | omega | (simp <;> omega)) ⟨Grew.refl _, rfl⟩
      · intro u w hR hd; exact rn_cat_9 (ev (hd.1 rfl)) rfl (by first | omega | (simp <;> omega)) ⟨Grew.refl _, rfl⟩
      · intro u w hR hd; exact rn_cat_9 (ev (hd.1 rfl)) (ev (hd.2.1 rfl)) (by first | omega | (simp <;> omega)) ⟨Grew.refl _, rfl⟩
      · intro u w4 hR h
        have he : u 35 = .string ⟨(pre ++ fl).toArray⟩ := (h 12 (by decide)).trans (by rw [HFE.out])
        refine wpAny_one (i := 13) (some 5) (by kernel_rfl) rfl rfl rfl (runs_mva (ev he) ?_)
        refine wpAny_done (by kernel_rfl) ?_ _
        simp only [Act.put, mixA, mixL, cond_true, cond_false, List.setIfInBounds_toArray, List.set_cons_succ, List.set_cons_zero]
        have HG4 := Lib.hid ((HG.out.trans hG).drw.trans hR)
        clear h he d0 d1 hB hR hG
        go_wp2
        go_roundg (xs.length - (k + 1))
        case measure => have := HLT.out; omega
        case rel => exact ⟨k + 1, pre ++ fl, rfl, by go_num, HLT.out, rfl, Lib.hid (by rw [HFN.out, HPR.out]), HG4⟩
    · obtain rfl : k = xs.length := by omega
      have HZ := Lib.hid (show pre = fmt s.data.toList xs by rw [HPR.out, List.take_length])
      go_wp2
      go_ret
      exact ⟨ret_string (by rw [HZ.out]), HG.out⟩
set_option maxHeartbeats 4000000 in
theorem fmt_any (s : ByteArray) (hs : s.size ≤ 100000) (p : Option Addr) (n c : Nat) (xs : List It) (w : World) (h : Rw 2 itc w p c xs) (hn : xs.length = n) (hl : xs.length ≤ 40) (ht : ∀ x ∈ xs, x.2.length ≤ 1000) (hev : Env w) :
    Calls Tryd.prog 24 #[.string s, .slice p n c] w fun e w' => e = .returned (.string ⟨(fmt s.data.toList xs).toArray⟩) ∧ Grew w w' := by
  have hsl0 := size_list s
  have HSL := Lib.hid hsl0
  have HP := Lib.hid (fun (z : Int) W => within_any s z W)
  have HFL := Lib.hid (fun k => fmt_len s.data.toList (by rw [HSL.out]; exact hs) (xs.take k) fun x hx => ht x (List.mem_of_mem_take hx))
  have HST := Lib.hid (starts_any s hs w)
  have HEV0 := Lib.hid hev
  subst hn
  have HX := Lib.hid h
  have hcap := h.cap
  have hmax := h.max
  have HT := Lib.hid ht
  have HZL := Lib.hid (stz_len s.data.toList s.size)
  have hlz := lin_le s.data.toList s.size
  have hlz1 := lin_pos s.data.toList s.size
  clear h ht hev
  go_enter Tryd.func24, Tryd.ntmps24
  go_wp2_with (go_at_call 37; (with_reducible refine (HST.out).mono ?_); rintro e w1 ⟨sb, sc, rfl, o1, g1⟩; have HO1 := Lib.hid o1; have HG1 := Lib.hid g1; clear o1 g1)
  have HB1 := Lib.hid (Bld.made w.heap.size w1 HG1.out.sz)
  have HW1 : Hid (Wrote w.heap.size w1.heap.size w1 (w1.alloc (.cells #[.pointer none, .slice none 0 0] 60))) := Lib.hid (Wrote.of_grew ((Grew.refl w1).alloc _) HG1.out.sz)
  have hsbl : sb < w1.heap.size := ((HO1.out.at (by rw [HZL.out]; exact hlz1)).elim fun g hg => by
    have : sb = g := by have := hg.1; simpa using this
    rw [this]
    exact hg.2.2)
  have HSB := Lib.hid hsbl
  have HSZ1 := Lib.hid HG1.out.sz
  generalize hBB : w1.heap.size = B at HB1 HW1
  go_loopg [17] xs.length (fun gg iv wr => ∃ (k : Nat), iv = .int .i64 (k : Int) ∧ k ≤ xs.length ∧ gg = xs.length - k ∧ Hid (Bld w.heap.size B (fmt s.data.toList (xs.take k)) wr) ∧ Hid (Wrote w.heap.size B w1 wr))
  case atStart => exact ⟨0, rfl, Nat.zero_le _, rfl, HB1, HW1⟩
  case round =>
    obtain ⟨k, rfl, hk, rfl, HB, HW⟩ := hrel
    have HG : Hid (Grew w wr) := Lib.hid (Below.trans HG1.out HW.out.1)
    have HO : Hid (OwR wr w.heap.size 3 1 nc (.slice (some ⟨sb, 0, none⟩) (stz s.data.toList s.size).length sc) (stz s.data.toList s.size)) := Lib.hid (HO1.out.wrote encN HW.out (by decide) (fun a ha => by
      obtain rfl := Option.some.inj ha
      have := HSB.out
      show sb ≠ B
      omega))
    by_cases hlt : k < xs.length
    · obtain ⟨b', o', rfl, hcc⟩ := (HX.out.kept HG.out).rd.cells (by omega)
      have hx : xs[k]? = some xs[k] := by simp [hlt]
      have hc1 := hcc k xs[k] hx
      have hlb : b' < wr.heap.size := World.block_lt_of_cell? _ _ (hc1 0 _ rfl)
      have HLT := Lib.hid (Nat.succ_le_of_lt hlt)
      have HTK := Lib.hid (List.take_succ_eq_append_getElem hlt)
      have hxt := HT.out xs[k] (List.getElem_mem hlt)
      generalize xs[k] = x at hc1 hx HTK hxt
      have e0 : wr.cell? ⟨b', o' + k * 2, none⟩ = some (.int .i64 x.1) := by simpa using hc1 0 _ rfl
      have e1 : wr.cell? ⟨b', o' + k * 2 + 1, none⟩ = some (.string ⟨x.2.toArray⟩) := hc1 1 _ rfl
      clear hcc hc1 hx
      have HPX := Lib.hid (fun W => HP.out x.1 W)
      obtain ⟨q, hq⟩ : ∃ q, clp s.size x.1 = q := ⟨_, rfl⟩
      have hle := clp_le s.size x.1
      have HFN : Hid (fmt s.data.toList (xs.take (k + 1)) = fmt s.data.toList (xs.take k) ++ fline s.data.toList q x.2) := Lib.hid (by rw [HTK.out, fmt_snoc, HSL.out, hq])
      rw [hq] at HPX hle
      have HPRL : Hid ((fmt s.data.toList (xs.take k)).length ≤ 44000) := Lib.hid (by
        have h1 := HFL.out k
        have h2 : (xs.take k).length ≤ 40 := by rw [List.length_take]; omega
        omega)
      have hlb0 := lin_le s.data.toList q
      have hlb1 := lin_pos s.data.toList q
      have hsb0 := lst_le s.data.toList q
      have hcb0 : (q : Int) - (lst s.data.toList q : Nat) + 1 = (col s.data.toList q : Nat) := by unfold col; omega
      have hcb1 : col s.data.toList q ≤ q + 1 := by unfold col; omega
      have HFE : Hid (fline s.data.toList q x.2 = itoa (lin s.data.toList q : Nat) ++ [58] ++ itoa (col s.data.toList q : Nat) ++ [58, 32] ++ x.2 ++ [10]) := Lib.hid rfl
      -- the search in the starts
      have hidx := sts_idx (xs := s.data.toList) hle
      have hat := sts_at (xs := s.data.toList) hle
      have HBS : Hid (∀ (W : World), Grew wr W → Calls Tryd.prog 38 #[.slice (some ⟨sb, 0, none⟩) (stz s.data.toList s.size).length sc, .int .i64 ((q : Int) + 1)] W fun e w' => (∃ f, e = .returned (.tuple #[.int .i64 (lin s.data.toList q : Nat), .bool f])) ∧ ∃ z, w' = W.drewN z) := Lib.hid (fun W hg => by
        have hrd := ((HO.out.kept hg).rd encN).2
        have h1 := Tryd.slices_BinarySearch_int sb 0 (stz s.data.toList s.size).length sc (stz s.data.toList s.size) ((q : Int) + 1) W (Nat.le_refl _) (by rw [HZL.out]; omega) (fun j hj => by
          have h2 := hrd.cell (i := j) (List.getElem?_eq_getElem hj) (j := 0) rfl
          rw [List.getD_eq_getElem?_getD, List.getElem?_eq_getElem hj]
          simpa using h2) (by rw [List.take_length]; exact stz_asc _ _)
        rw [List.take_length, stz_count hle] at h1
        exact h1.mono fun _ _ ⟨a, z, b⟩ => ⟨⟨_, a⟩, z, b⟩)
      have HIX : Hid (∀ (W : World), Grew wr W → W.cell? ⟨sb, lin s.data.toList q - 1, none⟩ = some (.int .i64 (lst s.data.toList q : Nat))) := Lib.hid (fun W hg => by
        have hrd := ((HO.out.kept hg).rd encN).2
        have hz : (stz s.data.toList s.size)[lin s.data.toList q - 1]? = some ((lst s.data.toList q : Nat) : Int) := by
          unfold stz
          rw [List.getElem?_map, hat]
          rfl
        have h2 := hrd.cell hz (j := 0) rfl
        simpa using h2)
      have hln1 : (lin s.data.toList q : Int) - 1 < ((stz s.data.toList s.size).length : Nat) := by
        have h3 := lin_mono s.data.toList hle
        rw [HZL.out]
        omega
      have hidx2 : (lin s.data.toList q : Int) - 1 = ((lin s.data.toList q - 1 : Nat) : Int) := by omega
      generalize fline s.data.toList q x.2 = fl at HFE HFN
      generalize hl0 : lin s.data.toList q = l0 at *
      generalize col s.data.toList q = c0 at *
      generalize lst s.data.toList q = st at *
      generalize hll : (stz s.data.toList s.size).length = ll at *
      have hl1 := itoa_len l0 (by omega)
      have hl2 := itoa_len c0 (by omega)
      clear hq hat hidx hl0
      have HLL := Lib.hid (And.intro hl1 (And.intro hl2 hxt))
      clear hl1 hl2 hxt
      have HBO := Lib.hid HB.out
      go_wp2_with (first
        | (go_at_call 28; (with_reducible refine (HPX.out _).mono ?_); rintro e w2 ⟨rfl, rfl⟩)
        | (go_at_call 38; (with_reducible refine (HBS.out _ ((Grew.refl _).alloc _)).mono ?_); rintro e w3 ⟨⟨f3, rfl⟩, z3, rfl⟩; generalize hV : World.drewN (World.alloc _ _) _ = V; have hgV : Grew wr V := (by subst hV; exact ((Grew.refl _).alloc _).trans (grew_drewN _ _)); have hix := HIX.out V hgV; have hbV : Blk wr.heap.size (itc x) 37 V := (by subst hV; exact (Blk.new wr _ _).grew (grew_drewN _ _)); have HGV := Lib.hid hgV; have HBV := Lib.hid hbV; clear hV hgV hbV))
      have hgV := HGV.out
      have hbV := HBV.out
      generalize wr.heap.size = S at hbV
      obtain ⟨hl1, hl2, hxt⟩ := HLL.out
      have d0 : Atv ⟨S, 0, none⟩ (.int .i64 x.1) V.drew := (hbV.grew (Grew.refl _).drw).atv 0 rfl
      have d1 : Atv ⟨S, 1, none⟩ (.string ⟨x.2.toArray⟩) V.drew := (hbV.grew (Grew.refl _).drw).atv 1 rfl
      have HEV := Lib.hid ((HEV0.out.grew HG.out).grew (hgV.drw))
      refine wp_grew_tail 10 [some 40, some 41, some 42, some 43, some 44, some 45, some 46, some 47, some 48, some 49] [false, false, false, false, false, false, false, false, false, false, false, false, false, false, false, false, false, false, false, false, false, false, false, false, false, false, false, false, false, false, false, false, false, false, false, false, false, false, false, false, true, true, true, true, true, true, true, true, true, true, false, false, false, false] [fun v _ => v = .int .i64 (((l0 : Nat) : Int)), fun v _ => v = .string ⟨(itoa (((l0 : Nat) : Int))).toArray⟩, fun v _ => v = .string ⟨((itoa (((l0 : Nat) : Int))) ++ ([58])).toArray⟩, fun v _ => v = .int .i64 (((c0 : Nat) : Int)), fun v _ => v = .string ⟨(itoa (((c0 : Nat) : Int))).toArray⟩, fun v _ => v = .string ⟨(((itoa (((l0 : Nat) : Int))) ++ ([58])) ++ (itoa (((c0 : Nat) : Int)))).toArray⟩, fun v _ => v = .string ⟨((((itoa (((l0 : Nat) : Int))) ++ ([58])) ++ (itoa (((c0 : Nat) : Int)))) ++ ([58, 32])).toArray⟩, fun v _ => v = .pointer (some ⟨S, 1, none⟩), fun v _ => v = .string ⟨(x.2).toArray⟩, fun v _ => v = .string ⟨(((((itoa (((l0 : Nat) : Int))) ++ ([58])) ++ (itoa (((c0 : Nat) : Int)))) ++ ([58, 32])) ++ (x.2)).toArray⟩] (by kernel_rfl) (by kernel_rfl) (by kernel_rfl) rfl ?_ ⟨?_, ?_, ?_, ?_, ?_, ?_, ?_, ?_, ?_, ?_, trivial⟩ ?_
      · exact ⟨fun _ _ _ _ h => h, fun _ _ _ _ h => h, fun _ _ _ _ h => h, fun _ _ _ _ h => h, fun _ _ _ _ h => h, fun _ _ _ _ h => h, fun _ _ _ _ h => h, fun _ _ _ _ h => h, fun _ _ _ _ h => h, fun _ _ _ _ h => h, trivial⟩
      · intro u w hR hd; exact runs_mv (ev rfl) ⟨Grew.refl _, rfl⟩
      · intro u w hR hd; exact runs_c1 enters_itoa (ev (hd.1 rfl)) (callp (fun _ e => e) (itoa_any _ (by omega) _ (HEV.out.grew hR)))
      · intro u w hR hd; exact rn_cat_9 (ev (hd.1 rfl)) rfl (by first | omega | (simp <;> omega)) ⟨Grew.refl _, rfl⟩
      · intro u w hR hd; exact runs_mv (ev rfl) ⟨Grew.refl _, rfl⟩
      · intro u w hR hd; exact runs_c1 enters_itoa (ev (hd.1 rfl)) (callp (fun _ e => e) (itoa_any _ (by omega) _ (HEV.out.grew hR)))
      · intro u w hR hd; exact rn_cat_9 (ev (hd.1 rfl)) (ev (hd.2.1 rfl)) (by first | omega | (simp <;> omega)) ⟨Grew.refl _, rfl⟩
      · intro u w hR hd; exact rn_cat_9 (ev (hd.1 rfl)) rfl (by first | omega | (simp <;> omega)) ⟨Grew.refl _, rfl⟩
      · intro u w hR hd; exact rn_fld_37_1 (ev rfl) ⟨Grew.refl _, rfl⟩
      · intro u w hR hd; exact rn_ld_9 (ev (hd.1 rfl)) (d1.kept hR) ⟨Grew.refl _, rfl⟩
      · intro u w hR hd; exact rn_cat_9 (ev (hd.1 rfl)) (ev (hd.2.1 rfl)) (by first | omega | (simp <;> omega)) ⟨Grew.refl _, rfl⟩
      · intro u w4 hR h
        have hv9 : u 49 = .string ⟨(itoa (l0 : Nat) ++ [58] ++ itoa (c0 : Nat) ++ [58, 32] ++ x.2).toArray⟩ := h 9 (by decide)
        have hg4 : Grew wr w4 := hgV.drw.trans hR
        have HB4 := HB.out.grew hg4
        have HW4 := HW.out.grew hg4 HSZ1.out
        have hN4 : w.heap.size ≤ w4.heap.size := Nat.le_trans HG.out.sz hg4.sz
        refine wpAny_one (i := 10) (some 50) (by kernel_rfl) rfl rfl rfl (runs_c2 enters_ws (ev rfl) (ev hv9) ?_)
        refine (wstr_any w.heap.size B _ (itoa (l0 : Nat) ++ [58] ++ itoa (c0 : Nat) ++ [58, 32] ++ x.2) w4 HB4 (by have := HPRL.out; simp; omega) hN4).mono ?_
        rintro e w5 ⟨⟨v5, rfl⟩, b5, k5⟩
        refine ⟨v5, rfl, ?_⟩
        refine wpAny_done (by kernel_rfl) ?_ _
        simp only [Act.put, mixA, mixL, cond_true, cond_false, List.setIfInBounds_toArray, List.set_cons_succ, List.set_cons_zero]
        have HB5 := Lib.hid b5
        have HW5 := Lib.hid (HW4.trans k5)
        have HL5 : Hid ((fmt s.data.toList (xs.take k) ++ (itoa (l0 : Nat) ++ [58] ++ itoa (c0 : Nat) ++ [58, 32] ++ x.2)).length ≤ 1000000) := Lib.hid (by have := HPRL.out; simp; omega)
        have HN5 := Lib.hid (Nat.le_trans hN4 k5.1.size)
        clear h hv9 d0 d1 hbV hR hgV hg4 HB4 HW4 hN4 b5 k5 hl1 hl2 hxt
        go_wp2_with (go_at_call 41; (with_reducible refine (wbyte_lf _ _ _ _ HB5.out HL5.out HN5.out).mono ?_); rintro e w6 ⟨rfl, b6, k6⟩; have HB6 := Lib.hid b6; have HW6 := Lib.hid (HW5.out.trans k6); clear b6 k6)
        go_roundg (xs.length - (k + 1))
        case measure => have := HLT.out; omega
        case rel => exact ⟨k + 1, by go_num, HLT.out, rfl, Lib.hid (by rw [HFN.out, HFE.out, ← List.append_assoc]; exact HB6.out), HW6⟩
    · obtain rfl : k = xs.length := by omega
      rw [List.take_length] at HB
      go_wp2_with (go_at_call 42; (with_reducible refine (str_any _ _ _ _ HB.out HG.out.sz).mono ?_); rintro e w6 ⟨rfl, k6⟩; have HK6 : Hid (Grew w w6) := Lib.hid (Below.trans HG.out k6); clear k6)
      go_ret
      exact ⟨rfl, HK6.out⟩
end Go.Proofs.YtmnncildkomagaaDoor
