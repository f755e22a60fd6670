/-
  The statement of layer 3 (cobs) about splitters, walked.
-/
import Derived.Test.YtkkooghmeoodaaaCobsSame
namespace Go.Proofs.Ytkkooghmeoodaaa
open Go Go.RowKit Go.IntWalk
set_option linter.unusedSimpArgs false

theorem spl_new (w : World) (most : Nat) : Spl (w.alloc (spl0 (most : Int))) w.heap.size most [] 0 :=
  ⟨none, 0, 0, heap_alloc_new w _, OwnV.nil _ _ _⟩
theorem samepk_ex (p : Option Addr) (n c : Nat) (la : List Pk) (q : Option Addr) (m d : Nat) (lb : List Pk) (w : World) (hn : la.length = n) (h : BinV w p c (pkv la)) (hm : lb.length = m) (h' : BinV w q d (pkv lb)) (hba : ∀ t ∈ la, Bin w t.p t.c t.x) (hbb : ∀ t ∈ lb, Bin w t.p t.c t.x) (he : la.map Pk.x = lb.map Pk.x) :
    Calls Try.prog 22 #[.slice p n c, .slice q m d] w fun e w' => e = .returned (.bool true) ∧ Below w.heap.size w w' :=
  (samepk_any p n c la q m d lb w hn h hm h' hba hbb).mono fun e w' h => by simpa [he] using h

/-- What the law has of a splitter behind j bytes of the stream xs. -/
structure At (w0 : World) (sb most : Nat) (xs : List UInt8) (w : World) (p : Option Addr) (n c : Nat) (l : List Pk) (cd : List UInt8) (sk j : Nat) : Prop where
  own : OwnV w w0.heap.size 22 (.slice p n c) (pkv l)
  pk : ∀ t ∈ l, PkIn w sb t
  spl : Spl w sb most (cd.take (top most + 1)) sk
  old : Below w0.heap.size w0 w
  st : stL most ⟨[], [], 0⟩ (xs.take j) = ⟨cd, l.map Pk.x, sk⟩
  len : l.length ≤ j
  skip : sk ≤ j
theorem At.bin {w0 : World} {sb most : Nat} {xs : List UInt8} {w : World} {p : Option Addr} {n c : Nat} {l : List Pk} {cd : List UInt8} {sk j : Nat} (h : At w0 sb most xs w p n c l cd sk j) (hsb : w0.heap.size ≤ sb) {q : Option Addr} {d : Nat} {ys : List UInt8} (hy : Bin w0 q d ys) : ∀ w', Off w.heap.size sb w w' → Bin w' q d ys := fun _ hf =>
  hy.kept (h.old.trans (h.spl.below hf h.old.size hsb))
theorem stL_skip (most : Nat) (s : St) (xs : List UInt8) : (stL most s xs).skip ≤ s.skip + xs.length := by
  induction xs generalizing s with
  | nil => simp [stL]
  | cons c xs ih =>
    have e : stL most s (c :: xs) = stL most (stB most s c) xs := rfl
    rw [e]
    have := ih (stB most s c)
    have h2 : (stB most s c).skip ≤ s.skip + 1 := by
      unfold stB
      split
      · simp
      · split
        · simp
        · split <;> simp
    simp; omega
/-- Write and append, together. -/
theorem At.next {w0 : World} {sb most : Nat} {xs ys : List UInt8} {w w2 w3 : World} {p p3 : Option Addr} {n c n3 c3 : Nat} {l l' : List Pk} {cd : List UInt8} {sk j i : Nat} (h : At w0 sb most xs w p n c l cd sk j) (hsb : w0.heap.size ≤ sb) (hy : ys = (xs.drop j).take i) (hi : ys.length = i)
    (hl' : l'.length ≤ ys.length) (h2 : ∀ t ∈ l', PkIn w2 sb t) (h3 : Spl w2 sb most ((stL most ⟨cd, [], sk⟩ ys).cand.take (top most + 1)) (stL most ⟨cd, [], sk⟩ ys).skip) (h4 : Off w.heap.size sb w w2) (h5 : l'.map Pk.x = (stL most ⟨cd, [], sk⟩ ys).out)
    (ho2 : OwnV w2 w0.heap.size 22 (.slice p n c) (pkv l)) (ha : Appended w2 w0.heap.size 22 p c (pkv l ++ pkv l') (.slice p3 n3 c3) w3) :
    ∃ cd' sk', At w0 sb most xs w3 p3 n3 c3 (l ++ l') cd' sk' (j + i) := by
  have hb2 : Below w0.heap.size w0 w2 := h.old.trans (h.spl.below h4 h.old.size hsb)
  obtain ⟨h6a, h6b, h6c⟩ := list_append ho2 h3 ha hb2.size
  obtain ⟨q, d, hv, ho6, _, _, _⟩ := id ha
  simp only [Value.slice.injEq] at hv
  obtain ⟨rfl, rfl, rfl⟩ := hv
  have hst := h.st
  have htk : xs.take (j + i) = xs.take j ++ ys := by rw [hy, List.take_add]
  have hskip := stL_skip most ⟨cd, [], sk⟩ ys
  have hsk := h.skip
  have hlen := h.len
  refine ⟨(stL most ⟨cd, [], sk⟩ ys).cand, (stL most ⟨cd, [], sk⟩ ys).skip, ?_, fun t ht => h6b t ?_, h6a, hb2.trans ?_, ?_, by simp; omega, by simp at hskip; omega⟩
  · rw [pkv_append]; exact ho6
  · rcases List.mem_append.1 ht with ht | ht
    · exact (h.pk t ht).off h4 (Nat.le_refl _)
    · exact h2 t ht
  · exact h3.below h6c (Nat.le_refl _) hsb
  · rw [htk, stL_append, hst, stL_out, List.map_append, h5]

set_option maxRecDepth 20000 in
set_option maxHeartbeats 4000000 in
theorem splitter_walk (p : Option Addr) (n c : Nat) (xs : List UInt8) (q : Option Addr) (m d : Nat) (cs : List UInt8) (z : Int) (w : World) (hl : xs.length = n) (h : Bin w p c xs) (hm : cs.length = m) (h' : Bin w q d cs) (hz0 : -9223372036854775808 ≤ z) (hz1 : z ≤ 9223372036854775807) :
    Calls Try.prog 8 #[.slice p n c, .slice q m d, .int .i64 z] w fun e w' => e = .returned (.bool true) ∧ Below w.heap.size w w' := by
  have HB := Lib.hid (Below.refl w.heap.size w)
  by_cases hbig : 600 < n ∨ 100 < m
  · rcases hbig with hbig | hbig
    all_goals
      go_enter Try.func8, Try.ntmps8
      go_wp2_with (go_at_call 11; (with_reducible refine (wakes_any _).mono ?_); rintro e w1 ⟨rfl, hb1⟩; replace HB := Lib.hid (HB.out.trans (hb1.mono HB.out.size)); clear hb1)
      all_goals (go_ret; exact ⟨rfl, HB.out⟩)
  · by_cases hbad : z < 1 ∨ 65536 < z
    · have hbn : ¬ 600 < n := by omega
      have hbm : ¬ 100 < m := by omega
      rcases hbad with hbad | hbad
      all_goals
        go_enter Try.func8, Try.ntmps8
        go_wp2_with (first
          | (go_at_call 11; (with_reducible refine (wakes_any _).mono ?_); rintro e w1 ⟨rfl, hb1⟩; replace HB := Lib.hid (HB.out.trans (hb1.mono HB.out.size)); clear hb1)
          | (go_at_call 19; (with_reducible refine (new_bad _ _ (by omega)).mono ?_); rintro e w2 ⟨rfl, rfl⟩))
        all_goals (go_ret; exact ⟨rfl, HB.out⟩)
    · obtain ⟨most, rfl⟩ : ∃ most : Nat, z = most := ⟨z.toNat, by omega⟩
      have hbn : ¬ 600 < n := by omega
      have hbm : ¬ 100 < m := by omega
      have hm1 : 1 ≤ most := by omega
      have hm2 : most ≤ 65536 := by omega
      subst hl hm
      have HI := Lib.hid h
      have HJ := Lib.hid h'
      have hcap := h.cap
      have hmax := h.max
      have hcap' := h'.cap
      have hmax' := h'.max
      clear h h' hz0 hz1 hbig hbad
      go_enter Try.func8, Try.ntmps8
      go_wp2_with (first
        | (go_at_call 11; (with_reducible refine (wakes_any _).mono ?_); rintro e w1 ⟨rfl, hb1⟩; replace HB := Lib.hid (HB.out.trans (hb1.mono HB.out.size)); clear hb1)
        | (go_at_call 19; (with_reducible refine (new_any _ _ (by omega) (by omega)).mono ?_); rintro e w2 ⟨rfl, hw2⟩))
      have hat0 : At w w1.heap.size most xs (w1.alloc (spl0 (most : Int))) none 0 0 [] [] 0 0 :=
        ⟨OwnV.nil _ _ _, (fun t ht => by cases ht), spl_new w1 most, HB.out.alloc HB.out.size _, rfl, Nat.le_refl _, Nat.le_refl _⟩
      have HS := Lib.hid HB.out.size
      subst hw2
      clear HB
      go_loopg [9, 10, 12, 13, 52] cs.length (fun g ov bv cv nv iv wr => ∃ (k j : Nat) (p1 : Option Addr) (n1 c1 : Nat) (rs : List UInt8) (p2 : Option Addr) (n2 c2 : Nat) (l : List Pk) (cd : List UInt8) (sk : Nat), ov = .slice p2 n2 c2 ∧ bv = .slice p1 n1 c1 ∧ iv = .int .i64 k ∧ k ≤ cs.length ∧ g = cs.length - k ∧ n2 = l.length ∧ rs.length = n1 ∧ j + n1 = xs.length ∧
        Hid (rs = xs.drop j) ∧ Hid (Bin w p1 c1 rs) ∧ Hid (At w w1.heap.size most xs wr p2 n2 c2 l cd sk j))
      case atStart => exact ⟨0, 0, p, _, c, xs, none, 0, 0, [], [], 0, rfl, rfl, rfl, by omega, rfl, rfl, rfl, by omega, rfl, HI, hat0⟩
      case round =>
        obtain ⟨k, j, p1, n1, c1, rs, p2, n2, c2, l, cd, sk, rfl, rfl, rfl, hk, rfl, rfl, rfl, hj, hrs, hrb, hat⟩ := hrel
        have hlen := hat.out.len
        have hskp := hat.out.skip
        have hrc := hrb.out.cap
        have hrm := hrb.out.max
        by_cases hkm : k < cs.length
        · have hkm' : (k : Int) < cs.length := by omega
          obtain ⟨b, o, hq, hcell⟩ := HJ.out.cells (by omega)
          subst hq
          have hc0 := (HJ.out.kept hat.out.old).cell k hkm
          obtain ⟨dd, hdd⟩ : ∃ dd, dd = cs.getD k 0 := ⟨_, rfl⟩
          rw [← hdd] at hc0
          have l1 := dd.toNat_lt
          clear hdd hcell
          obtain ⟨i, hi⟩ : ∃ i, i = min dd.toNat rs.length := ⟨_, rfl⟩
          have hmin : min (dd.toNat : Int) (rs.length : Int) = (i : Int) := by omega
          have hir : i ≤ rs.length := by omega
          clear hi
          go_wp2_with (first
            | (refine wpList_all_h rfl (.tmp 63) _ (.tmp 64) rfl under_bytes size_u8 p1 _ c1 rs rfl rfl hrb.out _ _ i rfl rfl (by omega) ?_; intro ys hyl hy hyb)
            | (go_at_call 20; (with_reducible refine (write_any w1.heap.size most sk cd p1 _ c1 ys _ hat.out.spl hm2 hyl (by omega) (by omega) (hat.out.bin HS.out (hyb.out _ hrb.out))).mono ?_); rintro e w4 ⟨p4, c4, l4, rfl, hl4, ho4, hp4, hs4, hf4, hx4, _⟩)
            | (at_builtin; refine wpList_append_vals rfl (.tmp 61) (.tmp 66) 35 rfl w.heap.size 22 _ 24 Try.underlying35 info_bytes rfl p2 _ c2 (pkv l) rfl (hat.out.own.off hat.out.spl (by decide) (by decide) hf4.out (Nat.le_refl _)) p4 _ c4 (pkv l4) rfl (pkv_len _) ho4.out.parts.2.1 (pkv_one _) (by rw [pkv_len, pkv_len]; omega) (by rw [pkv_len, pkv_len]; omega) (Nat.le_trans hat.out.old.size hf4.out.size) ?_; intro p5 c5 n5 w5 ha hn5)
            | (refine wpList_cut_l rfl (.tmp 68) _ (.tmp 69) rfl under_bytes size_u8 p1 _ c1 rs rfl rfl hrb.out _ _ i rfl rfl (by omega) ?_; intro p6 c6 n6 es hel he hn6 heb))
          have hys : ys = (xs.drop j).take i := by rw [hy.out, hrs.out]
          obtain ⟨cd', sk', hat'⟩ := At.next hat.out HS.out hys hyl hl4 hp4.out hs4.out hf4.out hx4.out (hat.out.own.off hat.out.spl (by decide) (by decide) hf4.out (Nat.le_refl _)) ha.out
          subst hn5
          go_roundg (cs.length - (k + 1))
          case measure => omega
          case rel => exact ⟨k + 1, j + i, p6, _, c6, es, p5, _, c5, l ++ l4, cd', sk', rfl, rfl, by go_num, by omega, rfl, by simp [pkv_len], hel.trans hn6, by omega, by rw [he.out, hrs.out, List.drop_drop]; exact Lib.hid rfl, heb, hat'⟩
        · obtain rfl : k = cs.length := by omega
          go_wp2_with (first
            | (go_at_call 20; (with_reducible refine (write_any w1.heap.size most sk cd p1 _ c1 rs _ hat.out.spl hm2 rfl (by omega) (by omega) (hat.out.bin HS.out hrb.out)).mono ?_); rintro e w4 ⟨p4, c4, l4, rfl, hl4, ho4, hp4, hs4, hf4, hx4, _⟩)
            | (at_builtin; refine wpList_append_vals rfl (.tmp 72) (.tmp 75) 35 rfl w.heap.size 22 _ 24 Try.underlying35 info_bytes rfl p2 _ c2 (pkv l) rfl (hat.out.own.off hat.out.spl (by decide) (by decide) hf4.out (Nat.le_refl _)) p4 _ c4 (pkv l4) rfl (pkv_len _) ho4.out.parts.2.1 (pkv_one _) (by rw [pkv_len, pkv_len]; omega) (by rw [pkv_len, pkv_len]; omega) (Nat.le_trans hat.out.old.size hf4.out.size) ?_; intro p5 c5 n5 w5 ha hn5; obtain ⟨cd', sk', hat0'⟩ := At.next hat.out HS.out (i := rs.length) (by rw [hrs.out, List.take_of_length_le (Nat.le_refl _)]) rfl hl4 hp4.out hs4.out hf4.out hx4.out (hat.out.own.off hat.out.spl (by decide) (by decide) hf4.out (Nat.le_refl _)) ha.out; have hat' := Lib.hid hat0'; clear hat0')
            | (go_at_call 21; (with_reducible refine (split_any p _ c xs most _ rfl (by omega) (HI.out.kept hat'.out.old)).mono ?_); rintro e w6 ⟨p6, c6, l6, rfl, ho6, hp6, hb6, hx6⟩; have hst6 := hat'.out.st; rw [hj, List.take_length] at hst6; have HST := Lib.hid hst6; clear hst6)
            | (go_at_call 22; (with_reducible refine (samepk_ex p5 _ c5 (l ++ l4) p6 _ c6 l6 _ (by simp [pkv_len]) (hat'.out.own.kept hb6).parts.2.1 rfl ho6.out.parts.2.1 (fun t ht => (hat'.out.pk t ht).bin.kept hb6) (fun t ht => (hp6.out t ht).bin) (by rw [hx6.out, HST.out])).mono ?_); rintro e w7 ⟨rfl, hb7⟩)
            | (go_at_call 23; (with_reducible refine (skipped_any w1.heap.size most sk' _ _ ((hat'.out.spl.kept hb6).kept hb7)).mono ?_); rintro e w8 ⟨rfl, rfl⟩))
          go_ret
          have ho6' := hat'.out.old.trans (hb6.mono hat'.out.old.size)
          exact ⟨ret_bool (by rw [HST.out]; simp), ho6'.trans (hb7.mono ho6'.size)⟩
end Go.Proofs.Ytkkooghmeoodaaa
