/-
  CONTRACTS OF THE SPLITTER OF LAYER 3 (cobs): Write, walked.
-/
import Derived.Test.YtkkooghmeoodaaaCobsWrite
namespace Go.Proofs.Ytkkooghmeoodaaa
open Go Go.RowKit Go.IntWalk
set_option linter.unusedSimpArgs false

/-- What a call of Write returns: the packets, aside of the splitter; and what the splitter has then. -/
def Written (sb most sk : Nat) (cand xs : List UInt8) (w : World) (e : Ending) (w' : World) : Prop :=
  ∃ (p' : Option Addr) (c' : Nat) (l : List Pk), e = .returned (.slice p' l.length c') ∧ l.length ≤ xs.length ∧ Hid (OwnV w' w.heap.size 22 (.slice p' l.length c') (pkv l)) ∧ Hid (∀ t ∈ l, PkIn w' sb t) ∧
    Hid (Spl w' sb most ((stL most ⟨cand, [], sk⟩ xs).cand.take (top most + 1)) (stL most ⟨cand, [], sk⟩ xs).skip) ∧ Hid (Off w.heap.size sb w w') ∧ Hid (l.map Pk.x = (stL most ⟨cand, [], sk⟩ xs).out) ∧ Hid (∀ t ∈ l, ∀ a, t.p = some a → w.heap.size ≤ a.block)

theorem nz_or (xs : List UInt8) : Nz xs ∨ ∃ k, k < xs.length ∧ Nz (xs.take k) ∧ xs.getD k 0 = 0 := by
  rcases zat_any xs with ⟨_, h⟩ | ⟨k, _, h1, h2, h3⟩
  · exact .inl h
  · exact .inr ⟨k, h1, h2, h3⟩
theorem index_no (p : Option Addr) (n c : Nat) (xs : List UInt8) (w : World) (hl : xs.length = n) (h : Bin w p c xs) (hz : Nz xs) :
    Calls Try.prog 25 #[.slice p n c, .int .u8 0] w fun e w' => e = .returned (.int .i64 (-1)) ∧ w = w' :=
  (index_any p n c xs w hl h).mono fun e w' h => by
    obtain ⟨z, rfl, h1, rfl⟩ := h
    refine ⟨ret_i64 ?_, rfl⟩
    rcases h1 with ⟨h1, _⟩ | ⟨k, _, hk, _, h0⟩
    · exact h1
    · exact absurd h0 (hz _ (by simp [List.getD, hk]))
theorem index_at (p : Option Addr) (n c : Nat) (xs : List UInt8) (w : World) (k : Nat) (hl : xs.length = n) (h : Bin w p c xs) (hk : k < xs.length) (hz : Nz (xs.take k)) (h0 : xs.getD k 0 = 0) :
    Calls Try.prog 25 #[.slice p n c, .int .u8 0] w fun e w' => e = .returned (.int .i64 (k : Int)) ∧ w = w' :=
  (index_any p n c xs w hl h).mono fun e w' h => by
    obtain ⟨z, rfl, h1, rfl⟩ := h
    refine ⟨ret_i64 ?_, rfl⟩
    rcases h1 with ⟨_, h1⟩ | ⟨j, rfl, hj, hj1, hj2⟩
    · exact absurd h0 (h1 _ (by simp [List.getD, hk]))
    · rcases Nat.lt_trichotomy j k with hjk | hjk | hjk
      · exact absurd hj2 ((nz_get xs k).1 hz j hjk hj)
      · rw [hjk]
      · exact absurd h0 ((nz_get xs j).1 hj1 k hjk hk)
theorem info_bytes : (Try.prog.info? 22).map (fun i => (i.zero, i.size, i.bytes)) = some (some (.slice none 0 0), 1, 24) := by kernel_rfl
theorem at_zero (xs : List UInt8) (k : Nat) (hk : k < xs.length) (h0 : xs.getD k 0 = 0) : xs = xs.take k ++ [0] ++ xs.drop (k + 1) := by
  have := drop_cons_getD xs k hk
  rw [h0] at this
  rw [List.append_assoc, List.singleton_append, ← this, List.take_append_drop]
theorem stL_seg (most : Nat) (cd : List UInt8) (out : List (List UInt8)) (sk : Nat) (rs : List UInt8) (k : Nat) (hk : k < rs.length) (hz : Nz (rs.take k)) (h0 : rs.getD k 0 = 0) :
    stL most ⟨cd, out, sk⟩ rs = stL most (stB most ⟨(cd.take (top most + 1) ++ rs.take k).take (top most + 1), out, sk⟩ 0) (rs.drop (k + 1)) := by
  conv => lhs; rw [at_zero rs k hk h0, stL_append, stL_append, stL_nz most _ _ hz, stL_zero]
  rw [take_join, stB_cut]

set_option maxRecDepth 20000 in
set_option maxHeartbeats 2000000 in
theorem write_any (sb most sk : Nat) (cand : List UInt8) (p : Option Addr) (n c : Nat) (xs : List UInt8) (w : World) (hS : Spl w sb most (cand.take (top most + 1)) sk) (hm : most ≤ 65536) (hl : xs.length = n) (hn : n ≤ 4294967296) (hsk : sk + n ≤ 1099511627776) (hB0 : ∀ w', Off w.heap.size sb w w' → Bin w' p c xs) :
    Calls Try.prog 20 #[.pointer (some ⟨sb, 0, none⟩), .slice p n c] w (Written sb most sk cand xs w) := by
  subst hl
  have HB0 := Lib.hid hB0
  have HS0 := Lib.hid hS
  have hlt := hS.lt
  clear hB0 hS
  go_enter Try.func20, Try.ntmps20
  go_wp2_with fail
  go_loopg [1, 5, 6, 7, 8] xs.length (fun g bv lv ev pv kv wr => ∃ (p1 : Option Addr) (n1 c1 : Nat) (rs cd : List UInt8) (p2 : Option Addr) (n2 c2 : Nat) (l : List Pk) (sk2 : Nat), bv = .slice p1 n1 c1 ∧ lv = .slice p2 n2 c2 ∧ rs.length = n1 ∧ g = n1 ∧ n2 = l.length ∧ n1 ≤ xs.length ∧ n2 + n1 ≤ xs.length ∧ sk2 + n1 ≤ sk + xs.length ∧
    Hid (∀ w', Off w.heap.size sb w w' → Bin w' p1 c1 rs) ∧ Hid (OwnV wr w.heap.size 22 (.slice p2 n2 c2) (pkv l)) ∧ Hid (∀ t ∈ l, PkIn wr sb t) ∧ Hid (Spl wr sb most (cd.take (top most + 1)) sk2) ∧ Hid (Off w.heap.size sb w wr) ∧ Hid (stL most ⟨cand, [], sk⟩ xs = stL most ⟨cd, l.map Pk.x, sk2⟩ rs) ∧ Hid (∀ t ∈ l, ∀ a, t.p = some a → w.heap.size ≤ a.block))
  case atStart => exact ⟨p, _, c, xs, cand, none, 0, 0, [], sk, rfl, rfl, rfl, rfl, rfl, by omega, by omega, by omega, HB0, OwnV.nil _ _ _, (fun t ht => by cases ht), HS0, Off.refl _ _ _, rfl, (fun t ht => by cases ht)⟩
  case round =>
    obtain ⟨p1, n1, c1, rs, cd, p2, n2, c2, l, sk2, rfl, rfl, rfl, rfl, rfl, hn1, hn2, hsk2, hrs, hown, hpk, hspl, hoff, hst, hfr⟩ := hrel
    have hrsb := Lib.hid (hrs.out _ hoff.out)
    have hrc := hrsb.out.cap
    have hrm := hrsb.out.max
    rcases nz_or rs with hz | ⟨k, hk, hk1, hk2⟩
    · have HZ := Lib.hid hz
      clear hz
      go_wp2_with (first
        | (go_at_call 25; (with_reducible refine (index_no _ _ _ rs _ rfl hrsb.out HZ.out).mono ?_); rintro e w1 ⟨rfl, rfl⟩)
        | (go_at_call 26; (with_reducible refine (keep_any sb most sk2 _ _ _ _ rs _ hspl.out (by rw [List.length_take]; omega) hm rfl (by omega) hrsb.out).mono ?_); rintro e w2 ⟨rfl, hspl2, hoff2⟩))
      go_ret
      have he := hst.out
      rw [stL_nz most _ rs HZ.out] at he
      refine ⟨p2, c2, l, rfl, by omega, hown.out.off hspl.out (by decide) (by decide) hoff2 (Nat.le_refl _), fun t ht => (hpk.out t ht).off hoff2 (Nat.le_refl _), ?_, hoff.out.trans (hoff2.mono hoff.out.size), ?_, hfr⟩
      · rw [he]
        rw [take_join] at hspl2
        exact hspl2
      · rw [he]; rfl
    · have HK1 := Lib.hid hk1
      have HK2 := Lib.hid hk2
      clear hk1 hk2
      go_wp2_with (first
        | (go_at_call 25; (with_reducible refine (index_at _ _ _ rs _ k rfl hrsb.out hk HK1.out HK2.out).mono ?_); rintro e w1 ⟨rfl, rfl⟩)
        | (refine wpList_all_h rfl (.tmp 18) _ (.tmp 19) rfl under_bytes size_u8 p1 _ c1 rs rfl rfl hrsb.out _ _ k rfl rfl (by omega) ?_; intro gs hgl hg hgb)
        | (go_at_call 26; (with_reducible refine (keep_any sb most sk2 _ _ _ _ gs _ hspl.out (by rw [List.length_take]; omega) hm hgl (by omega) (hgb.out _ hrsb.out)).mono ?_); rintro e w2 ⟨rfl, hspl2', hoff2'⟩; have hspl2 := Lib.hid hspl2'; have hoff2 := Lib.hid hoff2'; clear hspl2' hoff2')
        | (refine wpList_all_l rfl (.tmp 22) _ (.tmp 24) rfl under_bytes size_u8 p1 _ c1 rs rfl rfl hrsb.out _ _ (k + 1) rfl (by omega) (by omega) ?_; intro p3 c3 n3 fs hfl hf hn3 hfb)
        | (go_at_call 27; (with_reducible refine (finish_any sb most sk2 _ _ hspl2.out (by rw [List.length_take]; omega) hm (by omega)).mono ?_); rintro e w4 ⟨p4, c4, ys, ok, sk4, rfl, hsk4, ho4, hout4, hspl4, hoff4, hst4⟩; have hown4 := Lib.hid ((hown.out.off hspl.out (by decide) (by decide) hoff2.out (Nat.le_refl _)).off hspl2.out (by decide) (by decide) hoff4.out (Nat.le_refl _)); have hoffw := Lib.hid ((hoff.out.trans (hoff2.out.mono hoff.out.size)).trans (hoff4.out.mono (Nat.le_trans hoff.out.size hoff2.out.size))))
        | (at_builtin; refine wpList_append_vals rfl (.tmp 32) (.tmp 34) 35 rfl w.heap.size 22 _ 24 Try.underlying35 info_bytes rfl p2 _ c2 (pkv l) rfl (hown4.out.keep fun a _ hl => Below.heap_alloc _ _ _ hl) _ 1 1 [.slice p4 ys.length c4] rfl rfl (BinV.made _ _ _ _) (by intro u hu; simp at hu; subst hu; rfl) (by rw [pkv_len]; simp; omega) (by rw [pkv_len]; simp; omega) (size_alloc_le _ hoffw.out.size) ?_; intro p6 c6 n6 w6 ha hn6))
      · rename_i hok
        have hst5 : stL most ⟨cand, [], sk⟩ xs = stL most ⟨[], if ok = true then l.map Pk.x ++ [ys] else l.map Pk.x, sk4⟩ fs := by
          rw [hst.out, stL_seg most cd _ sk2 rs k hk HK1.out HK2.out, ← hg.out, hst4.out, hf.out]
        have hpk4 : ∀ t ∈ l, PkIn w4 sb t := fun t ht => ((hpk.out t ht).off hoff2.out (Nat.le_refl _)).off hoff4.out (Nat.le_refl _)
        have hrs4 : ∀ w', Off w.heap.size sb w w' → Bin w' p3 c3 fs := fun w' h => hfb.out _ (hrs.out w' h)
        subst hok
        have hA : Off w4.heap.size sb w4 (w4.alloc (.cells #[.slice p4 ys.length c4] 22)) := Off.of_big ((Below.refl _ _).alloc (Nat.le_refl _) _) (Nat.le_refl _) hspl4.out.lt
        obtain ⟨h6a, h6b, h6c⟩ := list_append (hown4.out.keep fun a _ hl => Below.heap_alloc _ _ _ hl) (hspl4.out.kept ((Below.refl _ _).alloc (Nat.le_refl _) _)) ha.out (size_alloc_le _ hoffw.out.size)
        obtain ⟨p', c', hv, ho6, _, _, _⟩ := id ha.out
        simp only [Value.slice.injEq] at hv
        obtain ⟨rfl, _, rfl⟩ := hv
        rw [List.length_append] at ho6
        go_roundg (rs.length - (k + 1))
        case measure => omega
        case rel =>
          refine ⟨p3, _, c3, fs, [], p6, _, c6, l ++ [⟨p4, c4, ys⟩], sk4, rfl, rfl, hfl.trans hn3, rfl, by simp [pkv_len], by omega, by simp [pkv_len]; omega, by omega, hrs4, ?_, ?_, ?_, (hoffw.out.trans (hA.mono hoffw.out.size)).trans h6c, ?_, ?_⟩
          · rw [pkv_append]; exact ho6
          · intro t ht
            refine h6b t ?_
            rcases List.mem_append.1 ht with ht | ht
            · exact (hpk4 t ht).off hA (Nat.le_refl _)
            · obtain rfl := List.mem_singleton.1 ht
              exact PkIn.off ⟨ho4.out.bin.2, ho4.out.typ, hout4.out⟩ hA (Nat.le_refl _)
          · rw [List.take_nil]; exact h6a
          · rw [hst5]; simp [Hid]
          · intro t ht a ha2
            rcases List.mem_append.1 ht with ht | ht
            · exact hfr.out t ht a ha2
            · obtain rfl := List.mem_singleton.1 ht
              exact Nat.le_trans (Nat.le_trans hoff.out.size hoff2.out.size) (ho4.out.place a ha2).1
      · rename_i hok
        have hst5 : stL most ⟨cand, [], sk⟩ xs = stL most ⟨[], if ok = true then l.map Pk.x ++ [ys] else l.map Pk.x, sk4⟩ fs := by
          rw [hst.out, stL_seg most cd _ sk2 rs k hk HK1.out HK2.out, ← hg.out, hst4.out, hf.out]
        have hpk4 : ∀ t ∈ l, PkIn w4 sb t := fun t ht => ((hpk.out t ht).off hoff2.out (Nat.le_refl _)).off hoff4.out (Nat.le_refl _)
        have hrs4 : ∀ w', Off w.heap.size sb w w' → Bin w' p3 c3 fs := fun w' h => hfb.out _ (hrs.out w' h)
        go_roundg (rs.length - (k + 1))
        case measure => omega
        case rel =>
          refine ⟨p3, _, c3, fs, [], p2, _, c2, l, sk4, rfl, rfl, hfl.trans hn3, rfl, rfl, by omega, by omega, by omega, hrs4, hown4, hpk4, ?_, hoffw, ?_, hfr⟩
          · rw [List.take_nil]; exact hspl4
          · rw [hst5, if_neg (by simp [hok])]; rfl
end Go.Proofs.Ytkkooghmeoodaaa
