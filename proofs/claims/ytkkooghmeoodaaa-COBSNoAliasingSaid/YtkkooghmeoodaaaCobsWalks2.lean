/-
  CONTRACTS OF THE REFERENCE OF LAYER 3 (cobs): Same, Encode.
-/
import Derived.Test.YtkkooghmeoodaaaCobsWalks
import Derived.Deep.LoopGhost
import Derived.Deep.CutBlock
import Derived.Deep.DeepCutAuto
namespace Go.Proofs.Ytkkooghmeoodaaa
open Go.RowKit Go.IntWalk

theorem ret_bool {a b : Bool} (h : a = b) : Ending.returned (.bool a) = .returned (.bool b) := by rw [h]
theorem same_any (p : Option Addr) (n c : Nat) (xs : List UInt8) (q : Option Addr) (m d : Nat) (ys : List UInt8) (w : World) (hl : xs.length = n) (h : Bin w p c xs) (hm : ys.length = m) (h' : Bin w q d ys) :
    Calls Try.prog 12 #[.slice p n c, .slice q m d] w fun e w' => e = .returned (.bool (decide (xs = ys))) ∧ w = w' := by
  have h1 := h.convert (P := Try.prog) n hl 22 9 5 Try.underlying22 Try.underlying5 Try.underlying9
  have h2 := h'.convert (P := Try.prog) m hm 22 9 5 Try.underlying22 Try.underlying5 Try.underlying9
  go_enter Try.func12, Try.ntmps12
  go_wp2_with fail
  go_ret
  exact ⟨ret_bool (by rw [Bool.eq_iff_iff]; simp), rfl⟩
theorem own_nil (w : World) (base : Nat) (e : TypeId) : Own w base e (.slice none 0 0) [] := World.ownsRow_nil w base e 1

theorem rn_found {xs : List UInt8} {k m : Nat} (h1 : m ≤ 254) (h2 : k + m ≤ xs.length) (h3 : Nz ((xs.drop k).take m)) (h4 : m < 254 → k + m < xs.length → xs.getD (k + m) 0 = 0) : m = rn (xs.drop k) := by
  refine (rn_unique _ _ h1 (by simp; omega) h3 fun a b => ?_).symm
  have := h4 a (by simp at b; omega)
  simpa [List.getD, List.getElem?_drop] using this
theorem nz_more {xs : List UInt8} {k m : Nat} (h : Nz ((xs.drop k).take m)) (h2 : k + m < xs.length) (h3 : xs.getD (k + m) 0 ≠ 0) : Nz ((xs.drop k).take (m + 1)) := by
  rw [List.take_add_one]
  refine nz_append.2 ⟨h, fun c hc => ?_⟩
  rw [List.getElem?_drop, List.getElem?_eq_getElem h2] at hc
  simp at hc
  subst hc
  simpa [List.getD, h2] using h3

set_option maxRecDepth 20000 in
set_option maxHeartbeats 1000000 in
theorem rencode_any (p : Option Addr) (n c : Nat) (xs : List UInt8) (w : World) (hl : xs.length = n) (hs : n ≤ 4294967296) (h : Bin w p c xs) :
    Calls Try.prog 14 #[.slice p n c] w fun e w' => ∃ p' c', e = .returned (.slice p' (encz xs).length c') ∧ Own w' w.heap.size 5 (.slice p' (encz xs).length c') (encz xs) ∧ Below w.heap.size w w' := by
  subst hl
  have ht := top_le xs.length
  rcases h.parts with rfl | ⟨hn, b, o, rfl⟩
  · have HB := Lib.hid (Below.refl w.heap.size w)
    go_enter Try.func14, Try.ntmps14
    go_wp2_with fail
    refine wp_loop_rounds 1 ?_
    rw [rounds_succ]
    go_wp2_with fail
    refine wp_loop_rounds 1 ?_
    rw [rounds_succ]
    go_wp2_with (first
      | (at_builtin; refine wpList_append_bytes rfl (.tmp 27) _ 22 rfl w.heap.size 5 _ Try.underlying22 info_u8 rfl _ [] rfl (own_nil _ _ _) _ 1 1 _ rfl rfl (Bin.made _ [1] 1 _ _ _ rfl rfl (by omega)) (by simp) (size_alloc_le _ (Nat.le_refl _)) ?_; intro p3 c3 ys w3 hy ho3 hb3'; have hb3 := Lib.hid ((HB.out.alloc (Nat.le_refl _) _).trans hb3'); clear hb3')
      | (refine wpList_cut_lh rfl (.tmp 34) _ (.tmp 35) (.tmp 38) rfl under_bytes size_u8 _ _ c [] rfl rfl h _ _ _ _ 0 0 rfl rfl rfl rfl (Nat.le_refl _) (Nat.le_refl _) ?_; intro p5 c5 n5 gs hgl hg hn5 hgb)
      | (at_builtin; refine wpList_append_bytes rfl (.tmp 33) _ 22 rfl w.heap.size 5 _ Try.underlying22 info_u8 rfl _ ys rfl ho3 _ _ _ gs rfl (by omega) (hgb.kept hb3.out) (by rw [hy.out]; simp; omega) hb3.out.size ?_; intro p4 c4 us w4 hu ho4 hb4'; have hb4 := Lib.hid (hb3.out.trans hb4'); clear hb4')
      | (at_builtin; refine wpList_append_bytes rfl (.tmp 48) _ 22 rfl w.heap.size 5 _ Try.underlying22 info_u8 rfl _ us rfl (ho4.alloc _) _ 1 1 _ rfl rfl (Bin.made _ _ 1 _ _ _ zero_cell rfl (by omega)) (by rw [hu.out, hy.out]; simp; omega) (size_alloc_le _ hb4.out.size) ?_; intro p6 c6 ts w6 ht ho6 hb6))
    go_ret
    have e : ts = encz [] := by
      rw [ht.out, hu.out, hy.out, hg.out, encz, enc_stop [] 0 rfl rfl]
      rfl
    subst e
    exact ⟨p6, c6, rfl, ho6, (hb4.out.alloc hb4.out.size _).trans hb6⟩
  · have hcap := h.cap
    have hmax := h.max
    have HI := Lib.hid h
    go_enter Try.func14, Try.ntmps14
    go_wp2_with fail
    go_loopg [3, 4, 5] xs.length (fun g v a i wr => ∃ (p2 : Option Addr) (n2 c2 : Nat) (zs : List UInt8) (k : Nat), a = .int .i64 k ∧ v = .slice p2 n2 c2 ∧ k ≤ xs.length ∧ g = xs.length - k ∧ Hid (Own wr w.heap.size 5 (.slice p2 n2 c2) zs) ∧ Hid (Below w.heap.size w wr) ∧ Hid (zs ++ enc (xs.drop k) = enc xs))
    case atStart => exact ⟨none, 0, 0, [], 0, rfl, rfl, Nat.zero_le _, rfl, own_nil _ _ _, Below.refl _ _, rfl⟩
    case round =>
      obtain ⟨p2, n2, c2, zs, k, rfl, rfl, hk, rfl, hzs, hbw, hen⟩ := hrel
      have hsz2 := enc_size _ _ _ hen.out
      rw [List.length_drop] at hsz2
      obtain rfl := hzs.out.bin.1
      go_upto_block 2 with fail
      go_cut [5] (fun i wx => ∃ m : Nat, wx = wr ∧ i = .int .i64 m ∧ m ≤ 254 ∧ k + m ≤ xs.length ∧ Hid (m = rn (xs.drop k)))
      case first =>
        go_wp2_with fail
        go_loopg [5] 254 (fun g i wx => ∃ m : Nat, wx = wr ∧ i = .int .i64 m ∧ m ≤ 254 ∧ g = 254 - m ∧ k + m ≤ xs.length ∧ Hid (Nz ((xs.drop k).take m)))
        case atStart => exact ⟨0, rfl, rfl, by omega, rfl, by omega, by simp [Hid, Nz]⟩
        case round =>
          obtain ⟨m, rfl, rfl, hm, rfl, hkm, hnz⟩ := hrel
          have hcx : (k : Int) + (m : Int) < (xs.length : Int) → wr.cell? ⟨b, o + (k + m), none⟩ = some (.int .u8 ((xs.getD (k + m) 0).toNat : Int)) := fun h => (HI.out.kept hbw.out).cell _ (by omega)
          obtain ⟨d, hd⟩ : ∃ d, d = xs.getD (k + m) 0 := ⟨_, rfl⟩
          rw [← hd] at hcx
          have HD := Lib.hid hd
          clear hd
          have l1 := d.toNat_lt
          go_wp2_with fail
          · have hd0 : d ≠ 0 := by
              rename_i h0
              intro e
              rw [e] at h0
              simp at h0
            go_roundg (254 - (m + 1))
            case measure => omega
            case rel => exact ⟨m + 1, rfl, by go_num, by omega, rfl, by omega, nz_more hnz.out (by omega) (by rw [← HD.out]; exact hd0)⟩
          · have hd0 : d = 0 := by rename_i h0; exact UInt8.toNat_inj.1 (by simpa using h0)
            go_meet
            exact ⟨m, rfl, rfl, hm, hkm, rn_found hm hkm hnz.out fun _ _ => by rw [← HD.out]; exact hd0⟩
          · go_meet
            exact ⟨m, rfl, rfl, hm, hkm, rn_found hm hkm hnz.out fun _ _ => by omega⟩
          · go_meet
            exact ⟨m, rfl, rfl, hm, hkm, rn_found hm hkm hnz.out fun _ _ => by omega⟩
      case rest =>
        obtain ⟨m, rfl, rfl, hm, hkm, hrn⟩ := hcut
        go_wp2_with (first
          | (at_builtin; refine wpList_append_bytes rfl (.tmp 27) _ 22 rfl w.heap.size 5 _ Try.underlying22 info_u8 rfl _ zs rfl (hzs.out.alloc _) _ 1 1 _ rfl rfl (Bin.made _ _ 1 _ _ _ (code_cell _ hm) rfl (by omega)) (by simp; omega) (size_alloc_le _ hbw.out.size) ?_; intro p3 c3 ys w3 hy ho3 hb3'; have hb3 := Lib.hid ((hbw.out.alloc hbw.out.size _).trans hb3'); clear hb3')
          | (refine wpList_cut_lh rfl (.tmp 34) _ (.tmp 35) (.tmp 38) rfl under_bytes size_u8 _ _ c xs rfl rfl HI.out _ _ _ _ k (k + m) rfl rfl rfl (by omega) (by omega) (by omega) ?_; intro p5 c5 n5 gs hgl hg hn5 hgb)
          | (at_builtin; refine wpList_append_bytes rfl (.tmp 33) _ 22 rfl w.heap.size 5 _ Try.underlying22 info_u8 rfl _ ys rfl ho3 _ _ _ gs rfl (by omega) (hgb.kept hb3.out) (by rw [hy.out]; simp; omega) hb3.out.size ?_; intro p4 c4 us w4 hu ho4 hb4'; have hb4 := Lib.hid (hb3.out.trans hb4'); clear hb4')
          | (at_builtin; refine wpList_append_bytes rfl (.tmp 48) _ 22 rfl w.heap.size 5 _ Try.underlying22 info_u8 rfl _ us rfl (ho4.alloc _) _ 1 1 _ rfl rfl (Bin.made _ _ 1 _ _ _ zero_cell rfl (by omega)) (by rw [hu.out, hy.out]; simp; omega) (size_alloc_le _ hb4.out.size) ?_; intro p6 c6 ts w6 ht ho6 hb6))
        · rename_i hz
          have hz : k + m = xs.length := by simp at hz; omega
          go_ret
          have e : ts = encz xs := by
            rw [ht.out, hu.out, hy.out, hg.out, encz, ← hen.out, enc_stop (xs.drop k) m hrn.out (by simp; omega), show k + m = k + m from rfl, ← List.take_drop]
            simp
          subst e
          exact ⟨p6, c6, rfl, ho6, (hb4.out.alloc hb4.out.size _).trans hb6⟩
        · rename_i hz hm3
          have hz : k + m ≠ xs.length := by simp at hz; omega
          go_roundg (xs.length - (k + m + 1))
          case measure => omega
          case rel =>
            refine ⟨p4, _, c4, us, k + m + 1, by go_num, rfl, by omega, rfl, ho4, hb4, Lib.hid ?_⟩
            rw [hu.out, hy.out, hg.out, ← hen.out, enc_step (xs.drop k) m hrn.out (by simp; omega), show stp m = m + 1 by simp [stp]; omega, List.drop_drop, ← List.take_drop]
            simp
            rw [Nat.add_assoc]
        · rename_i hz hm3
          have hz : k + m ≠ xs.length := by simp at hz; omega
          go_roundg (xs.length - (k + m))
          case measure => omega
          case rel =>
            refine ⟨p4, _, c4, us, k + m, by go_num, rfl, by omega, rfl, ho4, hb4, Lib.hid ?_⟩
            rw [hu.out, hy.out, hg.out, ← hen.out, enc_step (xs.drop k) m hrn.out (by simp; omega), show stp m = m by simp [stp]; omega, List.drop_drop, ← List.take_drop]
            simp
end Go.Proofs.Ytkkooghmeoodaaa
