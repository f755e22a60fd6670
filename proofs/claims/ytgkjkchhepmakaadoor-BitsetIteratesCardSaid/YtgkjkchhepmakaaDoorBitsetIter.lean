/-
  THE STATEMENT BitsetIterates OF LAYER 4 (bitset): the collecting that stops.
-/
import Derived.Test.YtgkjkchhepmakaaDoorBitsetLaws
import Derived.Deep.RegionWith
namespace Go.Proofs.YtgkjkchhepmakaaDoor
open Go.RowKit Go.IntWalk

/-- One element is collected, up to L. -/
theorem put2_any (S T base L : Nat) (p2 : Option Addr) (n2 c2 : Nat) (ys : List Int) (x : Int) (st : Int) (W : World) (hst0 : 0 ≤ st) (hst1 : st ≤ 255) (hL : st % 20 + 1 = (L : Int)) (hn : Hid (n2 = ys.length)) (hc : W.cell? ⟨S, 0, none⟩ = some (.slice p2 n2 c2)) (hf : W.frozen? ⟨S, 0, none⟩ = false)
    (hT : W.cell? ⟨T, 0, none⟩ = some (.int .u8 st)) (hTS : T ≠ S) (hTb : T < base)
    (ho : Ow iv W base 3 (.slice p2 n2 c2) ys) (hS : S < base) (hb : base ≤ W.heap.size) (hl : n2 ≤ 65536) :
    Calls Tryd.prog 35 #[.int .i64 x, .pointer (some ⟨S, 0, none⟩), .pointer (some ⟨T, 0, none⟩)] W fun e W' => ∃ p3 c3, e = .returned (.bool (decide (n2 + 1 < L))) ∧ W'.cell? ⟨S, 0, none⟩ = some (.slice p3 (n2 + 1) c3) ∧ W'.frozen? ⟨S, 0, none⟩ = false ∧ Ow iv W' base 3 (.slice p3 (n2 + 1) c3) (ys ++ [x]) ∧ But base S W W' := by
  go_enter Tryd.func35, Tryd.ntmps35
  go_wp2_with (at_builtin; refine wpList_append_encs rfl (.tmp 5) (.tmp 7) 22 rfl iv_one base 3 _ 8 Tryd.underlying22 info_int rfl _ ys rfl (ho.alloc _) _ 1 1 [x] rfl rfl (Rd.made iv _ [x] 1 _ _ _ rfl rfl (by omega)) (by have := hn.out; simp; omega) (by have := hn.out; simp; omega) (size_alloc_ge _ hb) ?_; intro p3 c3 us w3 hu ho3 hb3; have hul : us.length = n2 + 1 := (by have e := congrArg List.length hu.out; have := hn.out; simp at e; omega); rw [hul] at ho3 ⊢; have hb03 := Lib.hid ((((Below.refl base W).alloc hb _).trans hb3)); have hc3 := (hb03.out.cell (p := ⟨S, 0, none⟩) hS).trans hc; have hf3 := (below_frozen hb03.out (p := ⟨S, 0, none⟩) hS).trans hf; have hT3 := (hb03.out.cell (p := ⟨T, 0, none⟩) hTb).trans hT; have hT4 : (w3.setCell ⟨S, 0, none⟩ (.slice p3 (n2 + 1) c3)).cell? ⟨T, 0, none⟩ = some (.int .u8 st) := (cell_off 0 _ (Ne.symm hTS)).trans hT3)
  go_ret
  have ho4 := ho3.off S 0 (.slice p3 (n2 + 1) c3) hS
  rw [hu.out] at ho4
  refine ⟨p3, c3, ret_bool ?_, World.cell?_setCell_same' _ _ _ (by rw [hc3]; rfl), by rw [World.frozen?_setCell]; exact hf3, ho4, (But.of_below hb03.out).trans (But.set _ _ _ _ _)⟩
  rw [Bool.eq_iff_iff, decide_eq_true_eq, decide_eq_true_eq]
  omega

theorem take_of_prefix {α : Type} {pre l : List α} (h : pre <+: l) : pre = l.take pre.length := by
  obtain ⟨t, rfl⟩ := h
  simp
theorem collect2_any (S T B L : Nat) (p : Option Addr) (n c : Nat) (f : Nat → Bool) (x : List Nat) (ws : List W64) (st : Int) (W0 : World) (hst0 : 0 ≤ st) (hst1 : st ≤ 255) (hL : st % 20 + 1 = (L : Int)) (hn : ws.length = n) (hs : Sets ws f) (hx : Lst f x) (hsrc : Src B p n c ws W0)
    (hp : 0 < ws.length → ∀ d o, p = some ⟨d, o, none⟩ → d < S) (hg : 0 < S) (hB : B < S) (hTS : T < S) (hsz : W0.heap.size = S + 1) (hc : W0.cell? ⟨S, 0, none⟩ = some (.slice none 0 0)) (hf : W0.frozen? ⟨S, 0, none⟩ = false)
    (hT : W0.cell? ⟨T, 0, none⟩ = some (.int .u8 st)) :
    Calls Tryd.prog 45 #[.func (.func 35) #[] #[.pointer (some ⟨S, 0, none⟩), .pointer (some ⟨T, 0, none⟩)], .pointer (some ⟨B, 0, none⟩)] W0 fun e W' => (∃ v, e = .returned v) ∧
      ∃ p2 c2, W'.cell? ⟨S, 0, none⟩ = some (.slice p2 (x.take L).length c2) ∧ Ow iv W' (S + 1) 3 (.slice p2 (x.take L).length c2) ((x.take L).map fun n : Nat => (n : Int)) ∧ But (S + 1) S W0 W' := by
  obtain rfl : x = elsFrom 0 ws := hx.unique hs.els (fun _ => rfl)
  have hsmall := hx.small hs.lt
  have hLpos : 0 < L := by omega
  refine (all1_any 35 #[.pointer (some ⟨S, 0, none⟩), .pointer (some ⟨T, 0, none⟩)] (enters_of Tryd.func35 (by kernel_rfl) rfl) B p n c ws hn hs.len
    (fun pre W => Src B p n c ws W ∧ (pre.length < L ∧ ∃ p2 c2, W.cell? ⟨S, 0, none⟩ = some (.slice p2 pre.length c2) ∧ W.frozen? ⟨S, 0, none⟩ = false ∧ Ow iv W (S + 1) 3 (.slice p2 pre.length c2) (pre.map fun n : Nat => (n : Int))) ∧ But (S + 1) S W0 W ∧ S + 1 ≤ W.heap.size)
    (fun pre W => pre.length = L ∧ (∃ p2 c2, W.cell? ⟨S, 0, none⟩ = some (.slice p2 pre.length c2) ∧ Ow iv W (S + 1) 3 (.slice p2 pre.length c2) (pre.map fun n : Nat => (n : Int))) ∧ But (S + 1) S W0 W) (fun pre W h => h.1) (fun pre k W hJ hpre => ?_) W0 ⟨hsrc, ⟨hLpos, none, 0, hc, hf, Ow.nil _ _ _⟩, But.refl _ _ _, by omega⟩).mono ?_
  · obtain ⟨hsr, ⟨hlt, p2, c2, h1, h2, h3⟩, hbut, hsz2⟩ := hJ
    have hlen := hpre.length_le
    simp only [List.length_append, List.length_cons, List.length_nil] at hlen
    have hT2 := (hbut.cell (p := ⟨T, 0, none⟩) (by simp; omega) (by simp; omega)).trans hT
    refine Calls.mono (show Calls _ _ #[_, _, _] W _ from put2_any S T (S + 1) L p2 pre.length c2 (pre.map fun n : Nat => (n : Int)) (k : Int) st W hst0 hst1 hL (Lib.hid (by simp)) h1 h2 hT2 (by omega) (by omega) h3 (by omega) hsz2 (by omega)) ?_
    rintro e W' ⟨p3, c3, rfl, g1, g2, g3, g4⟩
    have hsrc' : Src B p n c ws W' := ⟨(g4.cell (p := ⟨B, 0, none⟩) (by simp; omega) (by simp; omega)).trans hsr.1, Rd.but g4 hsr.2.1 (fun h0 d o e => by have := hp h0 d o e; omega), TabAt.but g4 (by omega) (by omega) hsr.2.2⟩
    have g1' : W'.cell? ⟨S, 0, none⟩ = some (.slice p3 (pre ++ [k]).length c3) := by rw [g1]; simp
    have g3' : Ow iv W' (S + 1) 3 (.slice p3 (pre ++ [k]).length c3) ((pre ++ [k]).map fun n : Nat => (n : Int)) := by simpa using g3
    by_cases hmore : pre.length + 1 < L
    · exact .inl ⟨by rw [decide_eq_true hmore], hsrc', ⟨by simpa using hmore, p3, c3, g1', g2, g3'⟩, hbut.trans g4, Nat.le_trans hsz2 g4.size⟩
    · exact .inr ⟨by rw [decide_eq_false hmore], by simp; omega, ⟨p3, c3, g1', g3'⟩, hbut.trans g4⟩
  · rintro e W' ⟨hv, h | ⟨pre, hpre, hl, ⟨p2, c2, h1, h3⟩, hbut⟩⟩
    · obtain ⟨_, ⟨hlt, p2, c2, h1, h2, h3⟩, hbut, _⟩ := h
      rw [← List.take_of_length_le (l := elsFrom 0 ws) (i := L) (by omega)] at h1 h3
      exact ⟨hv, p2, c2, h1, h3, hbut⟩
    · have e := take_of_prefix hpre
      rw [hl] at e
      rw [e] at h1 h3
      exact ⟨hv, p2, c2, h1, h3, hbut⟩
end Go.Proofs.YtgkjkchhepmakaaDoor
