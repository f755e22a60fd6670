/-
  CONTRACTS OF THE STATEMENTS OF LAYER 4 (bitset): the collecting of a set's elements.
-/
import Derived.Test.YtgkjkchhepmakaaDoorBitsetRef3
namespace Go.Proofs.YtgkjkchhepmakaaDoor
open Go.RowKit Go.IntWalk

/-- Of the blocks below N only S may have changed. -/
structure But (N S : Nat) (w w' : World) : Prop where
  os : w'.os = w.os
  tape : w'.tape = w.tape
  output : w'.output = w.output
  size : w.heap.size ≤ w'.heap.size
  block : ∀ k, k < N → k ≠ S → w'.heap[k]? = w.heap[k]?
theorem But.refl (N S : Nat) (w : World) : But N S w w := ⟨rfl, rfl, rfl, Nat.le_refl _, fun _ _ _ => rfl⟩
theorem But.trans {N S : Nat} {a b c : World} (h : But N S a b) (h2 : But N S b c) : But N S a c :=
  ⟨h2.os.trans h.os, h2.tape.trans h.tape, h2.output.trans h.output, Nat.le_trans h.size h2.size, fun k hk hne => (h2.block k hk hne).trans (h.block k hk hne)⟩
theorem But.of_below {N S : Nat} {a b : World} (h : Below N a b) : But N S a b := ⟨h.os, h.tape, h.output, h.size, fun k hk _ => h.block k hk⟩
theorem But.below {N M S : Nat} {a b : World} (h : But N S a b) (hM : M ≤ N) (hS : M ≤ S) : Below M a b := ⟨h.os, h.tape, h.output, h.size, fun k hk => h.block k (by omega) (by omega)⟩
theorem But.set (N S j : Nat) (w : World) (v : Value) : But N S w (w.setCell ⟨S, j, none⟩ v) :=
  ⟨rfl, rfl, rfl, by simp [World.setCell], fun k _ hne => Go.Deep.blk_setCell_other w ⟨S, j, none⟩ v k hne⟩
theorem But.cell {N S : Nat} {a b : World} (h : But N S a b) {p : Addr} (hp : p.block < N) (hne : p.block ≠ S) : b.cell? p = a.cell? p := World.cell?_of_block (h.block _ hp hne)
theorem TabAt.but {N S : Nat} {a b : World} (h : But N S a b) {g : Nat} {tab : List Nat} (hg : g < N) (hne : g ≠ S) (ht : TabAt g tab a) : TabAt g tab b := fun j hj => (h.cell (p := ⟨g, j, none⟩) hg hne).trans (ht j hj)
theorem Ow.off {α : Type} {enc : α → Value} {w : World} {base : Nat} {e : TypeId} {p : Option Addr} {n c : Nat} {xs : List α} (h : Ow enc w base e (.slice p n c) xs) (S j : Nat) (v : Value) (hS : S < base) : Ow enc (w.setCell ⟨S, j, none⟩ v) base e (.slice p n c) xs :=
  h.keep fun a ha _ => Go.Deep.blk_setCell_other w ⟨S, j, none⟩ v a.block (by have := (h.place a ha).1; simp; omega)
theorem Rd.but {α : Type} {enc : α → Value} {N S : Nat} {a b : World} (h : But N S a b) {p : Option Addr} {c : Nat} {xs : List α} (hr : Rd enc a p c xs) (hp : 0 < xs.length → ∀ d o, p = some ⟨d, o, none⟩ → d < N ∧ d ≠ S) : Rd enc b p c xs :=
  ⟨hr.cap, hr.max, hr.bare, fun hn => by
    obtain ⟨d, o, rfl, hc⟩ := hr.cells hn
    have := hp hn d o rfl
    exact ⟨d, o, rfl, fun i u hu => (h.cell (p := ⟨d, o + i, none⟩) this.1 this.2).trans (hc i u hu)⟩⟩

/-- One element is collected: out = append(out, x). -/
theorem put1_any (S base : Nat) (p2 : Option Addr) (n2 c2 : Nat) (ys : List Int) (x : Int) (W : World) (hn : Hid (n2 = ys.length)) (hc : W.cell? ⟨S, 0, none⟩ = some (.slice p2 n2 c2)) (hf : W.frozen? ⟨S, 0, none⟩ = false)
    (ho : Ow iv W base 3 (.slice p2 n2 c2) ys) (hS : S < base) (hb : base ≤ W.heap.size) (hl : n2 ≤ 65536) :
    Calls Tryd.prog 48 #[.int .i64 x, .pointer (some ⟨S, 0, none⟩)] W fun e W' => ∃ p3 c3, e = .returned (.bool true) ∧ W'.cell? ⟨S, 0, none⟩ = some (.slice p3 (n2 + 1) c3) ∧ W'.frozen? ⟨S, 0, none⟩ = false ∧ Ow iv W' base 3 (.slice p3 (n2 + 1) c3) (ys ++ [x]) ∧ But base S W W' := by
  go_enter Tryd.func48, Tryd.ntmps48
  go_wp2_with (at_builtin; refine wpList_append_encs rfl (.tmp 4) (.tmp 6) 22 rfl iv_one base 3 _ 8 Tryd.underlying22 info_int rfl _ ys rfl (ho.alloc _) _ 1 1 [x] rfl rfl (Rd.made iv _ [x] 1 _ _ _ rfl rfl (by omega)) (by have := hn.out; simp; omega) (by have := hn.out; simp; omega) (size_alloc_ge _ hb) ?_; intro p3 c3 us w3 hu ho3 hb3; have hul : us.length = n2 + 1 := (by have e := congrArg List.length hu.out; have := hn.out; simp at e; omega); rw [hul] at ho3 ⊢; have hb03 := Lib.hid ((((Below.refl base W).alloc hb _).trans hb3)); have hc3 := (hb03.out.cell (p := ⟨S, 0, none⟩) hS).trans hc; have hf3 := (below_frozen hb03.out (p := ⟨S, 0, none⟩) hS).trans hf)
  go_ret
  have ho4 := ho3.off S 0 (.slice p3 (n2 + 1) c3) hS
  rw [hu.out] at ho4
  exact ⟨p3, c3, ret_bool (by simp; omega), World.cell?_setCell_same' _ _ _ (by rw [hc3]; rfl), by rw [World.frozen?_setCell]; exact hf3, ho4, (But.of_below hb03.out).trans (But.set _ _ _ _ _)⟩

theorem collect_any (S : Nat) (p : Option Addr) (n c : Nat) (f : Nat → Bool) (x : List Nat) (ws : List W64) (W0 : World) (hn : ws.length = n) (hs : Sets ws f) (hx : Lst f x) (hsrc : Src (S + 1) p n c ws W0)
    (hp : 0 < ws.length → ∀ d o, p = some ⟨d, o, none⟩ → d < S) (hg : 0 < S) (hsz : W0.heap.size = S + 2) (hc : W0.cell? ⟨S, 0, none⟩ = some (.slice none 0 0)) (hf : W0.frozen? ⟨S, 0, none⟩ = false) :
    Calls Tryd.prog 45 #[.func (.func 48) #[] #[.pointer (some ⟨S, 0, none⟩)], .pointer (some ⟨S + 1, 0, none⟩)] W0 fun e W' => (∃ v, e = .returned v) ∧
      ∃ p2 c2, W'.cell? ⟨S, 0, none⟩ = some (.slice p2 x.length c2) ∧ Ow iv W' (S + 2) 3 (.slice p2 x.length c2) (x.map fun n : Nat => (n : Int)) ∧ But (S + 2) S W0 W' := by
  obtain rfl : x = elsFrom 0 ws := hx.unique hs.els (fun _ => rfl)
  have hsmall := hx.small hs.lt
  refine (all1_any 48 #[.pointer (some ⟨S, 0, none⟩)] (enters_of Tryd.func48 (by kernel_rfl) rfl) (S + 1) p n c ws hn hs.len
    (fun pre W => Src (S + 1) p n c ws W ∧ (∃ p2 c2, W.cell? ⟨S, 0, none⟩ = some (.slice p2 pre.length c2) ∧ W.frozen? ⟨S, 0, none⟩ = false ∧ Ow iv W (S + 2) 3 (.slice p2 pre.length c2) (pre.map fun n : Nat => (n : Int))) ∧ But (S + 2) S W0 W ∧ S + 2 ≤ W.heap.size)
    (fun _ _ => False) (fun pre W h => h.1) (fun pre k W hJ hpre => ?_) W0 ⟨hsrc, ⟨none, 0, hc, hf, Ow.nil _ _ _⟩, But.refl _ _ _, by omega⟩).mono ?_
  · obtain ⟨hsr, ⟨p2, c2, h1, h2, h3⟩, hbut, hsz2⟩ := hJ
    have hlen := hpre.length_le
    simp only [List.length_append, List.length_cons, List.length_nil] at hlen
    refine Calls.mono (show Calls _ _ #[_, _] W _ from put1_any S (S + 2) p2 pre.length c2 (pre.map fun n : Nat => (n : Int)) (k : Int) W (Lib.hid (by simp)) h1 h2 h3 (by omega) hsz2 (by omega)) ?_
    rintro e W' ⟨p3, c3, rfl, g1, g2, g3, g4⟩
    refine .inl ⟨rfl, ⟨(g4.cell (p := ⟨S + 1, 0, none⟩) (by simp) (by simp)).trans hsr.1, Rd.but g4 hsr.2.1 (fun h0 d o e => by have := hp h0 d o e; omega), TabAt.but g4 (by omega) (by omega) hsr.2.2⟩, ⟨p3, c3, ?_, g2, ?_⟩, hbut.trans g4, Nat.le_trans hsz2 g4.size⟩
    · rw [g1]; simp
    · simpa using g3
  · rintro e W' ⟨hv, h | ⟨pre, _, hfalse⟩⟩
    · obtain ⟨_, ⟨p2, c2, h1, h2, h3⟩, hbut, _⟩ := h
      exact ⟨hv, p2, c2, h1, h3, hbut⟩
    · exact hfalse.elim
theorem list_any (p : Option Addr) (n c : Nat) (f : Nat → Bool) (x : List Nat) (w : World) (h : St w p n c f) (hx : Lst f x) (hT : TabAt 0 Lib.deBruijn64tab w) :
    Calls Tryd.prog 37 #[.agg #[.slice p n c]] w fun e w' => ∃ r k j, e = .returned (.slice r k j) ∧ k = x.length ∧ Rd iv w' r j (x.map fun n : Nat => (n : Int)) ∧ Below w.heap.size w w' := by
  obtain ⟨ws, rfl, hr, hs⟩ := h
  have hg : 0 < w.heap.size := World.block_lt_of_cell? _ _ (hT 0 (by decide))
  have hp : 0 < ws.length → ∀ d o, p = some ⟨d, o, none⟩ → d < w.heap.size + 1 := fun h0 d o e => by
    subst e
    have := hr.lt h0
    omega
  have hit := fun W0 h1 h2 h3 h4 h5 => collect_any (w.heap.size + 1) p ws.length c f x ws W0 rfl hs hx h1 hp h2 h3 h4 h5
  go_enter Tryd.func37, Tryd.ntmps37
  go_wp2_with (go_at_call 34; (with_reducible refine (all_any _ _ _ _).mono ?_); rintro e w1 ⟨rfl, rfl⟩)
  generalize hW : World.alloc _ _ = W0
  have hb0 : Below w.heap.size w W0 := by rw [← hW]; exact below3 w _ _ _
  have hcell : W0.cell? ⟨w.heap.size + 1 + 1, 0, none⟩ = some (.slice p ws.length c) := by rw [← hW]; exact new_at _ _ _ _ (by simp)
  have hc0 : W0.cell? ⟨w.heap.size + 1, 0, none⟩ = some (.slice none 0 0) := by rw [← hW]; simp [go_sem]
  have hf0 : W0.frozen? ⟨w.heap.size + 1, 0, none⟩ = false := by rw [← hW]; simp [go_sem]
  have hsz : W0.heap.size = w.heap.size + 1 + 2 := by rw [← hW]; simp
  refine (hit W0 ⟨hcell, hr.kept hb0, TabAt.but (N := w.heap.size) (S := w.heap.size) (But.of_below hb0) hg (by omega) hT⟩ (by omega) hsz hc0 hf0).mono ?_
  clear hit
  rintro e w2 ⟨⟨v, rfl⟩, p2, c2, hc2, ho2, hbut⟩
  have hsz := Lib.hid hsz
  have hb02 := Lib.hid (hbut.below (M := w.heap.size + 1) (by omega) (Nat.le_refl _))
  clear hW hcell hc0 hf0 hbut
  go_wp2
  go_ret
  exact ⟨p2, _, c2, rfl, rfl, ho2.rd.2, hb0.trans (hb02.out.mono (Nat.le_succ _))⟩
end Go.Proofs.YtgkjkchhepmakaaDoor
