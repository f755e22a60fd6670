/-
  CONTRACTS OF THE STATEMENTS OF LAYER 4 (bitset): the chapter's examples; a set against a list.
-/
import Derived.Test.YtgkjkchhepmakaaDoorBitsetText
import Derived.Test.YtgkjkchhepmakaaDoorBitsetList
namespace Go.Proofs.YtgkjkchhepmakaaDoor
open Go.RowKit Go.IntWalk

/-- What the library's tables hold. -/
structure Env (w : World) : Prop where
  tz : TabAt 0 Lib.deBruijn64tab w
  pow : Lib.TabIs Tryd.prog w "internal/strconv.uint64pow10" .u64 Lib.pow10Tab
theorem Env.kept {w w' : World} (h : Env w) (hb : Below w.heap.size w w') : Env w' := by
  have hg : 0 < w.heap.size := World.block_lt_of_cell? _ _ (h.tz 0 (by decide))
  exact ⟨fun j hj => (hb.cell (p := ⟨0, j, none⟩) hg).trans (h.tz j hj), Lib.tabBelow_of_tabIs h.pow w' hb⟩

theorem lst_135 : Lst (ofl [5, 1, 3, 1]) [1, 3, 5] := ⟨by simp, fun n => by simp [ofl]; omega⟩
theorem lst_234 : Lst (fun x => blw 5 x && !blw 2 x) [2, 3, 4] := ⟨by simp, fun n => by simp [blw]; omega⟩
theorem lst_none : Lst (ofl []) [] := ⟨List.Pairwise.nil, fun n => by simp [ofl]⟩
theorem text_135 : setText [1, 3, 5] = [123, 49, 32, 51, 32, 53, 125] := by decide +kernel
theorem text_234 : setText [2, 3, 4] = [123, 50, 32, 51, 32, 52, 125] := by decide +kernel
theorem text_none : setText [] = [123, 125] := by decide +kernel

theorem string_135 (p : Option Addr) (m c : Nat) (w : World) (h : St w p m c (ofl [5, 1, 3, 1])) (he : Env w) :
    Calls Tryd.prog 32 #[.agg #[.slice p m c]] w fun e w' => e = .returned (.string ⟨#[123, 49, 32, 51, 32, 53, 125]⟩) ∧ Below w.heap.size w w' := by
  have := string_any p m c _ [1, 3, 5] w h lst_135 he.tz he.pow
  rwa [text_135] at this
theorem string_234 (p : Option Addr) (m c : Nat) (w : World) (h : St w p m c (fun x => blw 5 x && !blw 2 x)) (he : Env w) :
    Calls Tryd.prog 32 #[.agg #[.slice p m c]] w fun e w' => e = .returned (.string ⟨#[123, 50, 32, 51, 32, 52, 125]⟩) ∧ Below w.heap.size w w' := by
  have := string_any p m c _ [2, 3, 4] w h lst_234 he.tz he.pow
  rwa [text_234] at this
theorem string_none (p : Option Addr) (m c : Nat) (w : World) (h : St w p m c (ofl [])) (he : Env w) :
    Calls Tryd.prog 32 #[.agg #[.slice p m c]] w fun e w' => e = .returned (.string ⟨#[123, 125]⟩) ∧ Below w.heap.size w w' := by
  have := string_any p m c _ [] w h lst_none he.tz he.pow
  rwa [text_none] at this

theorem same_any (p : Option Addr) (n c : Nat) (f g : Nat → Bool) (q : Option Addr) (m d : Nat) (y : List Int) (w : World) (h : St w p n c f) (hl : y.length = m) (hy : Rd iv w q d y) (hg : LstI g y) (hfg : ∀ k, f k = g k) (he : Env w) :
    Calls Tryd.prog 15 #[.agg #[.slice p n c], .slice q m d] w fun e w' => e = .returned (.bool true) ∧ Below w.heap.size w w' := by
  subst hl
  obtain ⟨x, rfl, hx⟩ := hg
  have hx := hx.congr (fun k => (hfg k).symm)
  have hlen : (x.map fun n : Nat => (n : Int)).length = x.length := by simp
  obtain ⟨y, hyy⟩ : ∃ y, (x.map fun n : Nat => (n : Int)) = y := ⟨_, rfl⟩
  rw [hyy] at hlen hy ⊢
  have hlen := Lib.hid hlen
  obtain ⟨k, hk⟩ : ∃ k, y.length = k := ⟨_, rfl⟩
  have hkx := Lib.hid (show x.length = k by rw [← hk]; exact hlen.out.symm)
  have hkH := Lib.hid hk
  rw [hk]
  clear hk
  have hb1 : ∀ o, Below w.heap.size w (w.alloc o) := fun o => (Below.refl _ _).alloc (Nat.le_refl _) o
  go_enter Tryd.func15, Tryd.ntmps15
  go_wp2_with (first
    | (go_at_call 36; generalize hW : World.alloc _ _ = W0; have hb0 : Below w.heap.size w W0 := (by rw [← hW]; exact hb1 _); have hc0 := Lib.hid (show W0.cell? ⟨w.heap.size, 0, none⟩ = some (.slice p n c) by rw [← hW]; exact new_cell _ _ _); clear hW; (with_reducible refine (len_any _ _ _ _ x _ (h.kept hb0) hx).mono ?_); rintro e w1 ⟨rfl, hb2⟩; rw [hkx.out]; have hc1 := (hb2.cell (p := ⟨w.heap.size, 0, none⟩) (World.block_lt_of_cell? _ _ hc0.out)).trans hc0.out; have hb3 := hb0.trans (hb2.mono hb0.size))
    | (go_at_call 37; (with_reducible refine (list_any _ _ _ _ x _ (h.kept hb3) hx (he.kept hb3).tz).mono ?_); rintro e w2 ⟨r2, _, j2, rfl, rfl, hr2, hb4⟩; rw [hyy] at hr2; have hb5 := hb3.trans (hb4.mono hb3.size))
    | (go_at_call 30; (with_reducible refine (requal_any _ _ _ y _ _ _ y _ (hkH.out.trans hkx.out.symm) hkH.out hr2 (hy.kept hb5)).mono ?_); rintro e w3 ⟨t, rfl, ht, hb6⟩))
  go_ret
  exact ⟨ret_bool (ht.out.2 (by trivial)), hb5.trans (hb6.mono hb5.size)⟩

theorem of_none (w : World) : Calls Tryd.prog 13 #[.slice none 0 0] w fun e w' => ∃ r k j, e = .returned (.agg #[.slice r k j]) ∧ New w r ∧ St w' r k j (ofl []) ∧ Below w.heap.size w w' :=
  of_any none 0 0 [] w rfl (Rd.nil _) (fun z hz => by cases hz)
theorem awake_any (w : World) (he : Env w) :
    Calls Tryd.prog 11 #[] w fun e w' => e = .returned (.bool true) ∧ Below w.heap.size w w' := by
  have hwf : ∀ z ∈ ([5, 1, 3, 1] : List Int), -9223372036854775808 ≤ z ∧ z ≤ 9223372036854775807 := by simp
  have hlit := Rd.made iv w [5, 1, 3, 1] 4 3 #[.int .i64 5, .int .i64 1, .int .i64 3, .int .i64 1] (0, 0) rfl rfl (by omega)
  have hba : ∀ o, Below w.heap.size w (w.alloc o) := fun o => (Below.refl _ _).alloc (Nat.le_refl _) o
  have h3 : hasZ (ofl [5, 1, 3, 1]) 3 = true := by decide
  have h2 : hasZ (ofl [5, 1, 3, 1]) 2 = false := by decide
  go_enter Tryd.func11, Tryd.ntmps11
  go_wp2_with (first
    | (go_at_call 13; (with_reducible refine (of_any _ 4 4 [5, 1, 3, 1] _ rfl hlit hwf).mono ?_); rintro e w1 ⟨r, k, j, rfl, -, hs, hb⟩; have hB1 := (hba _).trans (hb.mono (hba _).size); clear hb hlit)
    | (go_at_call 36; generalize hW : World.alloc _ _ = W0; have hB0 : Below w.heap.size w W0 := (by rw [← hW]; exact hB1.alloc hB1.size _); have hs0 : St W0 r k j (ofl [5, 1, 3, 1]) := (by rw [← hW]; exact hs.kept ((Below.refl _ _).alloc (Nat.le_refl _) _)); have hc0 : W0.cell? ⟨w1.heap.size, 0, none⟩ = some (.slice r k j) := (by rw [← hW]; exact new_cell _ _ _); clear hW hs hB1; generalize w1.heap.size = S at hc0 ⊢; (with_reducible refine (len_any _ _ _ _ [1, 3, 5] _ hs0 lst_135).mono ?_); rintro e w2 ⟨rfl, hb2⟩; have hB2 := hB0.trans (hb2.mono hB0.size); have hc2 := (hb2.cell (p := ⟨S, 0, none⟩) (World.block_lt_of_cell? _ _ hc0)).trans hc0; have hs2 := hs0.kept hb2; clear hc0 hB0 hs0 hb2)
    | (go_at_call 32; (with_reducible refine (string_135 _ _ _ _ hs2 (he.kept hB2)).mono ?_); rintro e w3 ⟨rfl, hb3⟩; have hB3 := hB2.trans (hb3.mono hB2.size); have hc3 := (hb3.cell (p := ⟨S, 0, none⟩) (World.block_lt_of_cell? _ _ hc2)).trans hc2; have hs3 := hs2.kept hb3; clear hc2 hB2 hs2 hb3)
    | (go_at_call 18; (with_reducible refine (range_any 2 5 _).mono ?_); rintro e w4 ⟨r4, k4, j4, rfl, -, ht4, hb4⟩; have hB4 := hB3.trans (hb4.mono hB3.size); have hc4 := (hb4.cell (p := ⟨S, 0, none⟩) (World.block_lt_of_cell? _ _ hc3)).trans hc3; have hs4 := hs3.kept hb4; clear hc3 hB3 hs3 hb4)
    | (go_at_call 32; (with_reducible refine (string_234 _ _ _ _ ht4 (he.kept hB4)).mono ?_); rintro e w5 ⟨rfl, hb5⟩; have hB5 := hB4.trans (hb5.mono hB4.size); have hc5 := (hb5.cell (p := ⟨S, 0, none⟩) (World.block_lt_of_cell? _ _ hc4)).trans hc4; have hs5 := hs4.kept hb5; clear hc4 hB4 hs4 hb5 ht4)
    | (go_at_call 13; (with_reducible refine (of_none _).mono ?_); rintro e w6 ⟨r6, k6, j6, rfl, -, ht6, hb6⟩; have hB6 := hB5.trans (hb6.mono hB5.size); have hc6 := (hb6.cell (p := ⟨S, 0, none⟩) (World.block_lt_of_cell? _ _ hc5)).trans hc5; have hs6 := hs5.kept hb6; clear hc5 hB5 hs5 hb6)
    | (go_at_call 32; (with_reducible refine (string_none _ _ _ _ ht6 (he.kept hB6)).mono ?_); rintro e w7 ⟨rfl, hb7⟩; have hB7 := hB6.trans (hb7.mono hB6.size); have hc7 := (hb7.cell (p := ⟨S, 0, none⟩) (World.block_lt_of_cell? _ _ hc6)).trans hc6; have hs7 := hs6.kept hb7; clear hc6 hB6 hs6 hb7 ht6)
    | (go_at_call 16; (with_reducible refine (has_any _ _ _ _ 3 (by omega) _ hs7).mono ?_); rw [h3]; rintro e w8 ⟨rfl, hb8⟩; have hB8 := hB7.trans (hb8.mono hB7.size); have hc8 := (hb8.cell (p := ⟨S, 0, none⟩) (World.block_lt_of_cell? _ _ hc7)).trans hc7; have hs8 := hs7.kept hb8; clear hc7 hB7 hs7 hb8)
    | (go_at_call 16; (with_reducible refine (has_any _ _ _ _ 2 (by omega) _ hs8).mono ?_); rw [h2]; rintro e w9 ⟨rfl, hb9⟩; have hB9 := hB8.trans (hb9.mono hB8.size); have hc9 := (hb9.cell (p := ⟨S, 0, none⟩) (World.block_lt_of_cell? _ _ hc8)).trans hc8; have hs9 := hs8.kept hb9; clear hc8 hB8 hs8 hb9))
  go_ret
  exact ⟨rfl, hB9⟩
end Go.Proofs.YtgkjkchhepmakaaDoor
