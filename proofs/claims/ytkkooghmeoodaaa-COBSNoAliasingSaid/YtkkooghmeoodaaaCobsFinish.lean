/-
  CONTRACTS OF THE SPLITTER OF LAYER 3 (cobs): finish, Skipped.
-/
import Derived.Test.YtkkooghmeoodaaaCobsKeep
namespace Go.Proofs.Ytkkooghmeoodaaa
open Go Go.RowKit Go.IntWalk
set_option linter.unusedSimpArgs false

theorem skipped_any (sb most sk : Nat) (ac : List UInt8) (w : World) (hS : Spl w sb most ac sk) :
    Calls Try.prog 23 #[.pointer (some ⟨sb, 0, none⟩)] w fun e w' => e = .returned (.int .i64 sk) ∧ w = w' := by
  obtain ⟨q, m, d, hrec, hown⟩ := hS
  obtain ⟨k0, k1, k2, kf⟩ := spl_cells hrec
  clear hrec hown
  go_enter Try.func23, Try.ntmps23
  go_wp2_with fail
  go_ret
  exact ⟨rfl, rfl⟩

/-- What a call of finish returns. -/
def Finished (sb most sk : Nat) (ac : List UInt8) (w : World) (e : Ending) (w' : World) : Prop :=
  ∃ (p' : Option Addr) (c' : Nat) (ys : List UInt8) (b : Bool) (sk' : Nat), e = .returned (.tuple #[.slice p' ys.length c', .bool b]) ∧ sk' ≤ sk + 1 ∧ Hid (Own w' w.heap.size 5 (.slice p' ys.length c') ys) ∧ Hid (Out w' sb p') ∧ Hid (Spl w' sb most [] sk') ∧ Hid (Off w.heap.size sb w w') ∧
    Hid (∀ out, stB most ⟨ac, out, sk⟩ 0 = ⟨[], if b = true then out ++ [ys] else out, sk'⟩)

theorem stB_empty (most : Nat) (out : List (List UInt8)) (sk : Nat) : stB most ⟨[], out, sk⟩ 0 = ⟨[], out, sk⟩ := by unfold stB; simp
theorem stB_good (most : Nat) (ac : List UInt8) (out : List (List UInt8)) (sk : Nat) (h : ac ≠ []) (h1 : (dec (ac ++ [0])).2 = 0) (h2 : (dec (ac ++ [0])).1.length ≤ most) : stB most ⟨ac, out, sk⟩ 0 = ⟨[], out ++ [(dec (ac ++ [0])).1], sk⟩ := by
  unfold stB
  simp [h, h1, h2]
theorem stB_bad (most : Nat) (ac : List UInt8) (out : List (List UInt8)) (sk : Nat) (h : ac ≠ []) (h1 : ¬ ((dec (ac ++ [0])).2 = 0 ∧ (dec (ac ++ [0])).1.length ≤ most)) : stB most ⟨ac, out, sk⟩ 0 = ⟨[], out, sk + 1⟩ := by
  unfold stB
  rw [if_neg (by simp), if_neg h, if_neg h1]

/-- Behind the first two statements of finish. -/
theorem fin_mid {w w3 : World} {sb most sk : Nat} {q p3 : Option Addr} {n d n3 c3 : Nat} {ac : List UInt8} (hrec : w.heap[sb]? = some (.cells #[.int .i64 most, .slice q n d, .int .i64 sk] 46)) (hown : OwnV w sb 5 (.slice q n d) (bvs ac))
    (ha : Appended (w.alloc (.cells #[.int .u8 0] 5)) sb 5 q d (bvs ac ++ [.int .u8 0]) (.slice p3 n3 c3) w3) (W : World) (hW : W = w3.setCell ⟨sb, 1, none⟩ (.slice q 0 d)) :
    W.heap[sb]? = some (.cells #[.int .i64 most, .slice q 0 d, .int .i64 sk] 46) ∧ Own W sb 5 (.slice p3 ((bvs ac).length + 1) c3) (ac ++ [0]) ∧ Spl W sb most [] sk ∧ Off w.heap.size sb w W := by
  have hl := (Array.getElem?_eq_some_iff.1 hrec).1
  have hrA := (Below.heap_alloc w (.cells #[.int .u8 0] 5) sb hl).trans hrec
  have hoA : OwnV (w.alloc (.cells #[.int .u8 0] 5)) sb 5 (.slice q n d) (bvs ac) := hown.keep fun a _ hl => Below.heap_alloc _ _ _ hl
  have hr3 := (rec_row hrA hoA (by decide) ha).trans hrA
  have hrec4 : W.heap[sb]? = some (.cells #[.int .i64 most, .slice q 0 d, .int .i64 sk] 46) := by rw [hW]; exact rec_store hr3
  obtain ⟨p', c', hv, ho3, hkp, hpl, hemp⟩ := id ha
  simp only [Value.slice.injEq] at hv
  obtain ⟨rfl, hn3', rfl⟩ := hv
  have hne : ∀ (p : Option Addr) (n c : Nat) (vs : List Value), OwnV w3 sb 5 (.slice p n c) vs → ∀ a : Addr, p = some a → a.block ≠ sb := fun p n c vs ho a ha2 he => by
    obtain ⟨cs', fr, h2⟩ := ho.parts.2.2.1 a ha2
    rw [he, hr3] at h2
    simp only [Option.some.injEq, Obj.cells.injEq] at h2
    exact absurd h2.2.1 (by decide)
  have e1 : bvs ac ++ [Value.int .u8 0] = bvs (ac ++ [0]) := by rw [bvs_append]; rfl
  have hemp' : OwnV w3 sb 5 (.slice q 0 d) [] := hemp
  refine ⟨hrec4, ?_, ⟨q, 0, d, hrec4, ?_⟩, ?_⟩
  · have : OwnV W sb 5 (.slice p3 (bvs ac ++ [Value.int .u8 0]).length c3) (bvs ac ++ [Value.int .u8 0]) := by
      rw [hW]
      exact ho3.keep fun a ha2 _ => Below.heap_setCell _ ⟨sb, 1, none⟩ _ _ (hne _ _ _ _ ho3 a ha2)
    rw [e1] at this
    have := this.bytes
    rw [bvs_len, List.length_append] at this
    rw [bvs_len]
    exact this
  · rw [hW]
    exact hemp'.keep fun a ha2 _ => Below.heap_setCell _ ⟨sb, 1, none⟩ _ _ (hne _ _ _ _ hemp' a ha2)
  · have h1 : Off w.heap.size sb w (w.alloc (.cells #[.int .u8 0] 5)) := Off.of_big ((Below.refl _ _).alloc (Nat.le_refl _) _) (Nat.le_refl _) hl
    have h2 : Off (w.alloc (.cells #[.int .u8 0] 5)).heap.size sb (w.alloc (.cells #[.int .u8 0] 5)) W :=
      off_append hrA ha (fun j hj => by rw [hW]; exact Below.heap_setCell _ _ _ _ hj) hrec4 (.inl rfl) (by rw [hW]; exact ⟨rfl, rfl, rfl, by simp [World.setCell]⟩)
    exact h1.trans (h2.mono (size_alloc_le _ (Nat.le_refl _)))

theorem off_count {w : World} {N sb most sk : Nat} {q : Option Addr} {n d : Nat} {k : Nat} (hrec : w.heap[sb]? = some (.cells #[.int .i64 most, .slice q n d, .int .i64 sk] 46)) : Off N sb w (w.setCell ⟨sb, 2, none⟩ (.int .i64 (k : Int))) := by
  refine ⟨rfl, rfl, rfl, by simp [World.setCell], fun j _ hc => ⟨Below.heap_setCell _ _ _ _ (fun e => hc (.inl e)), fun h => hc ?_⟩⟩
  exact (Spl.cand hrec j).2 ((Spl.cand (rec_store2 (v' := .int .i64 (k : Int)) hrec) j).1 h)
theorem spl_count {w : World} {sb most sk k : Nat} {ac : List UInt8} (h : Spl w sb most ac sk) : Spl (w.setCell ⟨sb, 2, none⟩ (.int .i64 (k : Int))) sb most ac k ∧ ∀ N, Off N sb w (w.setCell ⟨sb, 2, none⟩ (.int .i64 (k : Int))) := by
  obtain ⟨q, n, d, hr, ho⟩ := h
  refine ⟨⟨q, n, d, rec_store2 hr, ho.keep fun a ha _ => Below.heap_setCell _ ⟨sb, 2, none⟩ _ _ fun he => ?_⟩, fun N => off_count hr⟩
  obtain ⟨cs', fr, h2⟩ := ho.parts.2.2.1 a ha
  rw [he, hr] at h2
  simp only [Option.some.injEq, Obj.cells.injEq] at h2
  exact absurd h2.2.1 (by decide)
theorem out_none (w : World) (sb : Nat) : Out w sb none := fun a h => by cases h
theorem fin_empty {w W : World} {sb most sk : Nat} (h4c : Spl W sb most [] sk) (h4d : Off w.heap.size sb w W) : Finished sb most sk [] w (.returned (.tuple #[.slice none 0 0, .bool false])) W :=
  ⟨none, 0, [], false, sk, rfl, by omega, own_nil _ _ _, out_none _ _, h4c, h4d, fun out => by rw [stB_empty]; simp⟩
theorem fin_bad {w W w5 : World} {sb most sk : Nat} {ac : List UInt8} {z : Int} (h4c : Spl W sb most [] sk) (h4d : Off w.heap.size sb w W) (hb5 : Below W.heap.size W w5) (hz : z = ((sk + 1 : Nat) : Int)) (hst : ∀ out, stB most ⟨ac, out, sk⟩ 0 = ⟨[], out, sk + 1⟩) :
    Finished sb most sk ac w (.returned (.tuple #[.slice none 0 0, .bool false])) (w5.setCell ⟨sb, 2, none⟩ (.int .i64 z)) := by
  subst hz
  have h5 := spl_count (k := sk + 1) (h4c.kept hb5)
  exact ⟨none, 0, [], false, sk + 1, rfl, by omega, own_nil _ _ _, out_none _ _, h5.1, (h4d.trans (Off.of_big hb5 h4d.size h4c.lt)).trans (h5.2 _), fun out => by rw [hst]; simp⟩
theorem fin_good {w W w5 : World} {sb most sk : Nat} {ac ys : List UInt8} {p5 : Option Addr} {c5 : Nat} (h4c : Spl W sb most [] sk) (h4d : Off w.heap.size sb w W) (hb5 : Below W.heap.size W w5) (ho5 : Own w5 W.heap.size 5 (.slice p5 ys.length c5) ys) (hst : ∀ out, stB most ⟨ac, out, sk⟩ 0 = ⟨[], out ++ [ys], sk⟩) :
    Finished sb most sk ac w (.returned (.tuple #[.slice p5 ys.length c5, .bool true])) w5 :=
  ⟨p5, c5, ys, true, sk, rfl, by omega, ho5.down h4d.size, fun a ha hc => Spl.new h4c (Nat.le_refl _) (fun a ha => (ho5.place a ha).1) a ha ((cand_same (hb5.block sb h4c.lt) _).1 hc), h4c.kept hb5, h4d.trans (Off.of_big hb5 h4d.size h4c.lt), fun out => by rw [hst]; simp⟩

set_option maxRecDepth 20000 in
set_option maxHeartbeats 1000000 in
theorem finish_any (sb most sk : Nat) (ac : List UInt8) (w : World) (hS : Spl w sb most ac sk) (hac : ac.length ≤ top most + 1) (hm : most ≤ 65536) (hsk : sk ≤ 1099511627776) :
    Calls Try.prog 27 #[.pointer (some ⟨sb, 0, none⟩)] w (Finished sb most sk ac w) := by
  obtain ⟨q, m, d, hrec, hown⟩ := hS
  have htop := top_le most
  have hmm := hown.parts.1
  rw [bvs_len] at hmm
  subst hmm
  obtain ⟨k0, k1, k2, kf⟩ := spl_cells hrec
  have HR := Lib.hid hrec
  have HO := Lib.hid hown
  have hrecA : (w.alloc (.cells #[.int .u8 0] 5)).heap[sb]? = _ := (Below.heap_alloc w _ sb (Array.getElem?_eq_some_iff.1 hrec).1).trans hrec
  have HRA := Lib.hid hrecA
  clear hrec hown hrecA
  go_enter Try.func27, Try.ntmps27
  go_wp2_with (first
    | (at_builtin; refine wpList_append_vals rfl (.tmp 10) (.tmp 11) 22 rfl sb 5 _ 1 Try.underlying22 info_u8 rfl q _ d (bvs ac) rfl (HO.out.keep fun a _ hl => Below.heap_alloc _ _ _ hl) _ 1 1 _ rfl rfl (BinV.made _ _ _ _) (bvs_one [0]) (by rw [bvs_len]; simp; omega) (by rw [bvs_len]; simp; omega) (by have := HRA.out; exact Nat.le_of_lt (Array.getElem?_eq_some_iff.1 this).1) ?_; intro p3 c3 n3 w3 ha hn3; have HR3 := Lib.hid ((rec_row HRA.out (HO.out.keep fun a _ hl => Below.heap_alloc _ _ _ hl) (by decide) ha.out).trans HRA.out); have k13 := (spl_cells HR3.out).2.1; have kf3 := (spl_cells HR3.out).2.2.2 1)
    | (go_at_call 15; obtain ⟨h4a, h4b, h4c, h4d⟩ := fin_mid HR.out HO.out ha.out _ rfl; (with_reducible refine (decode_any _ _ _ (ac ++ [0]) _ (by simp [bvs_len]) (by rw [bvs_len]; omega) h4b.bin.2).mono ?_); rintro e w5 ⟨p5, c5, rfl, ho5, hb5⟩; have HR5 := Lib.hid ((hb5.block sb (Array.getElem?_eq_some_iff.1 h4a).1).trans h4a); have k05 := (spl_cells HR5.out).1; have k25 := (spl_cells HR5.out).2.2.1; have kf5 := (spl_cells HR5.out).2.2.2 2; replace h4a := Lib.hid h4a; replace h4b := Lib.hid h4b; replace h4c := Lib.hid h4c; replace h4d := Lib.hid h4d; replace hb5 := Lib.hid hb5; replace ho5 := Lib.hid ho5))
  · rename_i hz
    go_ret2
    have hz : ac = [] := by
      apply List.eq_nil_of_length_eq_zero
      rw [bvs_len] at hz
      simp at hz
      omega
    obtain ⟨_, _, h4c, h4d⟩ := fin_mid HR.out HO.out ha.out _ rfl
    subst hz
    exact fin_empty h4c h4d
  · have hd : (dec (ac ++ [0])).2 = 0 := by assumption
    have hlen : most < (dec (ac ++ [0])).1.length := by assumption
    have hz : ac ≠ [] := by
      have hz0 : ((((bvs ac).length : Nat) : Int) + 1 == 1) = false := by assumption
      intro e
      rw [e] at hz0
      simp [bvs] at hz0
    go_ret2
    exact fin_bad h4c.out h4d.out hb5.out rfl fun out => stB_bad most ac out sk hz (by omega)
  · have hd : (dec (ac ++ [0])).2 = 0 := by assumption
    have hlen : ¬ most < (dec (ac ++ [0])).1.length := by assumption
    have hz : ac ≠ [] := by
      have hz0 : ((((bvs ac).length : Nat) : Int) + 1 == 1) = false := by assumption
      intro e
      rw [e] at hz0
      simp [bvs] at hz0
    go_ret2
    exact fin_good h4c.out h4d.out hb5.out ho5.out fun out => stB_good most ac out sk hz hd (by omega)
  · have hd : ¬ (dec (ac ++ [0])).2 = 0 := by assumption
    have hz : ac ≠ [] := by
      have hz0 : ((((bvs ac).length : Nat) : Int) + 1 == 1) = false := by assumption
      intro e
      rw [e] at hz0
      simp [bvs] at hz0
    go_ret2
    exact fin_bad h4c.out h4d.out hb5.out rfl fun out => stB_bad most ac out sk hz (fun h => hd h.1)
end Go.Proofs.Ytkkooghmeoodaaa
