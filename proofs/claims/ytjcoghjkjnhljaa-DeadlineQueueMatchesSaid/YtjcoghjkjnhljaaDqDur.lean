/-
  LAYER 6 (deadlinequeue): the maps of durations and of IDs; isTime over them; valid, Feasible, Meets and the reference's Feasible.
-/
import Derived.Test.YtjcoghjkjnhljaaDqRef3
namespace Go.Proofs.Ytjcoghjkjnhljaa
open Go Go.RowKit Go.IntWalk Go.Sort
set_option maxRecDepth 8000
set_option linter.unusedSimpArgs false

theorem zero_i64 : ∀ w, (zeroValue 2).run Try.prog w = .ok (.int .i64 0) w := fun _ => by kernel_rfl
theorem zero_bool : ∀ w, (zeroValue 4).run Try.prog w = .ok (.bool false) w := fun _ => by kernel_rfl
/-- A map[int]int64, a map[int]bool. -/
def MapD (w : World) (b s : Nat) (f : Int → Option Int) : Prop := MapG 3 (elmInt Try.underlying2 zero_i64) w b s f
def MapB (w : World) (b s : Nat) (f : Int → Option Bool) : Prop := MapG 3 (elmBool Try.underlying4 zero_bool) w b s f
/-- The durations by ID. -/
def Dur (w : World) (b : Nat) (g : Int → Int) : Prop := ∃ s f, MapD w b s f ∧ (∀ i v, f i = some v → In64 v) ∧ g = fun i => (f i).getD 0
theorem Dur.grew {w w' : World} {b : Nat} {g : Int → Int} (h : Dur w b g) (hg : Grew w w') : Dur w' b g := by
  obtain ⟨s, f, h1, h2, h3⟩ := h
  exact ⟨s, f, MapG.keep h1 (hg.block b (MapG.lt h1)), h2, h3⟩
theorem Dur.in64 {w : World} {b : Nat} {g : Int → Int} (h : Dur w b g) (i : Int) : In64 (g i) := by
  obtain ⟨s, f, h1, h2, rfl⟩ := h
  show In64 ((f i).getD 0)
  cases hf : f i with
  | none => exact ⟨by decide, by decide⟩
  | some v => exact h2 i v hf
theorem Dur.look {w : World} {b : Nat} {g : Int → Int} (h : Dur w b g) {i : Int} (hi : In64 i) : (Instr.lookup 54 (.map (some b)) (.int .i64 i) false).run Try.prog w = .ok (.int .i64 (g i)) w := by
  obtain ⟨s, f, h1, h2, rfl⟩ := h
  exact MapG.look Try.underlying3 Try.underlying54 h1 hi
section
variable {w : World} {ops : Array Oper} {rest : List Oper} {o : Oper} {a : Act} {Q : Exit → Act → World → Prop}
theorem wpList_lookD (m x : Operand) (hop : o.op = Op.lookup 54 m x false) (hgn : o.guard = none)
    (b : Nat) (g : Int → Int) (hm : a.eval m = .map (some b)) (hD : Dur w b g) (i : Int) (hx : a.eval x = .int .i64 i) (hi : In64 i)
    (hK : wpList Try.prog ops Q rest (a.put o.dst (.int .i64 (g i))) w) : wpList Try.prog ops Q (o :: rest) a w := by
  refine wpList_plain hgn fun K' hK' => ?_
  have hrun := hD.look hi
  unfold Oper.wp
  simp [execOp, hop, hm, hx, hrun, Result.andThen]
  exact hK' _ _ hK
end
/-- A job's numbers, as the walk meets them. -/
def itOk (xs : List It) : Prop := ∀ x ∈ xs, In64 x.1 ∧ In64 x.2
theorem itOk.at {xs : List It} (h : itOk xs) {k : Nat} (hk : k < xs.length) : In64 (xs.getD k (0, 0)).1 ∧ In64 (xs.getD k (0, 0)).2 := by
  have e : xs.getD k (0, 0) = xs[k] := by simp [List.getD, hk]
  rw [e]
  exact h _ (List.getElem_mem hk)
/-- What is left of the jobs does what it did. -/
theorem late_split (f : Int → Int) (t : Int) (x : It) (l : List It) : late f t (x :: l) = if x.2 < t + f x.1 then some x else late f (t + f x.1) l := rfl
set_option maxHeartbeats 2000000 in
theorem meets_any (t : Int) (p : Option Addr) (n c b : Nat) (xs : List It) (g : Int → Int) (w : World) (hl : xs.length = n) (hn : n ≤ 1000) (h : RdI w p c xs) (hok : itOk xs) (hD : Dur w b g) (ht : -1099511627776 ≤ t ∧ t ≤ 1099511627776) (hpos : ∀ x ∈ xs, isTm (g x.1) = true ∧ isTm x.2 = true) :
    Calls Try.prog 26 #[.int .i64 t, .slice p n c, .map (some b)] w fun e w' => e = .returned (.bool (late g t xs).isNone) ∧ Grew w w' := by
  subst hl
  have HI := Lib.hid h
  have HD := Lib.hid hD
  have Hok := Lib.hid hok
  have Hpos := Lib.hid hpos
  clear h hD hok hpos
  go_enter Try.func26, Try.ntmps26
  go_wp2_with fail
  go_loopg [0, 11] xs.length (fun gg tv iv wr => ∃ (k : Nat) (u : Int), tv = .int .i64 u ∧ iv = .int .i64 (k : Int) ∧ k ≤ xs.length ∧ gg = xs.length - k ∧ -1099511627776 ≤ u ∧ u ≤ 1099511627776 ∧ Hid (late g u (xs.drop k) = late g t xs) ∧ Hid (Grew w wr))
  case atStart => exact ⟨0, t, rfl, rfl, Nat.zero_le _, rfl, ht.1, ht.2, rfl, Grew.refl _⟩
  case round =>
    obtain ⟨k, u, rfl, rfl, hk, rfl, hu1, hu2, hla, hg⟩ := hrel
    by_cases hlt : k < xs.length
    · obtain ⟨bb, o, rfl, -⟩ := HI.out.cells (by omega)
      obtain ⟨hx0, hx1⟩ := (HI.out.kept hg.out).at hlt
      have hdr := drop_consI xs k hlt
      have hin := Hok.out.at hlt
      have hpp := Hpos.out (xs.getD k (0, 0)) (by simp [List.getD, hlt])
      generalize xs.getD k (0, 0) = x at hx0 hx1 hdr hin hpp
      obtain ⟨x1, x2⟩ := x
      rw [isTm_iff, isTm_iff] at hpp
      obtain ⟨⟨hd1, hd2⟩, hd3, hd4⟩ := hpp
      simp only [] at hin hd1 hd2 hd3 hd4
      have Hin := Lib.hid hin.1
      have hls := late_split g u (x1, x2) (xs.drop (k + 1))
      rw [← hdr, hla.out] at hls
      simp only [] at hls
      have Hls := Lib.hid hls
      have HD' := Lib.hid ((HD.out.grew hg.out).grew ((Grew.refl wr).alloc (.cells #[.int .i64 x1, .int .i64 x2] 36)))
      generalize hgx : g x1 = gx at hd1 hd2
      clear hls hdr hin
      by_cases hlate : x2 < u + gx
      · have Hgx := Lib.hid hgx
        clear hgx
        have e1 := Lib.hid (show (late g t xs).isNone = false by rw [Hls.out, Hgx.out, if_pos hlate]; rfl)
        go_wp2_with (at_lookup; refine wpList_lookD _ _ rfl rfl b g rfl HD'.out x1 rfl Hin.out ?_; rw [Hgx.out])
        go_ret
        exact ⟨ret_bool e1.out.symm, hg.out.alloc _⟩
      · have Hgx := Lib.hid hgx
        clear hgx
        have e1 := Lib.hid (show late g (u + gx) (xs.drop (k + 1)) = late g t xs by rw [Hls.out, Hgx.out, if_neg hlate])
        have hle : u + gx ≤ x2 := by omega
        clear hlate
        go_wp2_with (at_lookup; refine wpList_lookD _ _ rfl rfl b g rfl HD'.out x1 rfl Hin.out ?_; rw [Hgx.out])
        go_roundg (xs.length - (k + 1))
        case measure => omega
        case rel => exact ⟨k + 1, u + gx, rfl, by go_num, by omega, rfl, by omega, by omega, e1, hg.out.alloc _⟩
    · obtain rfl : k = xs.length := by omega
      rw [List.drop_length] at hla
      have e1 := Lib.hid (show (late g t xs).isNone = true by rw [← hla.out]; rfl)
      go_wp2
      go_ret
      exact ⟨ret_bool e1.out.symm, hg.out⟩
end Go.Proofs.Ytjcoghjkjnhljaa
