/-
  LAYER 6 (deadlinequeue): the statements' durations; the reference's Same.
-/
import Derived.Test.YtjcoghjkjnhljaaDqFeas2
import Derived.Test.YtjcoghjkjnhljaaVals
namespace Go.Proofs.Ytjcoghjkjnhljaa
open Go Go.RowKit Go.IntWalk Go.Sort
set_option maxRecDepth 8000
set_option linter.unusedSimpArgs false

section
variable {dst : Option Tmp} {ty : TypeId} {pos : String} {after : Array Edge} {g : Option (Nat × Bool)} {a : Act} {w : World} {T : Value → World → Prop}
theorem runs_fld50_1 {o : Operand} {q : Nat} (hx : a.eval o = .pointer (some ⟨q, 0, none⟩)) (h : T (.pointer (some ⟨q, 1, none⟩)) w) : Runs Try.prog ⟨dst, .fieldAddr 50 o 1, ty, pos, after, g⟩ a w T := by
  refine Runs.value (v := .pointer (some ⟨q, 1, none⟩)) (w' := w) ?_ h
  simp only [execOp, hx]
  go_simp
theorem runs_ld48 {o : Operand} {b off n c : Nat} {z : Option Addr} (hx : a.eval o = .pointer (some ⟨b, off, none⟩)) (hc : Cel b off (.slice z n c) w) (h : T (.slice z n c) w) : Runs Try.prog ⟨dst, .load 48 o, ty, pos, after, g⟩ a w T := by
  obtain ⟨hc⟩ := hc
  refine Runs.value (v := .slice z n c) (w' := w) ?_ h
  simp only [execOp, hx]
  go_simp
theorem runs_ix48 {o1 o2 : Operand} {b off n c i : Nat} (hx : a.eval o1 = .slice (some ⟨b, off, none⟩) n c) (hy : a.eval o2 = .int .i64 (i : Int)) (hi : i < n) (h : T (.pointer (some ⟨b, off + i, none⟩)) w) :
    Runs Try.prog ⟨dst, .indexAddr 48 o1 o2, ty, pos, after, g⟩ a w T := by
  have h0 : (0 : Int) ≤ (i : Int) := by omega
  have h1 : (i : Int) < (n : Int) := by omega
  refine Runs.value (v := .pointer (some ⟨b, off + i, none⟩)) (w' := w) ?_ h
  simp only [execOp, hx, hy]
  go_simp
theorem runs_mapupD {x y z : Nat} {b s : Nat} {i v : Int} {f : Int → Option Int} (hx : a.eval (.tmp x) = .map (some b)) (hy : a.eval (.tmp y) = .int .i64 i) (hz : a.eval (.tmp z) = .int .i64 v) (hM : MapD w b s f) (hs : s < maxLen) (hi : In64 i) (hv : In64 v)
    (h : ∀ w', MapD w' b (if (f i).isSome then s else s + 1) (fun j => if j = i then some v else f j) → w.mapTurned w' b → T undef w') : Runs Try.prog ⟨dst, .mapUpdate 54 (.tmp x) (.tmp y) (.tmp z), ty, pos, after, g⟩ a w T := by
  obtain ⟨w', hrun, h1, h2⟩ := MapG.store Try.underlying3 Try.underlying54 hM hs hi (v := v) hv.wf
  refine Runs.skip (w' := w') ?_ (h w' h1 h2)
  simp only [execOp, hx, hy, hz]
  have hrun' : Sem.run Try.prog (Instr.mapUpdate 54 (.map (some b)) (.int .i64 i) (.int .i64 v)) w = .ok () w' := hrun
  simp [hrun', Result.andThen]
end
/-- The durations of the first k jobs. -/
def durK (xs : List It) (ds : List Int) : Nat → Int → Option Int
  | 0 => fun _ => none
  | k + 1 => fun i => if k < ds.length ∧ i = (xs.getD k (0, 0)).1 then some (ds.getD k 0) else durK xs ds k i
def durG (xs : List It) (ds : List Int) (i : Int) : Int := (durK xs ds xs.length i).getD 0
theorem durK_in {xs : List It} {ds : List Int} (h : ∀ v ∈ ds, In64 v) : ∀ (k : Nat) (i v : Int), durK xs ds k i = some v → In64 v
  | 0, _, _, h' => by cases h'
  | k + 1, i, v, h' => by
    unfold durK at h'
    split at h'
    · rename_i hc
      obtain rfl := Option.some.inj h'
      have e : ds.getD k 0 = ds[k]'hc.1 := by simp [List.getD, hc.1]
      rw [e]
      exact h _ (List.getElem_mem hc.1)
    · exact durK_in h k i v h'
set_option maxHeartbeats 4000000 in
theorem durations_any (p : Option Addr) (n c : Nat) (xs : List It) (q : Option Addr) (m d : Nat) (ds : List Int) (w : World) (hl : xs.length = n) (hl2 : ds.length = m) (hn : n ≤ 1000) (h : RdI w p c xs) (h2 : Rd (Value.int .i64) w q d ds) (hok : itOk xs) (hdi : ∀ v ∈ ds, In64 v) :
    Calls Try.prog 24 #[.agg #[.slice p n c, .slice q m d]] w fun e w' => ∃ b, e = .returned (.map (some b)) ∧ Dur w' b (durG xs ds) ∧ Grew w w' := by
  subst hl hl2
  have HI := Lib.hid h
  have HD := Lib.hid h2
  have Hok := Lib.hid hok
  have Hdi := Lib.hid hdi
  have hmm := @run_makeMap Try.prog
  clear h h2 hok hdi
  go_enter Try.func24, Try.ntmps24
  go_wp2_with fail
  have hM0 := MapG.made (P := Try.prog) (k := 3) (E := elmInt Try.underlying2 zero_i64) (w.alloc (.cells #[.slice p xs.length c, .slice q ds.length d] 50))
  have hs1 : (w.alloc (.cells #[.slice p xs.length c, .slice q ds.length d] 50)).heap.size = w.heap.size + 1 := by simp
  rw [hs1] at hM0
  have hG0 : Grew w ((w.alloc (.cells #[.slice p xs.length c, .slice q ds.length d] 50)).alloc (.map #[] 0)) := ((Grew.refl w).alloc _).alloc _
  have hZ0 : Cel w.heap.size 0 (.slice p xs.length c) ((w.alloc (.cells #[.slice p xs.length c, .slice q ds.length d] 50)).alloc (.map #[] 0)) := ⟨by go_simp⟩
  have hZ1 : Cel w.heap.size 1 (.slice q ds.length d) ((w.alloc (.cells #[.slice p xs.length c, .slice q ds.length d] 50)).alloc (.map #[] 0)) := ⟨by go_simp⟩
  have hs0 : ((w.alloc (.cells #[.slice p xs.length c, .slice q ds.length d] 50)).alloc (.map #[] 0)).heap.size = w.heap.size + 2 := by simp
  generalize hBe : w.heap.size + 1 = B at hM0 ⊢
  generalize World.alloc (World.alloc w _) _ = W at hM0 hG0 hZ0 hZ1 hs0 ⊢
  have hBw := Lib.hid hBe
  have HM0 := Lib.hid hM0
  have HG0 := Lib.hid hG0
  have HZ0 := Lib.hid hZ0
  have HZ1 := Lib.hid hZ1
  have Hs0 := Lib.hid hs0
  clear hBe hM0 hG0 hZ0 hZ1 hs0 hs1 hmm
  have hbx := HZ0.out.c
  go_wp2_with fail
  clear hbx
  go_loopg [10] xs.length (fun gg iv wr => ∃ (k s : Nat), iv = .int .i64 (k : Int) ∧ k ≤ xs.length ∧ gg = xs.length - k ∧ s ≤ k ∧ Hid (MapD wr B s (durK xs ds k)) ∧ Hid (Below (w.heap.size + 1) W wr) ∧ Hid (W.heap.size ≤ wr.heap.size))
  case atStart => exact ⟨0, 0, rfl, Nat.zero_le _, rfl, Nat.le_refl _, HM0.out, Below.refl _ _, Nat.le_refl _⟩
  case round =>
    obtain ⟨k, s, rfl, hk, rfl, hsk, hB, hg, hWs⟩ := hrel
    have hgw : Hid (Grew w wr) := Lib.hid (Below.trans HG0.out (hg.out.mono (by omega)))
    have z1 : wr.cell? ⟨w.heap.size, 1, none⟩ = some (.slice q ds.length d) := (hg.out.cell (p := ⟨w.heap.size, 1, none⟩) (by simp)).trans HZ1.out.c
    have hwr : w.heap.size < wr.heap.size := by have := hWs.out; have := Hs0.out; omega
    by_cases hlt : k < xs.length
    · have hrk := HI.out.kept hgw.out
      obtain ⟨bb, o, rfl, -⟩ := hrk.cells (by omega)
      obtain ⟨hx0, hx1⟩ := hrk.at hlt
      have hin := Hok.out.at hlt
      have hnx : Hid (∀ i, durK xs ds (k + 1) i = if k < ds.length ∧ i = (xs.getD k (0, 0)).1 then some (ds.getD k 0) else durK xs ds k i) := Lib.hid fun _ => rfl
      generalize xs.getD k (0, 0) = x at hx0 hx1 hin hnx
      obtain ⟨x1, x2⟩ := x
      simp only [] at hin hnx
      have Hin := Lib.hid hin.1
      have hB' : Hid (MapD (wr.alloc (.cells #[.int .i64 x1, .int .i64 x2] 32)) B s (durK xs ds k)) := Lib.hid (MapG.keep hB.out (((Grew.refl wr).alloc _).block B (MapG.lt hB.out)))
      have hne : Hid (B ≠ w.heap.size ∧ B ≠ wr.heap.size) := Lib.hid ⟨by have := hBw.out; omega, by have := MapG.lt hB.out; omega⟩
      clear hrk hin
      by_cases hkd : k < ds.length
      · have hrd2 := HD.out.kept hgw.out
        obtain ⟨b2, o2, rfl, -⟩ := hrd2.cells (by omega)
        have hy := hrd2.at k 0 hkd
        have hyi : In64 (ds.getD k 0) := by
          have e : ds.getD k 0 = ds[k] := by simp [List.getD, hkd]
          rw [e]; exact Hdi.out _ (List.getElem_mem hkd)
        generalize ds.getD k 0 = y at hy hyi hnx
        have Hy := Lib.hid hy
        have Hyi := Lib.hid hyi
        have Z1 := Lib.hid z1
        clear hrd2 hyi hy
        go_wp2_with fail
        have bY := World.block_lt_of_cell? _ _ Hy.out
        have hX : Cel wr.heap.size 0 (.int .i64 x1) (wr.alloc (.cells #[.int .i64 x1, .int .i64 x2] 32)).drew := ⟨by go_simp⟩
        have hZ : Cel w.heap.size 1 (.slice (some ⟨b2, o2, none⟩) ds.length d) (wr.alloc (.cells #[.int .i64 x1, .int .i64 x2] 32)).drew := Cel.grew ⟨Z1.out⟩ (((Grew.refl wr).alloc _).drw)
        have hY : Cel b2 (o2 + k) (.int .i64 y) (wr.alloc (.cells #[.int .i64 x1, .int .i64 x2] 32)).drew := Cel.grew ⟨Hy.out⟩ (((Grew.refl wr).alloc _).drw)
        have hg2 : Below (w.heap.size + 1) W (wr.alloc (.cells #[.int .i64 x1, .int .i64 x2] 32)) := hg.out.alloc (by omega) _
        have hs2 : (wr.alloc (.cells #[.int .i64 x1, .int .i64 x2] 32)).heap.size = wr.heap.size + 1 := by simp
        obtain ⟨S, hS⟩ : ∃ S, S = wr.heap.size := ⟨_, rfl⟩
        rw [← hS] at hX ⊢
        have hkm : k < ds.length := hkd
        generalize World.alloc wr _ = V at hX hZ hY hB' hg2 hs2 ⊢
        refine wp_still_tail 8 [some 20, some 21, some 22, some 23, some 24, some 25, some 26, some 27] [false, false, false, false, false, false, false, false, false, false, false, false, false, false, false, false, false, false, false, false, true, true, true, true, true, true, true, true, false, false] [fun v _ => v = .map (some B), fun v _ => v = .pointer (some ⟨S, 0, none⟩), fun v _ => v = .int .i64 (x1), fun v _ => v = .pointer (some ⟨w.heap.size, 1, none⟩), fun v _ => v = .slice (some ⟨b2, o2, none⟩) ds.length d, fun v _ => v = .int .i64 (((k : Nat) : Int)), fun v _ => v = .pointer (some ⟨b2, o2 + k, none⟩), fun v _ => v = .int .i64 y] (by kernel_rfl) (by kernel_rfl) (by kernel_rfl) rfl ⟨?_, ?_, ?_, ?_, ?_, ?_, ?_, ?_, trivial⟩ ?_
        · intro u w hR hd; exact runs_mv (ev rfl) ⟨rfl, rfl⟩
        · intro u w hR hd; exact runs_fld32_0 (ev rfl) ⟨rfl, rfl⟩
        · intro u w hR hd; exact runs_ld3 (ev (hd.1 rfl)) (hX.kept hR) ⟨rfl, rfl⟩
        · intro u w hR hd; exact runs_fld50_1 (ev rfl) ⟨rfl, rfl⟩
        · intro u w hR hd; exact runs_ld48 (ev (hd.1 rfl)) (hZ.kept hR) ⟨rfl, rfl⟩
        · intro u w hR hd; exact runs_mv (ev rfl) ⟨rfl, rfl⟩
        · intro u w hR hd; exact runs_ix48 (ev (hd.1 rfl)) (ev (hd.2.1 rfl)) hkm ⟨rfl, rfl⟩
        · intro u w hR hd; exact runs_ld2 (ev (hd.1 rfl)) (hY.kept hR) ⟨rfl, rfl⟩
        · intro uu h
          refine wpAny_one (i := 8) none (by kernel_rfl) rfl rfl rfl (runs_mapupD (ev (h 0 (by decide))) (ev (h 2 (by decide))) (ev (h 7 (by decide))) (show MapD V.drew B s (durK xs ds k) from hB'.out) (by unfold maxLen; omega) Hin.out Hyi.out fun w2 M2 T2 => ?_)
          refine wpAny_done (by kernel_rfl) ?_ _
          have hfe : (fun j => if j = x1 then some y else durK xs ds k j) = durK xs ds (k + 1) := by
            funext j
            rw [hnx.out j]
            simp [hkd]
          rw [hfe] at M2
          have M2' := Lib.hid M2
          have B2 := Lib.hid (Below.turned (show Below (w.heap.size + 1) W V.drew from hg2.drew) T2 (by rw [← hBw.out]; exact Nat.le_refl _) (show w.heap.size + 1 ≤ V.heap.size by omega))
          have S2 : V.heap.size ≤ w2.heap.size := T2.grown.size
          have S2' := Lib.hid (show W.heap.size ≤ w2.heap.size by have := hWs.out; omega)
          clear M2 T2 hX hZ hY hg2 hs2 hfe h
          simp only [Act.put, mixA, mixL, cond_true, cond_false]
          go_wp2
          go_roundg (xs.length - (k + 1))
          case measure => omega
          case rel => exact ⟨k + 1, _, by go_num, by omega, rfl, by split <;> omega, M2'.out, B2.out, S2'.out⟩
      · have hfe : Hid (durK xs ds (k + 1) = durK xs ds k) := Lib.hid (by
          funext j
          rw [hnx.out j]
          simp [hkd])
        go_wp2
        go_roundg (xs.length - (k + 1))
        case measure => omega
        case rel => exact ⟨k + 1, s, by go_num, by omega, rfl, by omega, by rw [hfe.out]; exact hB'.out, Lib.hid (hg.out.alloc (by omega) _), Lib.hid (by have := hWs.out; simp; omega)⟩
    · obtain rfl : k = xs.length := by omega
      go_wp2
      go_ret
      exact ⟨B, rfl, ⟨s, _, hB.out, durK_in Hdi.out _, rfl⟩, hgw.out⟩
end Go.Proofs.Ytjcoghjkjnhljaa
