/-
  LAYER 6 (deadlinequeue): the reference's Before and Remove; the statements' items and back.
-/
import Derived.Test.YtjcoghjkjnhljaaDqOrdered
import Derived.Deep.LoopGhost
namespace Go.Proofs.Ytjcoghjkjnhljaa
open Go Go.RowKit Go.IntWalk Go.Sort
set_option maxRecDepth 8000
set_option linter.unusedSimpArgs false

theorem before_any (x y : It) (w : World) : Calls Try.prog 20 #[itv x, itv y] w fun e w' => e = .returned (.bool (bef x y)) ∧ Grew w w' := by
  obtain ⟨x1, x2⟩ := x
  obtain ⟨y1, y2⟩ := y
  show Calls Try.prog 20 #[.agg #[.int .i64 x1, .int .i64 x2], .agg #[.int .i64 y1, .int .i64 y2]] w _
  rcases Int.lt_trichotomy x2 y2 with h | h | h
  · have Hb := Lib.hid (show bef (x1, x2) (y1, y2) = true by rw [bef_iff]; exact .inl h)
    go_enter Try.func20, Try.ntmps20
    go_wp2
    go_ret
    exact ⟨ret_bool Hb.out.symm, ((Grew.refl _).alloc _).alloc _⟩
  · subst h
    by_cases h2 : x1 < y1
    · have Hb := Lib.hid (show bef (x1, x2) (y1, x2) = true by rw [bef_iff]; exact .inr ⟨rfl, h2⟩)
      go_enter Try.func20, Try.ntmps20
      go_wp2
      go_ret
      exact ⟨ret_bool Hb.out.symm, ((Grew.refl _).alloc _).alloc _⟩
    · have Hb := Lib.hid (show bef (x1, x2) (y1, x2) = false by rw [nbef_iff]; exact .inr ⟨rfl, by simpa using h2⟩)
      go_enter Try.func20, Try.ntmps20
      go_wp2
      go_ret
      exact ⟨ret_bool Hb.out.symm, ((Grew.refl _).alloc _).alloc _⟩
  · have Hb := Lib.hid (show bef (x1, x2) (y1, y2) = false by rw [nbef_iff]; exact .inl h)
    have h1 : ¬ x2 < y2 := by omega
    have h2 : (x2 == y2) = false := beq_eq_false_iff_ne.2 (by omega)
    have h3 : ¬ x2 = y2 := by omega
    go_enter Try.func20, Try.ntmps20
    go_wp2
    go_ret
    exact ⟨ret_bool Hb.out.symm, ((Grew.refl _).alloc _).alloc _⟩
theorem infoJ : (Try.prog.info? 36).map (fun i => (i.zero, i.size, i.bytes)) = some (some (itv (0, 0)), 2, 16) := by kernel_rfl
theorem wpList_appendJ {w : World} {ops : Array Oper} {rest : List Oper} {o : Oper} {a : Act} {Q : Exit → Act → World → Prop} (hgd : o.guard = none) (s x : Operand)
    (ho : o.op = .call { callee := .builtin .append, args := #[s, x], argTypes := #[26, 26] })
    (base : Nat) (v : Value) (xs : List It) (hs : a.eval s = v) (hown : OwI w base 36 v xs)
    (p : Option Addr) (n c : Nat) (ys : List It) (hx : a.eval x = .slice p n c) (hl : ys.length = n) (hin : RdI w p c ys) (hsz : xs.length + ys.length ≤ 3000000) (hbase : base ≤ w.heap.size)
    (h : ∀ p' c' zs w', Hid (zs = xs ++ ys) → OwI w' base 36 (.slice p' zs.length c') zs → Below base w w' → wpList Try.prog ops Q rest (a.put o.dst (.slice p' zs.length c')) w') : wpList Try.prog ops Q (o :: rest) a w :=
  wpList_append_its hgd s x 26 ho base 36 (itv (0, 0)) 16 Try.underlying26 infoJ rfl v xs hs hown p n c ys hx hl hin (by omega) (by omega) hbase h
theorem OwI.alloc {w : World} {base : Nat} {e : TypeId} {p : Option Addr} {n c : Nat} {xs : List It} (h : OwI w base e (.slice p n c) xs) (o : Obj) : OwI (w.alloc o) base e (.slice p n c) xs := h.kept ((Below.refl _ _).alloc (Nat.le_refl _) o)
theorem made1 (w : World) (S : Nat) (x : It) (e : TypeId) (cs : Array Value) (fr : Nat × Nat) (hS : w.heap.size = S) (hc : cs = (flat [x]).toArray) : RdI (w.alloc (.cells cs e fr)) (some ⟨S, 0, none⟩) 1 [x] := by
  subst hS
  exact RdI.made w [x] 1 e cs fr hc rfl (by omega)
theorem take_snocI (xs : List It) (k : Nat) (h : k < xs.length) : xs.take (k + 1) = xs.take k ++ [xs.getD k (0, 0)] := by
  rw [List.take_succ_eq_append_getElem h]
  simp [List.getD, h]
theorem rem_snoc (id : Int) (l : List It) (x : It) : rem id (l ++ [x]) = if x.1 = id then rem id l else rem id l ++ [x] := by
  unfold rem
  rw [List.filter_append]
  by_cases h : x.1 = id <;> simp [h]
set_option maxHeartbeats 2000000 in
theorem rremove_any (p : Option Addr) (n c : Nat) (xs : List It) (id : Int) (w : World) (hl : xs.length = n) (hn : n ≤ 1000000) (h : RdI w p c xs) :
    Calls Try.prog 21 #[.slice p n c, .int .i64 id] w fun e w' => ∃ p' c', e = .returned (.tuple #[.slice p' (rem id xs).length c', .bool (hasId id xs)]) ∧ OwI w' w.heap.size 36 (.slice p' (rem id xs).length c') (rem id xs) ∧ Grew w w' := by
  subst hl
  have HI := Lib.hid h
  clear h
  go_enter Try.func21, Try.ntmps21
  go_wp2_with fail
  go_loopg [6, 11] xs.length (fun g ov iv wr => ∃ (k : Nat) (p1 : Option Addr) (n1 c1 : Nat) (zs : List It), ov = .slice p1 n1 c1 ∧ iv = .int .i64 (k : Int) ∧ k ≤ xs.length ∧ g = xs.length - k ∧ n1 ≤ k ∧ Hid (n1 = zs.length) ∧ Hid (zs = rem id (xs.take k)) ∧ Hid (OwI wr w.heap.size 36 (.slice p1 n1 c1) zs) ∧ Hid (Grew w wr))
  case atStart => exact ⟨0, none, 0, 0, [], rfl, rfl, Nat.zero_le _, rfl, Nat.le_refl _, rfl, rfl, OwI.nil _ _ _, Grew.refl _⟩
  case round =>
    obtain ⟨k, p1, n1, c1, zs, rfl, rfl, hk, rfl, hn1, hnz, hz, ho, hg⟩ := hrel
    by_cases hlt : k < xs.length
    · obtain ⟨b, o, rfl, _⟩ := HI.out.cells (by omega)
      obtain ⟨hx0, hx1⟩ := (HI.out.kept hg.out).at hlt
      have hts := take_snocI xs k hlt
      generalize xs.getD k (0, 0) = x at hx0 hx1 hts
      obtain ⟨x1, x2⟩ := x
      have Hts := Lib.hid hts
      have hgs : w.heap.size ≤ wr.heap.size := Below.size hg.out
      clear hts
      by_cases hne : x1 = id
      · have b1 : (x1 != id) = false := by simp [hne]
        have hrs := Lib.hid (show rem id (xs.take (k + 1)) = zs by rw [Hts.out, rem_snoc, if_pos hne, ← hz.out])
        clear hne
        go_wp2
        go_roundg (xs.length - (k + 1))
        case measure => omega
        case rel => exact ⟨k + 1, p1, n1, c1, zs, rfl, by go_num, by omega, rfl, by omega, hnz, hrs.out.symm, ho.out.alloc _, hg.out.alloc _⟩
      · have b1 : (x1 != id) = true := by simp [hne]
        have hrs := Lib.hid (show rem id (xs.take (k + 1)) = zs ++ [(x1, x2)] by rw [Hts.out, rem_snoc, if_neg hne, ← hz.out])
        clear hne
        go_wp2_with (at_builtin; refine wpList_appendJ rfl _ _ rfl w.heap.size _ zs rfl ((ho.out.alloc _).alloc _) _ _ _ [(x1, x2)] rfl rfl (made1 _ _ _ _ _ _ (by simp) rfl) (by have := hnz.out; simp; omega) (by simp; omega) ?_; intro p2 c2 zs2 w2 hz2 ho2 hb2)
        have hl2 : zs2.length = n1 + 1 := by rw [hz2.out]; simp [hnz.out]
        rw [hl2] at ho2 ⊢
        go_roundg (xs.length - (k + 1))
        case measure => omega
        case rel => exact ⟨k + 1, p2, n1 + 1, c2, zs2, rfl, by go_num, by omega, rfl, by omega, Lib.hid hl2.symm, by rw [hrs.out]; exact hz2.out, ho2, Below.trans ((hg.out.alloc _).alloc _) hb2⟩
    · obtain rfl : k = xs.length := by omega
      rw [List.take_length] at hz
      have hlt2 := rem_lt id xs
      rw [← hz.out, ← hnz.out] at hlt2
      have Hlt := Lib.hid hlt2
      clear hlt2
      go_wp2
      go_ret2
      have e1 : n1 = (rem id xs).length := by rw [hnz.out, hz.out]
      have e2 : zs = rem id xs := hz.out
      subst e1 e2
      refine ⟨p1, c1, ?_, ho.out, hg.out⟩
      simp [← Hlt.out]
end Go.Proofs.Ytjcoghjkjnhljaa
