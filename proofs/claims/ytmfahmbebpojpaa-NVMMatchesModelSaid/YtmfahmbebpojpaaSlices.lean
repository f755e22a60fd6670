/-
  SLICES OF BYTES, FURTHER: cutting them, whatever address they lie at; worlds that differ in one row of memory alone. Nothing of the program stands here.
-/
import Derived.Test.YtmfahmbebpojpaaBytes
namespace Go.Proofs.Ytmfahmbebpojpaa
open Go Go.RowKit Go.ChangeShapes Go.WideShapes Go.ChangeAt

def slLen : Value → Nat
  | .slice _ n _ => n
  | _ => 0
/-- Where the part from L on lies. -/
def cutAt (p : Option Addr) (c L : Nat) : Option Addr := if c = L then p else p.map (·.add (L * 1))
theorem sliced_eq (p : Option Addr) (c L H : Nat) : sliced p L H c 1 = .slice (cutAt p c L) (H - L) (c - L) := rfl
theorem Bin.cut {w : World} {p : Option Addr} {c : Nat} {xs : List UInt8} (h : Bin w p c xs) (L H : Nat) (hL : L ≤ H) (hH : H ≤ xs.length) : Bin w (cutAt p c L) (c - L) ((xs.take H).drop L) := by
  have hcap := h.cap
  have hl : ((xs.take H).drop L).length = H - L := by simp; omega
  refine ⟨by omega, by have := h.max; omega, fun hn => ?_, fun h0 => ?_⟩
  · unfold cutAt at hn
    split at hn
    · omega
    · have := h.bare (by cases p <;> simp_all)
      omega
  · rw [hl] at h0 ⊢
    obtain ⟨b, o, rfl, hc⟩ := h.cells (by omega)
    refine ⟨b, o + L, ?_, fun i hi => ?_⟩
    · unfold cutAt
      rw [if_neg (by omega), Option.map_some, Go.WideShapes.add_plain, Nat.mul_one]
    · rw [Nat.add_assoc, hc (L + i) (by omega)]
      congr 2
      simp [List.getD, List.getElem?_drop, show L + i < H by omega]

section
variable {P : Program} {w : World} {ops : Array Oper} {rest : List Oper} {o : Oper} {a : Act} {Q : Exit → Act → World → Prop}

/-- 'b[:h]'. -/
theorem wpList_cut_h (hg : o.guard = none) (x : Operand) (t : TypeId) (y : Operand) (hop : o.op = Op.slice t x none (some y) none)
    (ht : P.underlying t = some (.slice (P.elem t))) (hs : ∀ w : World, (sizeOf (P.elem t)).run P w = .ok 1 w)
    (p : Option Addr) (n c : Nat) (xs : List UInt8) (hx : a.eval x = .slice p n c) (hl : xs.length = n) {w0 : World} (hin : Bin w0 p c xs) (kh : IntKind) (z : Int) (H : Nat) (hy : a.eval y = .int kh z) (hz : z = (H : Int)) (hH : H ≤ n)
    (h : ∀ ys : List UInt8, ys.length = H → Hid (ys = xs.take H) → Bin w0 p c ys → wpList P ops Q rest (a.put o.dst (.slice p H c)) w) : wpList P ops Q (o :: rest) a w := by
  subst hl hz
  have hcap := hin.cap
  have hb := hin.cut 0 H (Nat.zero_le _) hH
  rw [List.drop_zero] at hb
  have e0 : cutAt p c 0 = p := by
    unfold cutAt
    split
    · rfl
    · cases p
      · rfl
      · rename_i ad
        obtain ⟨b, o, s⟩ := ad
        simp [Addr.add]
  rw [e0, Nat.sub_zero] at hb
  have hrun : (Instr.sliceAt t (.slice p xs.length c) none (some (.int kh H)) none).run P w = .ok (.slice p H c) w := by
    rw [run_sliceAt_slice w t _ _ _ _ ht, run_slice_h w t p xs.length c ht kh H (by omega) (by omega), hs]
    simp only [Result.andThen, Int.toNat_natCast, sliced_eq, e0, Nat.sub_zero]
  refine wpList_plain hg fun K hK => ?_
  unfold Oper.wp
  simp [execOp, hop, hx, hy, hrun, Result.andThen]
  exact hK _ _ (h _ (by simp; omega) rfl hb)
/-- 'b[l:]'. -/
theorem wpList_cut_l (hg : o.guard = none) (x : Operand) (t : TypeId) (y : Operand) (hop : o.op = Op.slice t x (some y) none none)
    (ht : P.underlying t = some (.slice (P.elem t))) (hs : ∀ w : World, (sizeOf (P.elem t)).run P w = .ok 1 w)
    (p : Option Addr) (n c : Nat) (xs : List UInt8) (hx : a.eval x = .slice p n c) (hl : xs.length = n) {w0 : World} (hin : Bin w0 p c xs) (kl : IntKind) (z : Int) (L : Nat) (hy : a.eval y = .int kl z) (hz : z = (L : Int)) (hL : L ≤ n)
    (h : ∀ (p' : Option Addr) (c' m : Nat) (ys : List UInt8), ys.length = m → Hid (ys = xs.drop L) → m = n - L → Bin w0 p' c' ys → wpList P ops Q rest (a.put o.dst (.slice p' m c')) w) : wpList P ops Q (o :: rest) a w := by
  subst hl hz
  have hcap := hin.cap
  have hb := hin.cut L xs.length hL (Nat.le_refl _)
  rw [List.take_length] at hb
  have hrun : (Instr.sliceAt t (.slice p xs.length c) (some (.int kl L)) none none).run P w = .ok (.slice (cutAt p c L) (xs.length - L) (c - L)) w := by
    rw [run_sliceAt_slice w t _ _ _ _ ht, run_slice_l w t p xs.length c ht kl L (by omega) (by omega), hs]
    simp only [Result.andThen, Int.toNat_natCast, sliced_eq]
  refine wpList_plain hg fun K hK => ?_
  unfold Oper.wp
  simp [execOp, hop, hx, hy, hrun, Result.andThen]
  exact hK _ _ (h _ _ _ _ (by simp) rfl rfl hb)
/-- 'b[l:h]'. -/
theorem wpList_cut_lh (hg : o.guard = none) (x : Operand) (t : TypeId) (y y' : Operand) (hop : o.op = Op.slice t x (some y) (some y') none)
    (ht : P.underlying t = some (.slice (P.elem t))) (hs : ∀ w : World, (sizeOf (P.elem t)).run P w = .ok 1 w)
    (p : Option Addr) (n c : Nat) (xs : List UInt8) (hx : a.eval x = .slice p n c) (hl : xs.length = n) {w0 : World} (hin : Bin w0 p c xs) (kl kh : IntKind) (z z' : Int) (L H : Nat) (hy : a.eval y = .int kl z) (hz : z = (L : Int)) (hy' : a.eval y' = .int kh z') (hz' : z' = (H : Int)) (hL : L ≤ H) (hH : H ≤ n)
    (h : ∀ (p' : Option Addr) (c' m : Nat) (ys : List UInt8), ys.length = m → Hid (ys = (xs.take H).drop L) → m = H - L → Bin w0 p' c' ys → wpList P ops Q rest (a.put o.dst (.slice p' m c')) w) : wpList P ops Q (o :: rest) a w := by
  subst hl hz hz'
  have hcap := hin.cap
  have hb := hin.cut L H hL hH
  have hrun : (Instr.sliceAt t (.slice p xs.length c) (some (.int kl L)) (some (.int kh H)) none).run P w = .ok (.slice (cutAt p c L) (H - L) (c - L)) w := by
    rw [run_sliceAt_slice w t _ _ _ _ ht, run_slice_lh w t p xs.length c ht kl kh L H (by omega) (by omega) (by omega), hs]
    simp only [Result.andThen, Int.toNat_natCast, sliced_eq]
  refine wpList_plain hg fun K hK => ?_
  unfold Oper.wp
  simp [execOp, hop, hx, hy, hy', hrun, Result.andThen]
  exact hK _ _ (h _ _ _ _ (by simp; omega) rfl rfl hb)
/-- 'b[:h]', told for whatever world in which b reads as xs. -/
theorem wpList_all_h (hg : o.guard = none) (x : Operand) (t : TypeId) (y : Operand) (hop : o.op = Op.slice t x none (some y) none)
    (ht : P.underlying t = some (.slice (P.elem t))) (hs : ∀ w : World, (sizeOf (P.elem t)).run P w = .ok 1 w)
    (p : Option Addr) (n c : Nat) (xs : List UInt8) (hx : a.eval x = .slice p n c) (hl : xs.length = n) {w0 : World} (hin : Bin w0 p c xs) (kh : IntKind) (z : Int) (H : Nat) (hy : a.eval y = .int kh z) (hz : z = (H : Int)) (hH : H ≤ n)
    (h : ∀ ys : List UInt8, ys.length = H → Hid (ys = xs.take H) → Hid (∀ w1, Bin w1 p c xs → Bin w1 p c ys) → wpList P ops Q rest (a.put o.dst (.slice p H c)) w) : wpList P ops Q (o :: rest) a w :=
  wpList_cut_h hg x t y hop ht hs p n c xs hx hl hin kh z H hy hz hH fun ys h1 h2 _ => h ys h1 h2 (fun w1 h3 => by rw [h2.out]; exact h3.upto H (by omega))
/-- 'b[l:]', told for whatever world in which b reads as xs. -/
theorem wpList_all_l (hg : o.guard = none) (x : Operand) (t : TypeId) (y : Operand) (hop : o.op = Op.slice t x (some y) none none)
    (ht : P.underlying t = some (.slice (P.elem t))) (hs : ∀ w : World, (sizeOf (P.elem t)).run P w = .ok 1 w)
    (p : Option Addr) (n c : Nat) (xs : List UInt8) (hx : a.eval x = .slice p n c) (hl : xs.length = n) {w0 : World} (hin : Bin w0 p c xs) (kl : IntKind) (z : Int) (L : Nat) (hy : a.eval y = .int kl z) (hz : z = (L : Int)) (hL : L ≤ n)
    (h : ∀ (p' : Option Addr) (c' m : Nat) (ys : List UInt8), ys.length = m → Hid (ys = xs.drop L) → m = n - L → Hid (∀ w1, Bin w1 p c xs → Bin w1 p' c' ys) → wpList P ops Q rest (a.put o.dst (.slice p' m c')) w) : wpList P ops Q (o :: rest) a w := by
  subst hl hz
  have hcap := hin.cap
  have hrun : (Instr.sliceAt t (.slice p xs.length c) (some (.int kl L)) none none).run P w = .ok (.slice (cutAt p c L) (xs.length - L) (c - L)) w := by
    rw [run_sliceAt_slice w t _ _ _ _ ht, run_slice_l w t p xs.length c ht kl L (by omega) (by omega), hs]
    simp only [Result.andThen, Int.toNat_natCast, sliced_eq]
  refine wpList_plain hg fun K hK => ?_
  unfold Oper.wp
  simp [execOp, hop, hx, hy, hrun, Result.andThen]
  refine hK _ _ (h _ _ _ (xs.drop L) (by simp) rfl rfl fun w1 h3 => ?_)
  have hb := h3.cut L xs.length hL (Nat.le_refl _)
  rw [List.take_length] at hb
  exact hb
end

/-- 'v[:0]' of a slice that the call has made. -/
theorem Own.reset {w : World} {base : Nat} {e : TypeId} {p : Option Addr} {n c : Nat} {xs : List UInt8} (h : Own w base e (.slice p n c) xs) : Own w base e (.slice p 0 c) [] := by
  refine ⟨by simp [bvs], ?_⟩
  rcases h.2 with ⟨hv, _⟩ | ⟨g, cap, cur, hv, hb, hg, hc, hm, hs, ht⟩
  · simp only [Value.slice.injEq] at hv
    obtain ⟨rfl, rfl, rfl⟩ := hv
    exact .inl ⟨rfl, rfl⟩
  · simp only [Value.slice.injEq] at hv
    obtain ⟨rfl, rfl, rfl⟩ := hv
    exact .inr ⟨g, c, cur, rfl, hb, hg, Nat.zero_le _, hm, hs, by simp [bvs]⟩
end Go.Proofs.Ytmfahmbebpojpaa
