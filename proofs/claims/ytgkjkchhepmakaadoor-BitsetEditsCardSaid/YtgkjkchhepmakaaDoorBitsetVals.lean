/-
  CONTRACTS OF LAYER 4 (bitset) BY WHAT THE VALUES ARE: a value is the set f; is the list A.
-/
import Derived.Test.YtgkjkchhepmakaaDoorBitsetAwake
import Derived.Test.YtgkjkchhepmakaaDoorPostsOps
namespace Go.Proofs.YtgkjkchhepmakaaDoor
open Go.RowKit Go.IntWalk

/-- The value is the set f. -/
def SetV (f : Nat → Bool) (v : Value) (w : World) : Prop := ∃ r k j, v = .agg #[.slice r k j] ∧ St w r k j f
/-- The cell at the head of block S holds the set f. -/
def BoxV (f : Nat → Bool) (S : Nat) (w : World) : Prop := ∃ r k j, w.cell? ⟨S, 0, none⟩ = some (.slice r k j) ∧ St w r k j f
/-- The value is the list A. -/
def LstV (A : List Int) (v : Value) (w : World) : Prop := ∃ p c, v = .slice p A.length c ∧ Rd iv w p c A
theorem SetV.mono (f : Nat → Bool) : ∀ v w w', Grew w w' → SetV f v w → SetV f v w' := fun _ _ _ hg ⟨r, k, j, e, h⟩ => ⟨r, k, j, e, h.kept hg⟩
theorem LstV.mono (A : List Int) : ∀ v w w', Grew w w' → LstV A v w → LstV A v w' := fun _ _ _ hg ⟨p, c, e, h⟩ => ⟨p, c, e, h.kept hg⟩
theorem BoxV.kept {f : Nat → Bool} {S : Nat} {w w' : World} (h : BoxV f S w) (hg : Grew w w') : BoxV f S w' :=
  let ⟨r, k, j, e, h⟩ := h
  ⟨r, k, j, (Below.cell hg (p := ⟨S, 0, none⟩) (World.block_lt_of_cell? _ _ e)).trans e, h.kept hg⟩
section
variable {dst : Option Tmp} {ty : TypeId} {pos : String} {after : Array Edge} {g : Option (Nat × Bool)} {a : Act} {w : World} {T : Value → World → Prop}
theorem runs_box {n S : Nat} {f : Nat → Bool} (hx : slot a n = .pointer (some ⟨S, 0, none⟩)) (h : BoxV f S w) : Runs Tryd.prog ⟨dst, .load 27 (.tmp n), ty, pos, after, g⟩ a w (fun v w' => Grew w w' ∧ SetV f v w') := by
  obtain ⟨p, m, c, hc, hs⟩ := h
  rw [← slot_get] at hx
  refine Runs.value (v := .agg #[.slice p m c]) (w' := w) ?_ ⟨Grew.refl _, p, m, c, rfl, hs⟩
  simp only [execOp]
  go_simp
theorem runs_eqb {x y : Nat} {b c : Bool} (hx : slot a x = .bool b) (hy : slot a y = .bool c) (h : T (.bool (b == c)) w) : Runs Tryd.prog ⟨dst, .binOp .eql 4 (.tmp x) (.tmp y) 4, ty, pos, after, g⟩ a w T := by
  rw [← slot_get] at hx hy
  refine Runs.value (v := .bool (b == c)) (w' := w) ?_ h
  simp only [execOp]
  go_simp
theorem runs_eqi {x y : Nat} {b c : Int} (hx : slot a x = .int .i64 b) (hy : slot a y = .int .i64 c) (h : T (.bool (b == c)) w) : Runs Tryd.prog ⟨dst, .binOp .eql 3 (.tmp x) (.tmp y) 3, ty, pos, after, g⟩ a w T := by
  rw [← slot_get] at hx hy
  refine Runs.value (v := .bool (b == c)) (w' := w) ?_ h
  simp only [execOp]
  go_simp
theorem runs_eqk {x : Nat} {b c : Int} (hx : slot a x = .int .i64 b) (h : T (.bool (b == c)) w) : Runs Tryd.prog ⟨dst, .binOp .eql 3 (.tmp x) (.const (.int .i64 c)) 3, ty, pos, after, g⟩ a w T := by
  rw [← slot_get] at hx
  refine Runs.value (v := .bool (b == c)) (w' := w) ?_ h
  simp only [execOp]
  go_simp
theorem runs_add {x y : Nat} {b c : Int} (hx : slot a x = .int .i64 b) (hy : slot a y = .int .i64 c) (hb : -9223372036854775808 ≤ b + c ∧ b + c ≤ 9223372036854775807) (h : T (.int .i64 (b + c)) w) : Runs Tryd.prog ⟨dst, .binOp .add 3 (.tmp x) (.tmp y) 3, ty, pos, after, g⟩ a w T := by
  rw [← slot_get] at hx hy
  refine Runs.value (v := .int .i64 (b + c)) (w' := w) ?_ h
  have hw : IntKind.i64.wrap (b + c) = b + c := IntWalk.i64_in _ hb
  simp only [execOp]
  go_simp
theorem runs_len {x : Nat} {A : List Int} (hx : LstV A (slot a x) w) (h : T (.int .i64 (A.length : Int)) w) : Runs Tryd.prog ⟨dst, .call { callee := .builtin .len, args := #[.tmp x], argTypes := #[22] }, ty, pos, after, g⟩ a w T := by
  obtain ⟨p, c, hx, _⟩ := hx
  rw [← slot_get] at hx
  refine Runs.value (v := .int .i64 (A.length : Int)) (w' := w) ?_ h
  simp only [execOp]
  go_simp
end
theorem enters_equal : Enters Tryd.prog 29 := fun args w => by go_simp
theorem enters_subset : Enters Tryd.prog 31 := fun args w => by go_simp
theorem enters_union : Enters Tryd.prog 20 := fun args w => by go_simp
theorem enters_inter : Enters Tryd.prog 22 := fun args w => by go_simp
theorem enters_minus : Enters Tryd.prog 24 := fun args w => by go_simp
theorem enters_len : Enters Tryd.prog 36 := fun args w => by go_simp
theorem enters_rminus : Enters Tryd.prog 25 := fun args w => by go_simp
theorem enters_requal : Enters Tryd.prog 30 := fun args w => by go_simp
section
variable {w : World} {u v : Value} {f g : Nat → Bool}
theorem equal_v {b : Bool} (hb : b = true ↔ ∀ x, f x = g x) (h : SetV f u w) (h2 : SetV g v w) :
    Calls Tryd.prog 29 #[u, v] w fun e w' => ∃ v, e = .returned v ∧ Grew w w' ∧ v = .bool b := by
  obtain ⟨p, n, c, rfl, h⟩ := h
  obtain ⟨q, m, d, rfl, h2⟩ := h2
  refine (eq_any p n c q m d f g w h h2).mono ?_
  rintro e w' ⟨t, rfl, ht, hw⟩
  obtain rfl : t = b := Bool.eq_iff_iff.2 (ht.out.trans hb.symm)
  exact ⟨_, rfl, hw, rfl⟩
theorem subset_v {b : Bool} (hb : b = true ↔ ∀ x, f x = true → g x = true) (h : SetV f u w) (h2 : SetV g v w) :
    Calls Tryd.prog 31 #[u, v] w fun e w' => ∃ v, e = .returned v ∧ Grew w w' ∧ v = .bool b := by
  obtain ⟨p, n, c, rfl, h⟩ := h
  obtain ⟨q, m, d, rfl, h2⟩ := h2
  refine (subset_any p n c q m d f g w h h2).mono ?_
  rintro e w' ⟨t, rfl, ht, hw⟩
  obtain rfl : t = b := Bool.eq_iff_iff.2 (ht.out.trans hb.symm)
  exact ⟨_, rfl, hw, rfl⟩
theorem union_v (h : SetV f u w) (h2 : SetV g v w) :
    Calls Tryd.prog 20 #[u, v] w fun e w' => ∃ v, e = .returned v ∧ Grew w w' ∧ SetV (fun x => f x || g x) v w' := by
  obtain ⟨p, n, c, rfl, h⟩ := h
  obtain ⟨q, m, d, rfl, h2⟩ := h2
  refine (union_any p n c q m d f g w h h2).mono ?_
  rintro e w' ⟨r, k, j, rfl, -, hs, hw⟩
  exact ⟨_, rfl, hw, r, k, j, rfl, hs⟩
theorem inter_v (h : SetV f u w) (h2 : SetV g v w) :
    Calls Tryd.prog 22 #[u, v] w fun e w' => ∃ v, e = .returned v ∧ Grew w w' ∧ SetV (fun x => f x && g x) v w' := by
  obtain ⟨p, n, c, rfl, h⟩ := h
  obtain ⟨q, m, d, rfl, h2⟩ := h2
  refine (inter_any p n c q m d f g w h h2).mono ?_
  rintro e w' ⟨r, k, j, rfl, -, hs, hw⟩
  exact ⟨_, rfl, hw, r, k, j, rfl, hs⟩
theorem minus_v (h : SetV f u w) (h2 : SetV g v w) :
    Calls Tryd.prog 24 #[u, v] w fun e w' => ∃ v, e = .returned v ∧ Grew w w' ∧ SetV (fun x => f x && !g x) v w' := by
  obtain ⟨p, n, c, rfl, h⟩ := h
  obtain ⟨q, m, d, rfl, h2⟩ := h2
  refine (minus_any p n c q m d f g w h h2).mono ?_
  rintro e w' ⟨r, k, j, rfl, -, hs, hw⟩
  exact ⟨_, rfl, hw, r, k, j, rfl, hs⟩
theorem len_v {x : List Nat} (hx : Lst f x) (h : SetV f u w) :
    Calls Tryd.prog 36 #[u] w fun e w' => ∃ v, e = .returned v ∧ Grew w w' ∧ v = .int .i64 (x.length : Int) := by
  obtain ⟨p, n, c, rfl, h⟩ := h
  refine (len_any p n c f x w h hx).mono ?_
  rintro e w' ⟨rfl, hw⟩
  exact ⟨_, rfl, hw, rfl⟩
theorem rminus_v {A B : List Int} (hA : A.length ≤ 1048576) (h : LstV A u w) (h2 : LstV B v w) :
    Calls Tryd.prog 25 #[u, v] w fun e w' => ∃ v, e = .returned v ∧ Grew w w' ∧ LstV (subZ A B) v w' := by
  obtain ⟨p, c, rfl, h⟩ := h
  obtain ⟨q, d, rfl, h2⟩ := h2
  refine (rminus_any p _ c A q _ d B w rfl rfl hA h h2).mono ?_
  rintro e w' ⟨r, k, j, rfl, rfl, hr, hw⟩
  exact ⟨_, rfl, hw, r, j, rfl, hr⟩
theorem requal_v {A B : List Int} {b : Bool} (hb : b = true ↔ A = B) (h : LstV A u w) (h2 : LstV B v w) :
    Calls Tryd.prog 30 #[u, v] w fun e w' => ∃ v, e = .returned v ∧ Grew w w' ∧ v = .bool b := by
  obtain ⟨p, c, rfl, h⟩ := h
  obtain ⟨q, d, rfl, h2⟩ := h2
  refine (requal_any p _ c A q _ d B w rfl rfl h h2).mono ?_
  rintro e w' ⟨t, rfl, ht, hw⟩
  obtain rfl : t = b := Bool.eq_iff_iff.2 (ht.out.trans hb.symm)
  exact ⟨_, rfl, hw, rfl⟩
end
end Go.Proofs.YtgkjkchhepmakaaDoor
