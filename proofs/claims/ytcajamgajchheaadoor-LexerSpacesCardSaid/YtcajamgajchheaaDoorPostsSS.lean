/-
  A REGION THAT DRAWS ITS ORDER, BY POSTS, WITH SOME OPERATIONS (L) THAT ONLY READ SLOTS AND FOR WHICH THE LAST PART NEED NOT WAIT (any program; over XPostsSideW, with no writing operation).
-/
import Derived.Test.YtcajamgajchheaaDoorPostsSideW
import Derived.Test.YtcajamgajchheaaDoorBlk
namespace Go.Proofs.YtcajamgajchheaaDoor
open Go

/-- The claim of one operation that only reads slots. -/
def PureAt (P : Program) (F : Nat → Value → World → Prop) (sl : List (Option Nat)) (A : (Nat → Value) → Act) (w0 : World) (f : Nat) : List Oper → Prop
  | [] => True
  | o :: _ => ∀ u w, Grew w0 w → deps F sl u w o.after.toList → ∃ v, (∀ w', (execOp (A u).eval o).run P w' = .ok (.value v) w') ∧ F f (match o.dst with | some _ => v | none => undef) w
def Pures (P : Program) (F : Nat → Value → World → Prop) (sl : List (Option Nat)) (A : (Nat → Value) → Act) (w0 : World) (ops : List Oper) : List Nat → Prop
  | [] => True
  | f :: fs => PureAt P F sl A w0 f (ops.drop f) ∧ Pures P F sl A w0 ops fs
theorem Pures.at {P : Program} {F : Nat → Value → World → Prop} {sl : List (Option Nat)} {A : (Nat → Value) → Act} {w0 : World} {ops : List Oper} (L : List Nat) (h : Pures P F sl A w0 ops L) {f : Nat} (hf : f ∈ L) : PureAt P F sl A w0 f (ops.drop f) := by
  induction L with
  | nil => cases hf
  | cons g L ih =>
    rcases List.mem_cons.1 hf with rfl | hf
    · exact h.1
    · exact ih h.2 hf
theorem stepsW_of {P : Program} {F : Nat → Value → World → Prop} {sl : List (Option Nat)} {A : (Nat → Value) → Act} {w0 : World} {i0 : Nat} {er : Nat → Bool} : ∀ {i : Nat} {os : List Oper}, Steps P Grew F sl A w0 i os → StepsW P Grew Grew i0 er F sl A w0 i os
  | _, [], _ => trivial
  | i, o :: os, h => ⟨fun u w hR _ hd => by
      have := h.1 u w hR hd
      cases Nat.beq i i0 <;> exact this, stepsW_of h.2⟩
section
variable {P : Program} {id : Nat} {ops : Array Oper} {Q : Exit → Act → World → Prop} {a0 : Act} {w0 : World}
theorem wp_sides (L : List Nat) (n : Nat) (sl : List (Option Nat)) (D : List Bool) (ps : List (Value → World → Prop)) (hm : P.follows .mixedOrders = true) (hok : regionOkN ops n sl D = true) (htl : (decide (n ≤ ops.size) && tailOkSS ops n (fun i => L.any (Nat.beq i))) = true) (hside : sideOk ops n (fun i => L.any (Nat.beq i)) = true) (hns : Region.noSelect ops = true)
    (hQ : ∀ d c v a w, Q (.panic c) (a.put d v) w → Q (.panic c) a w) (hD : D.length = a0.tmps.size) (hps : Monos ps) (hpure : Pures P (postAt ps) sl (mixA D a0) w0.drew ops.toList L)
    (hs : Steps P Grew (postAt ps) sl (mixA D a0) w0.drew 0 (ops.toList.take n)) (hend : ∀ u w, Grew w0.drew w → (∀ i, i < n → postAt ps i (uval sl u i) w) → wpAny P .any ops Q (ops.size - n) (listedN n ops.size) (mixA D a0 u) w) : (Code.region id ops true).wp P Q a0 w0 :=
  wp_region_sideW (fun i => L.any (Nat.beq i)) ops.size (fun _ => false) (fun _ => false) n sl D Grew Grew (postAt ps) hm hok htl hside hns hQ
    (fun f of hf ho u w hR hd => by
      have h1 := Pures.at L hpure (f := f) (by
        obtain ⟨x, hx, hb⟩ := List.any_eq_true.1 hf
        rw [Nat.eq_of_beq_eq_true hb]; exact hx)
      have ho' : ops.toList[f]? = some of := by rw [Array.getElem?_toList]; exact ho
      obtain ⟨hl, he⟩ := List.getElem?_eq_some_iff.1 ho'
      rw [List.drop_eq_getElem_cons hl, he] at h1
      exact h1 u w hR hd) hD
    (by simp [lateOk]) (by simp [earlyOk]) Grew.refl (fun h h' => Grew.trans h h') (fun h h' => Grew.trans h h') (fun h => h) (fun i _ v w w' hg hp => hps.at i v w w' hg hp) (fun i v w w' hg hp => hps.at i v w w' hg hp) (stepsW_of hs) hend
end
end Go.Proofs.YtcajamgajchheaaDoor
