/-
  A REGION THAT DRAWS ITS ORDER, BY POSTS, WITH ONE OPERATION THAT WRITES TO NAMED BLOCKS.
-/
import Derived.Test.YtmfahmbebpojpaaPostsW
import Derived.Test.YtmfahmbebpojpaaChg
namespace Go.Proofs.Ytmfahmbebpojpaa
open Go Go.RowKit

/-- What a step may do to the memory. -/
abbrev ChgR (S : Nat → Prop) (w w' : World) : Prop := Chg w w' S
def MonosW (S : Nat → Prop) (lt : Nat → Bool) : Nat → List (Value → World → Prop) → Prop
  | _, [] => True
  | i, p :: ps => (∀ v w w', (bif lt i then Grew else ChgR S) w w' → p v w → p v w') ∧ MonosW S lt (i + 1) ps
theorem MonosW.at {S : Nat → Prop} {lt : Nat → Bool} : ∀ {n : Nat} {ps : List (Value → World → Prop)}, MonosW S lt n ps → ∀ (i : Nat) (v : Value) (w w' : World), (bif lt (n + i) then Grew else ChgR S) w w' → postAt ps i v w → postAt ps i v w'
  | _, [], _, _, _, _, _, _, _ => trivial
  | _, _ :: _, h, 0, v, w, w', hg, hp => h.1 v w w' hg hp
  | n, _ :: ps, h, i + 1, v, w, w', hg, hp => MonosW.at (ps := ps) h.2 i v w w' (by rwa [show n + 1 + i = n + (i + 1) by omega]) hp
section
variable {P : Program} {id : Nat} {ops : Array Oper} {Q : Exit → Act → World → Prop} {a0 : Act} {w0 : World}
theorem wp_postsW (i0 : Nat) (lt er : Nat → Bool) (n : Nat) (S : Nat → Prop) (sl : List (Option Nat)) (D : List Bool) (ps : List (Value → World → Prop)) (hm : P.follows .mixedOrders = true) (hok : regionOkN ops n sl D = true) (htl : (decide (n ≤ ops.size) && tailOk ops n) = true) (hD : D.length = a0.tmps.size) (hlate : lateOk ops i0 lt = true) (hearly : earlyOk ops i0 er = true) (hps : MonosW S lt 0 ps)
    (hs : StepsW P (ChgR S) Grew i0 er (postAt ps) sl (mixA D a0) w0.drew 0 (ops.toList.take n)) (hend : ∀ u w, Chg w0.drew w S → (∀ i, i < n → postAt ps i (uval sl u i) w) → wpAny P .any ops Q (ops.size - n) (listedN n ops.size) (mixA D a0 u) w) : (Code.region id ops true).wp P Q a0 w0 :=
  wp_region_tailW i0 lt er n sl D (ChgR S) Grew (postAt ps) hm hok htl hD hlate hearly Grew.refl (fun h h' => Chg.trans h h') (fun h h' => Grew.trans h h') (fun h => Chg.of_grew h S)
    (fun i hl v w w' hg hp => hps.at i v w w' (by rw [Nat.zero_add, hl]; exact hg) hp)
    (fun i v w w' hg hp => hps.at i v w w' (by
      rw [Nat.zero_add]
      cases lt i with
      | true => exact hg
      | false => exact Chg.of_grew hg S) hp) hs hend
/-- Without a last part. -/
theorem wpAny_done {listed : Array Bool} {a : Act} {w : World} (hr : Region.ready .any ops listed = []) (h : Q .normal a w) : wpAny P .any ops Q 0 listed a w := by
  first | exact h | exact ⟨fun _ => h, fun i hi => by rw [hr] at hi; cases hi⟩ | simpa [wpAny, hr] using h
/-- The value v is a slice of bytes, aside of the named blocks, that reads as xs. -/
def IsA (S : Nat → Prop) (xs : List UInt8) (v : Value) (w : World) : Prop := ∃ p c, v = .slice p xs.length c ∧ Bin w p c xs ∧ Away S p
theorem IsA.chg {S : Nat → Prop} {xs : List UInt8} : ∀ (v : Value) (w w' : World), ChgR S w w' → IsA S xs v w → IsA S xs v w' := fun _ _ _ hg ⟨p, c, h1, h2, h3⟩ => ⟨p, c, h1, h2.chg hg h3, h3⟩
end
end Go.Proofs.Ytmfahmbebpojpaa
