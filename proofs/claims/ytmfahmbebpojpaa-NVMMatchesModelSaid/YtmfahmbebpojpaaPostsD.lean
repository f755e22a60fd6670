/-
  A REGION THAT DRAWS ITS ORDER, BY POSTS: one operation writes to named blocks; some only read slots; the last ones come one after the other.
-/
import Derived.Test.YtmfahmbebpojpaaPostsSideW
import Derived.Test.YtmfahmbebpojpaaPostsC
namespace Go.Proofs.Ytmfahmbebpojpaa
open Go Go.RowKit

section
variable {P : Program} {id : Nat} {ops : Array Oper} {Q : Exit → Act → World → Prop} {a0 : Act} {w0 : World}
theorem wp_postsD (sd : Nat → Bool) (i0 : Nat) (lt er : Nat → Bool) (n : Nat) (S : Nat → Prop) (sl : List (Option Nat)) (D : List Bool) (ps : List (Value → World → Prop)) (hm : P.follows .mixedOrders = true) (hok : regionOkN ops n sl D = true) (htl : (decide (n ≤ ops.size) && tailOkSS ops n sd) = true) (hside : sideOk ops n sd = true) (hns : Region.noSelect ops = true) (hQ : ∀ d c v a w, Q (.panic c) (a.put d v) w → Q (.panic c) a w)
    (hD : D.length = a0.tmps.size) (hlate : lateOk ops i0 lt = true) (hearly : earlyOk ops i0 er = true)
    (hpure : ∀ f of, sd f = true → ops[f]? = some of → ∀ u w, Chg w0.drew w S → deps (postAt ps) sl u w of.after.toList → ∃ v, (∀ w', (execOp (mixA D a0 u).eval of).run P w' = .ok (.value v) w') ∧ postAt ps f (match of.dst with | some _ => v | none => undef) w)
    (hps : MonosW S lt 0 ps)
    (hs : StepsW P (ChgR S) Grew i0 er (postAt ps) sl (mixA D a0) w0.drew 0 (ops.toList.take n)) (hend : ∀ u w, Chg w0.drew w S → (∀ i, i < n → postAt ps i (uval sl u i) w) → wpAny P .any ops Q (ops.size - n) (listedN n ops.size) (mixA D a0 u) w) : (Code.region id ops true).wp P Q a0 w0 :=
  wp_region_sideW sd i0 lt er n sl D (ChgR S) Grew (postAt ps) hm hok htl hside hns hQ hpure hD hlate hearly Grew.refl (fun h h' => Chg.trans h h') (fun h h' => Grew.trans h h') (fun h => Chg.of_grew h S)
    (fun i hl v w w' hg hp => hps.at i v w w' (by rw [Nat.zero_add, hl]; exact hg) hp)
    (fun i v w w' hg hp => hps.at i v w w' (by
      rw [Nat.zero_add]
      cases lt i with
      | true => exact hg
      | false => exact Chg.of_grew hg S) hp) hs hend
end
end Go.Proofs.Ytmfahmbebpojpaa
