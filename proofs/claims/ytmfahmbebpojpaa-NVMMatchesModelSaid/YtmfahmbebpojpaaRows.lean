/-
  No cell of these rows narrows 'for every input' (looked for: loops, veiled, ifaces, maps, wideKeys, modest, calm, conditions, laid).
  DERIVED. THE GIVEN ROWS OF THIS SEAT. 6 by the template 'for every input the law returns true; each argument reads behind the call as it read before'; 0 by the template 'total and deterministic' (their statements: YtmfahmbebpojpaaTotals.lean).
  GIVEN WITH THE SEED: the statements are not yours to turn. If you find one false, say at which input.
  Laid BY PROGRAM, IN A SANDBOX (cutbox-rows.mjs): the forced cells as the released guide's own fill.sh prints them over the translation eeb4fe6b7562d41e… (all of the seat's roots in one cut). By AI agents, Wed Nov 11 2026. No macro, syntax, notation, axiom, sorry.
-/
import Derived.Test.YtmfahmbebpojpaaChecked
import GoSem.Claim
import GoSem.ClaimJoined
import GoSem.ClaimMapViews
import Derived.JoinedTies
import Derived.KernelRfl
namespace Go.Proofs.Ytmfahmbebpojpaa
/- THE CELL 'sum', in the pinned program and in every row, IS THE sha256 OF THE DUMP (.gsa) THAT YtmfahmbebpojpaaProg.lean LOADS. Nothing in Lean hashes anything: it is a label: what it is worth is what the hold of that sum in a sandbox is worth. -/
noncomputable def Try.pinned : Pinned := { name := "ytmfahmbebpojpaa", sum := "eeb4fe6b7562d41e553876e252c105d950b3b43accc4fb05ac895180d8cf308e", checked := Try.checked }
namespace Rows
def none {H : Type} : Left H := { results := [], args := [] }

/-- 'tricklelaw07.NVMMatchesModel': WHATEVER THE INPUT: true; the input reads as it did. -/
def nVMMatchesModelSpec : ChangeSpec := { name := "nVMMatchesModel", fn := fun _ => fun
  | [d1, d2] => { results := [.lit (.bool true)], args := [d1, d2] }
  | _ => none }
def nVMMatchesModelRow : OpenClaim := { program := "ytmfahmbebpojpaa", sum := "eeb4fe6b7562d41e553876e252c105d950b3b43accc4fb05ac895180d8cf308e", func := "trickle/tricklelaw07.NVMMatchesModel", spec := "nVMMatchesModel", unfollowed := true, recurses := true, apart := false }
def NVMMatchesModelSaid : Prop := nVMMatchesModelRow.holds Try.pinned (OpenSpec.ofChange nVMMatchesModelSpec)

/-- ITS FALSE NEIGHBOUR: 'it returns false'. Refute it at one input. -/
def nVMMatchesModelWrong : ChangeSpec := { name := "nVMMatchesModel", fn := fun _ => fun
  | [d1, d2] => { results := [.lit (.bool false)], args := [d1, d2] }
  | _ => none }
def NVMMatchesModelWrongFalsely : Prop := nVMMatchesModelRow.holds Try.pinned (OpenSpec.ofChange nVMMatchesModelWrong)

/-- 'tricklelaw07.NVMArm': WHATEVER THE INPUT: true; the input reads as it did. -/
def nVMArmSpec : ChangeSpec := { name := "nVMArm", fn := fun _ => fun
  | [d1, d2, d3] => { results := [.lit (.bool true)], args := [d1, d2, d3] }
  | _ => none }
def nVMArmRow : OpenClaim := { program := "ytmfahmbebpojpaa", sum := "eeb4fe6b7562d41e553876e252c105d950b3b43accc4fb05ac895180d8cf308e", func := "trickle/tricklelaw07.NVMArm", spec := "nVMArm", unfollowed := true, recurses := true, apart := false }
def NVMArmSaid : Prop := nVMArmRow.holds Try.pinned (OpenSpec.ofChange nVMArmSpec)

/-- ITS FALSE NEIGHBOUR: 'it returns false'. Refute it at one input. -/
def nVMArmWrong : ChangeSpec := { name := "nVMArm", fn := fun _ => fun
  | [d1, d2, d3] => { results := [.lit (.bool false)], args := [d1, d2, d3] }
  | _ => none }
def NVMArmWrongFalsely : Prop := nVMArmRow.holds Try.pinned (OpenSpec.ofChange nVMArmWrong)

/-- 'tricklelaw07.NVMMeter': WHATEVER THE INPUT: true; the input reads as it did. -/
def nVMMeterSpec : ChangeSpec := { name := "nVMMeter", fn := fun _ => fun
  | [d1, d2] => { results := [.lit (.bool true)], args := [d1, d2] }
  | _ => none }
def nVMMeterRow : OpenClaim := { program := "ytmfahmbebpojpaa", sum := "eeb4fe6b7562d41e553876e252c105d950b3b43accc4fb05ac895180d8cf308e", func := "trickle/tricklelaw07.NVMMeter", spec := "nVMMeter", unfollowed := true, recurses := true, apart := false }
def NVMMeterSaid : Prop := nVMMeterRow.holds Try.pinned (OpenSpec.ofChange nVMMeterSpec)

/-- ITS FALSE NEIGHBOUR: 'it returns false'. Refute it at one input. -/
def nVMMeterWrong : ChangeSpec := { name := "nVMMeter", fn := fun _ => fun
  | [d1, d2] => { results := [.lit (.bool false)], args := [d1, d2] }
  | _ => none }
def NVMMeterWrongFalsely : Prop := nVMMeterRow.holds Try.pinned (OpenSpec.ofChange nVMMeterWrong)

/-- 'tricklelaw07.NVMWords': WHATEVER THE INPUT: true; the input reads as it did. -/
def nVMWordsSpec : ChangeSpec := { name := "nVMWords", fn := fun _ => fun
  | [d1, d2] => { results := [.lit (.bool true)], args := [d1, d2] }
  | _ => none }
def nVMWordsRow : OpenClaim := { program := "ytmfahmbebpojpaa", sum := "eeb4fe6b7562d41e553876e252c105d950b3b43accc4fb05ac895180d8cf308e", func := "trickle/tricklelaw07.NVMWords", spec := "nVMWords", unfollowed := true, recurses := true, apart := false }
def NVMWordsSaid : Prop := nVMWordsRow.holds Try.pinned (OpenSpec.ofChange nVMWordsSpec)

/-- ITS FALSE NEIGHBOUR: 'it returns false'. Refute it at one input. -/
def nVMWordsWrong : ChangeSpec := { name := "nVMWords", fn := fun _ => fun
  | [d1, d2] => { results := [.lit (.bool false)], args := [d1, d2] }
  | _ => none }
def NVMWordsWrongFalsely : Prop := nVMWordsRow.holds Try.pinned (OpenSpec.ofChange nVMWordsWrong)

/-- 'tricklelaw07.NVMOff': WHATEVER THE INPUT: true; the input reads as it did. -/
def nVMOffSpec : ChangeSpec := { name := "nVMOff", fn := fun _ => fun
  | [d1, d2, d3] => { results := [.lit (.bool true)], args := [d1, d2, d3] }
  | _ => none }
def nVMOffRow : OpenClaim := { program := "ytmfahmbebpojpaa", sum := "eeb4fe6b7562d41e553876e252c105d950b3b43accc4fb05ac895180d8cf308e", func := "trickle/tricklelaw07.NVMOff", spec := "nVMOff", unfollowed := true, recurses := true, apart := false }
def NVMOffSaid : Prop := nVMOffRow.holds Try.pinned (OpenSpec.ofChange nVMOffSpec)

/-- ITS FALSE NEIGHBOUR: 'it returns false'. Refute it at one input. -/
def nVMOffWrong : ChangeSpec := { name := "nVMOff", fn := fun _ => fun
  | [d1, d2, d3] => { results := [.lit (.bool false)], args := [d1, d2, d3] }
  | _ => none }
def NVMOffWrongFalsely : Prop := nVMOffRow.holds Try.pinned (OpenSpec.ofChange nVMOffWrong)

/-- 'tricklelaw07.NVMNoAliasing': WHATEVER THE INPUT: true; the input reads as it did. -/
def nVMNoAliasingSpec : ChangeSpec := { name := "nVMNoAliasing", fn := fun _ => fun
  | [d] => { results := [.lit (.bool true)], args := [d] }
  | _ => none }
def nVMNoAliasingRow : OpenClaim := { program := "ytmfahmbebpojpaa", sum := "eeb4fe6b7562d41e553876e252c105d950b3b43accc4fb05ac895180d8cf308e", func := "trickle/tricklelaw07.NVMNoAliasing", spec := "nVMNoAliasing", unfollowed := true, recurses := true, apart := false }
def NVMNoAliasingSaid : Prop := nVMNoAliasingRow.holds Try.pinned (OpenSpec.ofChange nVMNoAliasingSpec)

/-- ITS FALSE NEIGHBOUR: 'it returns false'. Refute it at one input. -/
def nVMNoAliasingWrong : ChangeSpec := { name := "nVMNoAliasing", fn := fun _ => fun
  | [d] => { results := [.lit (.bool false)], args := [d] }
  | _ => none }
def NVMNoAliasingWrongFalsely : Prop := nVMNoAliasingRow.holds Try.pinned (OpenSpec.ofChange nVMNoAliasingWrong)

/- THE SECOND FORM. 'bulk': how many values and letters a reading holds, each counted each time it is reached (what is shared counts as often as it is met; a slice's spare places count too). A statement '..UptoSaid' is the law's where the arguments, and the package variables that the reading takes, are together of bulk at most 1048576: NARROWER than '..Said'. Prove '..Said' where nothing that the law and all that it calls make is longer than what came in: it says more and counts as full. Else prove '..UptoSaid'. A law counts once. -/
mutual
def uptoBulk {H : Type} : DataW H → Nat
  | .lit (.string bytes) => bytes.length + 1
  | .lit _ => 1
  | .nil => 1
  | .ptr d => uptoBulk d + 1
  | .slice elems spare => uptoBulkAll elems + uptoBulkAll spare + 1
  | .agg parts => uptoBulkAll parts + 1
  | .iface _ d => uptoBulk d + 1
  | .map entries => uptoBulkEntries entries + 1
  | .held _ => 1
def uptoBulkAll {H : Type} : List (DataW H) → Nat
  | [] => 0
  | d :: r => uptoBulk d + uptoBulkAll r
def uptoBulkEntries {H : Type} : List (Lit × DataW H) → Nat
  | [] => 0
  | x :: r => uptoBulkEntry x + uptoBulkEntries r
def uptoBulkEntry {H : Type} : Lit × DataW H → Nat
  | (.string bytes, d) => bytes.length + uptoBulk d + 1
  | (_, d) => uptoBulk d + 1
 end
def uptoSmall : (H : Type) → List (DataW H) → Bool := fun _ ds => decide (uptoBulkAll ds ≤ 1048576)
def OpenSpec.upto (s : _root_.Go.ChangeSpec) : _root_.Go.OpenSpec := { _root_.Go.OpenSpec.ofChange s with cond := some uptoSmall }

/-- 'tricklelaw07.NVMMatchesModel', WHERE WHAT IT READS IS OF BULK AT MOST 1048576: true; the input reads as it did. -/
def nVMMatchesModelUptoRow : OpenClaim := { program := "ytmfahmbebpojpaa", sum := "eeb4fe6b7562d41e553876e252c105d950b3b43accc4fb05ac895180d8cf308e", func := "trickle/tricklelaw07.NVMMatchesModel", spec := "nVMMatchesModel", unfollowed := true, recurses := true, apart := false, narrowed := true }
def NVMMatchesModelUptoSaid : Prop := nVMMatchesModelUptoRow.holds Try.pinned (OpenSpec.upto nVMMatchesModelSpec)

/-- 'tricklelaw07.NVMArm', WHERE WHAT IT READS IS OF BULK AT MOST 1048576: true; the input reads as it did. -/
def nVMArmUptoRow : OpenClaim := { program := "ytmfahmbebpojpaa", sum := "eeb4fe6b7562d41e553876e252c105d950b3b43accc4fb05ac895180d8cf308e", func := "trickle/tricklelaw07.NVMArm", spec := "nVMArm", unfollowed := true, recurses := true, apart := false, narrowed := true }
def NVMArmUptoSaid : Prop := nVMArmUptoRow.holds Try.pinned (OpenSpec.upto nVMArmSpec)

/-- 'tricklelaw07.NVMMeter', WHERE WHAT IT READS IS OF BULK AT MOST 1048576: true; the input reads as it did. -/
def nVMMeterUptoRow : OpenClaim := { program := "ytmfahmbebpojpaa", sum := "eeb4fe6b7562d41e553876e252c105d950b3b43accc4fb05ac895180d8cf308e", func := "trickle/tricklelaw07.NVMMeter", spec := "nVMMeter", unfollowed := true, recurses := true, apart := false, narrowed := true }
def NVMMeterUptoSaid : Prop := nVMMeterUptoRow.holds Try.pinned (OpenSpec.upto nVMMeterSpec)

/-- 'tricklelaw07.NVMWords', WHERE WHAT IT READS IS OF BULK AT MOST 1048576: true; the input reads as it did. -/
def nVMWordsUptoRow : OpenClaim := { program := "ytmfahmbebpojpaa", sum := "eeb4fe6b7562d41e553876e252c105d950b3b43accc4fb05ac895180d8cf308e", func := "trickle/tricklelaw07.NVMWords", spec := "nVMWords", unfollowed := true, recurses := true, apart := false, narrowed := true }
def NVMWordsUptoSaid : Prop := nVMWordsUptoRow.holds Try.pinned (OpenSpec.upto nVMWordsSpec)

/-- 'tricklelaw07.NVMOff', WHERE WHAT IT READS IS OF BULK AT MOST 1048576: true; the input reads as it did. -/
def nVMOffUptoRow : OpenClaim := { program := "ytmfahmbebpojpaa", sum := "eeb4fe6b7562d41e553876e252c105d950b3b43accc4fb05ac895180d8cf308e", func := "trickle/tricklelaw07.NVMOff", spec := "nVMOff", unfollowed := true, recurses := true, apart := false, narrowed := true }
def NVMOffUptoSaid : Prop := nVMOffUptoRow.holds Try.pinned (OpenSpec.upto nVMOffSpec)

/-- 'tricklelaw07.NVMNoAliasing', WHERE WHAT IT READS IS OF BULK AT MOST 1048576: true; the input reads as it did. -/
def nVMNoAliasingUptoRow : OpenClaim := { program := "ytmfahmbebpojpaa", sum := "eeb4fe6b7562d41e553876e252c105d950b3b43accc4fb05ac895180d8cf308e", func := "trickle/tricklelaw07.NVMNoAliasing", spec := "nVMNoAliasing", unfollowed := true, recurses := true, apart := false, narrowed := true }
def NVMNoAliasingUptoSaid : Prop := nVMNoAliasingUptoRow.holds Try.pinned (OpenSpec.upto nVMNoAliasingSpec)

end Rows
end Go.Proofs.Ytmfahmbebpojpaa
