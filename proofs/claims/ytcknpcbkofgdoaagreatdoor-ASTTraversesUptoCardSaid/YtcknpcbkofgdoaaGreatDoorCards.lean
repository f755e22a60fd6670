/-
  DERIVED. GIVEN WITH THE SEED: THE CARDS: each row of YtcknpcbkofgdoaaGreatDoorRows.lean that lists a variable, with what it lists TIED to the program's text (the seventh form; the later family's looks); each row that meets fmt, with fmt's text TOLD by the authors' own Lean function (tested against real Go, not proved from fmt's source: count such statements apart). THE CARD IS WHAT COUNTS. Prove the row's statement (the work); the ties are given (YtcknpcbkofgdoaaGreatDoorTie.lean); close each card by the builder's one call (the guide's Derived/Test/ToyasCard.lean, 'card_holds'). Laid BY PROGRAM, IN A SANDBOX (cutbox-door.mjs). By AI agents, Wed Nov 11 2026. No macro, syntax, notation, axiom, sorry.
-/
import Derived.Test.YtcknpcbkofgdoaaGreatDoorRows
import GoSem.ClaimSeven
namespace Go.Proofs.YtcknpcbkofgdoaaGreatDoor
namespace Rows

/-- THE TIED CARD OF 'tricklelaw16.ASTFormats'. -/
def aSTFormatsCard : Claim7 := { stood := { row := aSTFormatsRow, standIns := [], harness := (true, "4836f65319319625326c7d141c32c2b47267fba18bc7d50daada83a94e500178"), looks := false }, kinds := [], alts := [], laidByText := true, laidKinds := [.data, .data, .data, .data, .data, .data, .data, .data, .pinned], laidTests := true, laidLooks := .later }
def ASTFormatsCardSaid : Prop := Claim7.holds Tryz.pinned (.plain (OpenSpec.ofChange aSTFormatsSpec)) aSTFormatsCard

/-- THE TIED CARD OF 'tricklelaw16.ASTFormatsExpr'. -/
def aSTFormatsExprCard : Claim7 := { stood := { row := aSTFormatsExprRow, standIns := [], harness := (true, "4836f65319319625326c7d141c32c2b47267fba18bc7d50daada83a94e500178"), looks := false }, kinds := [], alts := [], laidByText := true, laidKinds := [.data, .data, .data, .data, .data, .data, .data, .data, .pinned], laidTests := true, laidLooks := .later }
def ASTFormatsExprCardSaid : Prop := Claim7.holds Tryz.pinned (.plain (OpenSpec.ofChange aSTFormatsExprSpec)) aSTFormatsExprCard

/-- THE TIED CARD OF 'tricklelaw16.ASTWellFormed'. -/
def aSTWellFormedCard : Claim7 := { stood := { row := aSTWellFormedRow, standIns := [], harness := (true, "4836f65319319625326c7d141c32c2b47267fba18bc7d50daada83a94e500178"), looks := false }, kinds := [], alts := [], laidByText := true, laidKinds := [.data, .data, .data, .data, .data, .data, .data, .data, .pinned], laidTests := true, laidLooks := .later }
def ASTWellFormedCardSaid : Prop := Claim7.holds Tryz.pinned (.plain (OpenSpec.ofChange aSTWellFormedSpec)) aSTWellFormedCard

/-- THE TIED CARD OF 'tricklelaw16.ASTEquality'. -/
def aSTEqualityCard : Claim7 := { stood := { row := aSTEqualityRow, standIns := [], harness := (true, "4836f65319319625326c7d141c32c2b47267fba18bc7d50daada83a94e500178"), looks := false }, kinds := [], alts := [], laidByText := true, laidKinds := [.data, .data, .data, .data, .data, .data, .data, .data, .pinned], laidTests := true, laidLooks := .later }
def ASTEqualityCardSaid : Prop := Claim7.holds Tryz.pinned (.plain (OpenSpec.ofChange aSTEqualitySpec)) aSTEqualityCard

/-- THE TIED CARD OF 'tricklelaw16.ASTTraverses'. -/
def aSTTraversesCard : Claim7 := { stood := { row := aSTTraversesRow, standIns := [], harness := (true, "4836f65319319625326c7d141c32c2b47267fba18bc7d50daada83a94e500178"), looks := false }, kinds := [], alts := [], laidByText := true, laidKinds := [.data, .data, .data, .data, .data, .data, .data, .data, .pinned], laidTests := true, laidLooks := .later }
def ASTTraversesCardSaid : Prop := Claim7.holds Tryz.pinned (.plain (OpenSpec.ofChange aSTTraversesSpec)) aSTTraversesCard

/-- THE TIED CARD OF 'tricklelaw16.ASTMeasures'. -/
def aSTMeasuresCard : Claim7 := { stood := { row := aSTMeasuresRow, standIns := [], harness := (true, "4836f65319319625326c7d141c32c2b47267fba18bc7d50daada83a94e500178"), looks := false }, kinds := [], alts := [], laidByText := true, laidKinds := [.data, .data, .data, .data, .data, .data, .data, .data, .pinned], laidTests := true, laidLooks := .later }
def ASTMeasuresCardSaid : Prop := Claim7.holds Tryz.pinned (.plain (OpenSpec.ofChange aSTMeasuresSpec)) aSTMeasuresCard

/-- THE TIED CARD OF 'tricklelaw16.ASTStrips'. -/
def aSTStripsCard : Claim7 := { stood := { row := aSTStripsRow, standIns := [], harness := (true, "4836f65319319625326c7d141c32c2b47267fba18bc7d50daada83a94e500178"), looks := false }, kinds := [], alts := [], laidByText := true, laidKinds := [.data, .data, .data, .data, .data, .data, .data, .data, .pinned], laidTests := true, laidLooks := .later }
def ASTStripsCardSaid : Prop := Claim7.holds Tryz.pinned (.plain (OpenSpec.ofChange aSTStripsSpec)) aSTStripsCard

/-- THE TIED CARD OF 'tricklelaw16.ASTTextDetermines'. -/
def aSTTextDeterminesCard : Claim7 := { stood := { row := aSTTextDeterminesRow, standIns := [], harness := (true, "4836f65319319625326c7d141c32c2b47267fba18bc7d50daada83a94e500178"), looks := false }, kinds := [], alts := [], laidByText := true, laidKinds := [.data, .data, .data, .data, .data, .data, .data, .data, .pinned], laidTests := true, laidLooks := .later }
def ASTTextDeterminesCardSaid : Prop := Claim7.holds Tryz.pinned (.plain (OpenSpec.ofChange aSTTextDeterminesSpec)) aSTTextDeterminesCard

/-- THE SECOND FORM's CARD OF 'tricklelaw16.ASTFormats'. -/
def aSTFormatsUptoCard : Claim7 := { stood := { row := aSTFormatsUptoRow, standIns := [], harness := (true, "4836f65319319625326c7d141c32c2b47267fba18bc7d50daada83a94e500178"), looks := false }, kinds := [], alts := [], laidByText := true, laidKinds := [.data, .data, .data, .data, .data, .data, .data, .data, .pinned], laidTests := true, laidLooks := .later }
def ASTFormatsUptoCardSaid : Prop := Claim7.holds Tryz.pinned (.plain (OpenSpec.upto aSTFormatsSpec)) aSTFormatsUptoCard

/-- THE SECOND FORM's CARD OF 'tricklelaw16.ASTFormatsExpr'. -/
def aSTFormatsExprUptoCard : Claim7 := { stood := { row := aSTFormatsExprUptoRow, standIns := [], harness := (true, "4836f65319319625326c7d141c32c2b47267fba18bc7d50daada83a94e500178"), looks := false }, kinds := [], alts := [], laidByText := true, laidKinds := [.data, .data, .data, .data, .data, .data, .data, .data, .pinned], laidTests := true, laidLooks := .later }
def ASTFormatsExprUptoCardSaid : Prop := Claim7.holds Tryz.pinned (.plain (OpenSpec.upto aSTFormatsExprSpec)) aSTFormatsExprUptoCard

/-- THE SECOND FORM's CARD OF 'tricklelaw16.ASTWellFormed'. -/
def aSTWellFormedUptoCard : Claim7 := { stood := { row := aSTWellFormedUptoRow, standIns := [], harness := (true, "4836f65319319625326c7d141c32c2b47267fba18bc7d50daada83a94e500178"), looks := false }, kinds := [], alts := [], laidByText := true, laidKinds := [.data, .data, .data, .data, .data, .data, .data, .data, .pinned], laidTests := true, laidLooks := .later }
def ASTWellFormedUptoCardSaid : Prop := Claim7.holds Tryz.pinned (.plain (OpenSpec.upto aSTWellFormedSpec)) aSTWellFormedUptoCard

/-- THE SECOND FORM's CARD OF 'tricklelaw16.ASTEquality'. -/
def aSTEqualityUptoCard : Claim7 := { stood := { row := aSTEqualityUptoRow, standIns := [], harness := (true, "4836f65319319625326c7d141c32c2b47267fba18bc7d50daada83a94e500178"), looks := false }, kinds := [], alts := [], laidByText := true, laidKinds := [.data, .data, .data, .data, .data, .data, .data, .data, .pinned], laidTests := true, laidLooks := .later }
def ASTEqualityUptoCardSaid : Prop := Claim7.holds Tryz.pinned (.plain (OpenSpec.upto aSTEqualitySpec)) aSTEqualityUptoCard

/-- THE SECOND FORM's CARD OF 'tricklelaw16.ASTTraverses'. -/
def aSTTraversesUptoCard : Claim7 := { stood := { row := aSTTraversesUptoRow, standIns := [], harness := (true, "4836f65319319625326c7d141c32c2b47267fba18bc7d50daada83a94e500178"), looks := false }, kinds := [], alts := [], laidByText := true, laidKinds := [.data, .data, .data, .data, .data, .data, .data, .data, .pinned], laidTests := true, laidLooks := .later }
def ASTTraversesUptoCardSaid : Prop := Claim7.holds Tryz.pinned (.plain (OpenSpec.upto aSTTraversesSpec)) aSTTraversesUptoCard

/-- THE SECOND FORM's CARD OF 'tricklelaw16.ASTMeasures'. -/
def aSTMeasuresUptoCard : Claim7 := { stood := { row := aSTMeasuresUptoRow, standIns := [], harness := (true, "4836f65319319625326c7d141c32c2b47267fba18bc7d50daada83a94e500178"), looks := false }, kinds := [], alts := [], laidByText := true, laidKinds := [.data, .data, .data, .data, .data, .data, .data, .data, .pinned], laidTests := true, laidLooks := .later }
def ASTMeasuresUptoCardSaid : Prop := Claim7.holds Tryz.pinned (.plain (OpenSpec.upto aSTMeasuresSpec)) aSTMeasuresUptoCard

/-- THE SECOND FORM's CARD OF 'tricklelaw16.ASTStrips'. -/
def aSTStripsUptoCard : Claim7 := { stood := { row := aSTStripsUptoRow, standIns := [], harness := (true, "4836f65319319625326c7d141c32c2b47267fba18bc7d50daada83a94e500178"), looks := false }, kinds := [], alts := [], laidByText := true, laidKinds := [.data, .data, .data, .data, .data, .data, .data, .data, .pinned], laidTests := true, laidLooks := .later }
def ASTStripsUptoCardSaid : Prop := Claim7.holds Tryz.pinned (.plain (OpenSpec.upto aSTStripsSpec)) aSTStripsUptoCard

/-- THE SECOND FORM's CARD OF 'tricklelaw16.ASTTextDetermines'. -/
def aSTTextDeterminesUptoCard : Claim7 := { stood := { row := aSTTextDeterminesUptoRow, standIns := [], harness := (true, "4836f65319319625326c7d141c32c2b47267fba18bc7d50daada83a94e500178"), looks := false }, kinds := [], alts := [], laidByText := true, laidKinds := [.data, .data, .data, .data, .data, .data, .data, .data, .pinned], laidTests := true, laidLooks := .later }
def ASTTextDeterminesUptoCardSaid : Prop := Claim7.holds Tryz.pinned (.plain (OpenSpec.upto aSTTextDeterminesSpec)) aSTTextDeterminesUptoCard
end Rows
end Go.Proofs.YtcknpcbkofgdoaaGreatDoor
