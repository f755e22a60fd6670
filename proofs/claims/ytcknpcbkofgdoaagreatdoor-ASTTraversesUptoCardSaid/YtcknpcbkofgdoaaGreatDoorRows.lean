/-
  NARROWER THAN 'FOR EVERY INPUT', by the rows' own cells (each row's printed sentence says how): ASTFormats: loops, laid · ASTFormatsExpr: loops, laid · ASTWellFormed: loops, laid · ASTEquality: loops, laid · ASTTraverses: loops, laid · ASTMeasures: loops, laid · ASTStrips: loops, laid · ASTTextDetermines: loops, laid.
  DERIVED. THE GIVEN ROWS OF THIS SEAT. 8 by the template 'for every input the law returns true; each argument reads behind the call as it read before'; 0 by the template 'total and deterministic' (their statements: YtcknpcbkofgdoaaGreatDoorTotals.lean).
  GIVEN WITH THE SEED: the statements are not yours to turn. If you find one false, say at which input.
  Laid BY PROGRAM, IN A SANDBOX (cutbox-rows.mjs): the forced cells as the released guide's own fill.sh prints them over the translation db171da29e061fc8… (all of the seat's roots in one cut). By AI agents, Wed Nov 11 2026. No macro, syntax, notation, axiom, sorry.
-/
import Derived.Test.YtcknpcbkofgdoaaGreatDoorChecked
import GoSem.PinnedTables
import GoSem.Claim
import GoSem.ClaimJoined
import GoSem.ClaimMapViews
import Derived.JoinedTies
import Derived.KernelRfl
namespace Go.Proofs.YtcknpcbkofgdoaaGreatDoor
/- THE CELL 'sum', in the pinned program and in every row, IS THE sha256 OF THE DUMP (.gsa) THAT YtcknpcbkofgdoaaGreatDoorProg.lean LOADS. Nothing in Lean hashes anything: it is a label: what it is worth is what the hold of that sum in a sandbox is worth. -/
noncomputable def Tryz.pinned : Pinned := { name := "ytcknpcbkofgdoaagreatdoor", sum := "db171da29e061fc8e7bae929f982c89cdbc5c175316a5cf03eb51c6e1b869501", checked := Tryz.checked }
namespace Rows
def none {H : Type} : Left H := { results := [], args := [] }

/- WHAT THE LISTED PACKAGE-LEVEL VARIABLES READ AS WHEN THE CALL BEGINS. Each datum BY PROGRAM (the guide's laid-datum.mjs) off the statement by which the dump's own 'gosem.cut.vars' lays the variable. In a bare row this is a premise. The card (YtcknpcbkofgdoaaGreatDoorCards.lean) ties it to the program's text. -/
def laid_math_bits_deBruijn32tab {H : Type} : DataW H := .agg [.lit (.int .u8 0), .lit (.int .u8 1), .lit (.int .u8 28), .lit (.int .u8 2), .lit (.int .u8 29), .lit (.int .u8 14), .lit (.int .u8 24), .lit (.int .u8 3), .lit (.int .u8 30), .lit (.int .u8 22), .lit (.int .u8 20), .lit (.int .u8 15), .lit (.int .u8 25), .lit (.int .u8 17), .lit (.int .u8 4), .lit (.int .u8 8), .lit (.int .u8 31), .lit (.int .u8 27), .lit (.int .u8 13), .lit (.int .u8 23), .lit (.int .u8 21), .lit (.int .u8 19), .lit (.int .u8 16), .lit (.int .u8 7), .lit (.int .u8 26), .lit (.int .u8 12), .lit (.int .u8 18), .lit (.int .u8 6), .lit (.int .u8 11), .lit (.int .u8 5), .lit (.int .u8 10), .lit (.int .u8 9)]
def laid_math_bits_deBruijn64tab {H : Type} : DataW H := .agg [.lit (.int .u8 0), .lit (.int .u8 1), .lit (.int .u8 56), .lit (.int .u8 2), .lit (.int .u8 57), .lit (.int .u8 49), .lit (.int .u8 28), .lit (.int .u8 3), .lit (.int .u8 61), .lit (.int .u8 58), .lit (.int .u8 42), .lit (.int .u8 50), .lit (.int .u8 38), .lit (.int .u8 29), .lit (.int .u8 17), .lit (.int .u8 4), .lit (.int .u8 62), .lit (.int .u8 47), .lit (.int .u8 59), .lit (.int .u8 36), .lit (.int .u8 45), .lit (.int .u8 43), .lit (.int .u8 51), .lit (.int .u8 22), .lit (.int .u8 53), .lit (.int .u8 39), .lit (.int .u8 33), .lit (.int .u8 30), .lit (.int .u8 24), .lit (.int .u8 18), .lit (.int .u8 12), .lit (.int .u8 5), .lit (.int .u8 63), .lit (.int .u8 55), .lit (.int .u8 48), .lit (.int .u8 27), .lit (.int .u8 60), .lit (.int .u8 41), .lit (.int .u8 37), .lit (.int .u8 16), .lit (.int .u8 46), .lit (.int .u8 35), .lit (.int .u8 44), .lit (.int .u8 21), .lit (.int .u8 52), .lit (.int .u8 32), .lit (.int .u8 23), .lit (.int .u8 11), .lit (.int .u8 54), .lit (.int .u8 26), .lit (.int .u8 40), .lit (.int .u8 15), .lit (.int .u8 34), .lit (.int .u8 20), .lit (.int .u8 31), .lit (.int .u8 10), .lit (.int .u8 25), .lit (.int .u8 14), .lit (.int .u8 19), .lit (.int .u8 9), .lit (.int .u8 13), .lit (.int .u8 8), .lit (.int .u8 7), .lit (.int .u8 6)]
def laid_internal_strconv_uint64pow10 {H : Type} : DataW H := .agg [.lit (.int .u64 1), .lit (.int .u64 10), .lit (.int .u64 100), .lit (.int .u64 1000), .lit (.int .u64 10000), .lit (.int .u64 100000), .lit (.int .u64 1000000), .lit (.int .u64 10000000), .lit (.int .u64 100000000), .lit (.int .u64 1000000000), .lit (.int .u64 10000000000), .lit (.int .u64 100000000000), .lit (.int .u64 1000000000000), .lit (.int .u64 10000000000000), .lit (.int .u64 100000000000000), .lit (.int .u64 1000000000000000), .lit (.int .u64 10000000000000000), .lit (.int .u64 100000000000000000), .lit (.int .u64 1000000000000000000), .lit (.int .u64 10000000000000000000)]
def laid_unicode_utf8_acceptRanges {H : Type} : DataW H := .agg [.agg [.lit (.int .u8 128), .lit (.int .u8 191)], .agg [.lit (.int .u8 160), .lit (.int .u8 191)], .agg [.lit (.int .u8 128), .lit (.int .u8 159)], .agg [.lit (.int .u8 144), .lit (.int .u8 191)], .agg [.lit (.int .u8 128), .lit (.int .u8 143)], .agg [.lit (.int .u8 0), .lit (.int .u8 0)], .agg [.lit (.int .u8 0), .lit (.int .u8 0)], .agg [.lit (.int .u8 0), .lit (.int .u8 0)], .agg [.lit (.int .u8 0), .lit (.int .u8 0)], .agg [.lit (.int .u8 0), .lit (.int .u8 0)], .agg [.lit (.int .u8 0), .lit (.int .u8 0)], .agg [.lit (.int .u8 0), .lit (.int .u8 0)], .agg [.lit (.int .u8 0), .lit (.int .u8 0)], .agg [.lit (.int .u8 0), .lit (.int .u8 0)], .agg [.lit (.int .u8 0), .lit (.int .u8 0)], .agg [.lit (.int .u8 0), .lit (.int .u8 0)]]
def laid_trickle_ast_operators {H : Type} : DataW H := .agg [.agg [.lit (.string []), .lit (.int .i64 0)], .agg [.lit (.string [45]), .lit (.int .i64 6)], .agg [.lit (.string [33]), .lit (.int .i64 6)], .agg [.lit (.string [43]), .lit (.int .i64 4)], .agg [.lit (.string [45]), .lit (.int .i64 4)], .agg [.lit (.string [42]), .lit (.int .i64 5)], .agg [.lit (.string [47]), .lit (.int .i64 5)], .agg [.lit (.string [37]), .lit (.int .i64 5)], .agg [.lit (.string [61, 61]), .lit (.int .i64 3)], .agg [.lit (.string [33, 61]), .lit (.int .i64 3)], .agg [.lit (.string [60]), .lit (.int .i64 3)], .agg [.lit (.string [60, 61]), .lit (.int .i64 3)], .agg [.lit (.string [62]), .lit (.int .i64 3)], .agg [.lit (.string [62, 61]), .lit (.int .i64 3)], .agg [.lit (.string [38, 38]), .lit (.int .i64 2)], .agg [.lit (.string [124, 124]), .lit (.int .i64 1)]]
def laid_trickle_ast_keywords {H : Type} : DataW H := .agg [.lit (.string [99, 104, 97, 110, 110, 101, 108]), .lit (.string [99, 104, 101, 99, 107, 112, 111, 105, 110, 116]), .lit (.string [99, 111, 110, 115, 116]), .lit (.string [100, 101, 97, 100, 108, 105, 110, 101]), .lit (.string [101, 108, 115, 101]), .lit (.string [101, 109, 105, 116]), .lit (.string [101, 118, 101, 114, 121]), .lit (.string [102, 114, 101, 115, 104]), .lit (.string [105, 102]), .lit (.string [108, 101, 116]), .lit (.string [111, 110]), .lit (.string [111, 117, 116, 112, 117, 116]), .lit (.string [114, 101, 97, 100]), .lit (.string [114, 101, 112, 101, 97, 116]), .lit (.string [114, 101, 116, 117, 114, 110]), .lit (.string [115, 101, 110, 100]), .lit (.string [115, 101, 110, 115, 111, 114]), .lit (.string [116, 97, 115, 107]), .lit (.string [116, 111, 103, 101, 116, 104, 101, 114]), .lit (.string [118, 97, 114]), .lit (.string [119, 104, 105, 108, 101]), .lit (.string [119, 105, 116, 104, 105, 110])]
def laid_trickle_ast_exprShapes {H : Type} : DataW H := .agg [.agg [.lit (.bool false), .lit (.int .i16 0), .lit (.int .i64 0), .lit (.int .i64 0), .lit (.int .i64 0)], .agg [.lit (.bool false), .lit (.int .i16 32767), .lit (.int .i64 0), .lit (.int .i64 0), .lit (.int .i64 0)], .agg [.lit (.bool true), .lit (.int .i16 0), .lit (.int .i64 0), .lit (.int .i64 0), .lit (.int .i64 0)], .agg [.lit (.bool true), .lit (.int .i16 0), .lit (.int .i64 0), .lit (.int .i64 0), .lit (.int .i64 1)], .agg [.lit (.bool true), .lit (.int .i16 0), .lit (.int .i64 0), .lit (.int .i64 0), .lit (.int .i64 0)], .agg [.lit (.bool false), .lit (.int .i16 0), .lit (.int .i64 1), .lit (.int .i64 2), .lit (.int .i64 1)], .agg [.lit (.bool false), .lit (.int .i16 0), .lit (.int .i64 3), .lit (.int .i64 15), .lit (.int .i64 2)]]
def laid_trickle_ast_stmtShapes {H : Type} : DataW H := .agg [.agg [.lit (.bool false), .lit (.int .i64 0), .lit (.int .i64 0), .lit (.bool false), .lit (.bool false)], .agg [.lit (.bool true), .lit (.int .i64 0), .lit (.int .i64 1), .lit (.bool false), .lit (.bool false)], .agg [.lit (.bool true), .lit (.int .i64 0), .lit (.int .i64 1), .lit (.bool false), .lit (.bool false)], .agg [.lit (.bool true), .lit (.int .i64 0), .lit (.int .i64 2), .lit (.bool false), .lit (.bool false)], .agg [.lit (.bool false), .lit (.int .i64 0), .lit (.int .i64 1), .lit (.bool true), .lit (.bool true)], .agg [.lit (.bool false), .lit (.int .i64 32767), .lit (.int .i64 0), .lit (.bool true), .lit (.bool false)], .agg [.lit (.bool false), .lit (.int .i64 0), .lit (.int .i64 1), .lit (.bool true), .lit (.bool false)], .agg [.lit (.bool true), .lit (.int .i64 0), .lit (.int .i64 1), .lit (.bool false), .lit (.bool false)], .agg [.lit (.bool false), .lit (.int .i64 0), .lit (.int .i64 1), .lit (.bool false), .lit (.bool false)], .agg [.lit (.bool true), .lit (.int .i64 0), .lit (.int .i64 1), .lit (.bool false), .lit (.bool false)], .agg [.lit (.bool false), .lit (.int .i64 32767), .lit (.int .i64 0), .lit (.bool true), .lit (.bool false)], .agg [.lit (.bool false), .lit (.int .i64 32767), .lit (.int .i64 0), .lit (.bool true), .lit (.bool false)], .agg [.lit (.bool false), .lit (.int .i64 0), .lit (.int .i64 0), .lit (.bool false), .lit (.bool false)], .agg [.lit (.bool false), .lit (.int .i64 0), .lit (.int .i64 0), .lit (.bool false), .lit (.bool false)]]
/-- One of Go's own tables, pinned by name: the form's constant. -/
def laid_unicode_utf8_first : DataW Unit := Go.Pinned.utf8First

/-- 'tricklelaw16.ASTFormats': WHATEVER THE INPUT: true; the input reads as it did. -/
def aSTFormatsSpec : ChangeSpec := { name := "aSTFormats", fn := fun _ => fun
  | [d] => { results := [.lit (.bool true)], args := [d] }
  | _ => none }
def aSTFormatsRow : OpenClaim := { program := "ytcknpcbkofgdoaagreatdoor", sum := "db171da29e061fc8e7bae929f982c89cdbc5c175316a5cf03eb51c6e1b869501", func := "trickle/tricklelaw16.ASTFormats", spec := "aSTFormats", inPlace := ["internal/bytealg.IndexByteString", "internal/bytealg.IndexString", "internal/abi.NoEscape", "internal/bytealg.MakeNoZero"], unfollowed := true, recurses := true, named := ["trickle/ast.exprShapes", "unicode/utf8.first", "unicode/utf8.acceptRanges", "trickle/ast.keywords", "trickle/ast.operators", "internal/strconv.uint64pow10", "math/bits.deBruijn32tab", "math/bits.deBruijn64tab", "trickle/ast.stmtShapes", "internal/bytealg.MaxLen"], loops := true, apart := false, laid := [("math/bits.deBruijn32tab", laid_math_bits_deBruijn32tab), ("math/bits.deBruijn64tab", laid_math_bits_deBruijn64tab), ("internal/strconv.uint64pow10", laid_internal_strconv_uint64pow10), ("unicode/utf8.acceptRanges", laid_unicode_utf8_acceptRanges), ("trickle/ast.operators", laid_trickle_ast_operators), ("trickle/ast.keywords", laid_trickle_ast_keywords), ("trickle/ast.exprShapes", laid_trickle_ast_exprShapes), ("trickle/ast.stmtShapes", laid_trickle_ast_stmtShapes), ("unicode/utf8.first", laid_unicode_utf8_first)] }
def ASTFormatsSaid : Prop := aSTFormatsRow.holds Tryz.pinned (OpenSpec.ofChange aSTFormatsSpec)

/-- ITS FALSE NEIGHBOUR: 'it returns false'. Refute it at one input. -/
def aSTFormatsWrong : ChangeSpec := { name := "aSTFormats", fn := fun _ => fun
  | [d] => { results := [.lit (.bool false)], args := [d] }
  | _ => none }
def ASTFormatsWrongFalsely : Prop := aSTFormatsRow.holds Tryz.pinned (OpenSpec.ofChange aSTFormatsWrong)

/-- 'tricklelaw16.ASTFormatsExpr': WHATEVER THE INPUT: true; the input reads as it did. -/
def aSTFormatsExprSpec : ChangeSpec := { name := "aSTFormatsExpr", fn := fun _ => fun
  | [d] => { results := [.lit (.bool true)], args := [d] }
  | _ => none }
def aSTFormatsExprRow : OpenClaim := { program := "ytcknpcbkofgdoaagreatdoor", sum := "db171da29e061fc8e7bae929f982c89cdbc5c175316a5cf03eb51c6e1b869501", func := "trickle/tricklelaw16.ASTFormatsExpr", spec := "aSTFormatsExpr", inPlace := ["internal/bytealg.IndexByteString", "internal/bytealg.IndexString", "internal/abi.NoEscape", "internal/bytealg.MakeNoZero"], unfollowed := true, recurses := true, named := ["trickle/ast.exprShapes", "unicode/utf8.first", "unicode/utf8.acceptRanges", "trickle/ast.keywords", "trickle/ast.operators", "internal/strconv.uint64pow10", "math/bits.deBruijn32tab", "math/bits.deBruijn64tab", "trickle/ast.stmtShapes", "internal/bytealg.MaxLen"], loops := true, apart := false, laid := [("math/bits.deBruijn32tab", laid_math_bits_deBruijn32tab), ("math/bits.deBruijn64tab", laid_math_bits_deBruijn64tab), ("internal/strconv.uint64pow10", laid_internal_strconv_uint64pow10), ("unicode/utf8.acceptRanges", laid_unicode_utf8_acceptRanges), ("trickle/ast.operators", laid_trickle_ast_operators), ("trickle/ast.keywords", laid_trickle_ast_keywords), ("trickle/ast.exprShapes", laid_trickle_ast_exprShapes), ("trickle/ast.stmtShapes", laid_trickle_ast_stmtShapes), ("unicode/utf8.first", laid_unicode_utf8_first)] }
def ASTFormatsExprSaid : Prop := aSTFormatsExprRow.holds Tryz.pinned (OpenSpec.ofChange aSTFormatsExprSpec)

/-- ITS FALSE NEIGHBOUR: 'it returns false'. Refute it at one input. -/
def aSTFormatsExprWrong : ChangeSpec := { name := "aSTFormatsExpr", fn := fun _ => fun
  | [d] => { results := [.lit (.bool false)], args := [d] }
  | _ => none }
def ASTFormatsExprWrongFalsely : Prop := aSTFormatsExprRow.holds Tryz.pinned (OpenSpec.ofChange aSTFormatsExprWrong)

/-- 'tricklelaw16.ASTWellFormed': WHATEVER THE INPUT: true; the input reads as it did. -/
def aSTWellFormedSpec : ChangeSpec := { name := "aSTWellFormed", fn := fun _ => fun
  | [d] => { results := [.lit (.bool true)], args := [d] }
  | _ => none }
def aSTWellFormedRow : OpenClaim := { program := "ytcknpcbkofgdoaagreatdoor", sum := "db171da29e061fc8e7bae929f982c89cdbc5c175316a5cf03eb51c6e1b869501", func := "trickle/tricklelaw16.ASTWellFormed", spec := "aSTWellFormed", inPlace := ["internal/bytealg.IndexByteString", "internal/bytealg.IndexString", "internal/abi.NoEscape", "internal/bytealg.MakeNoZero"], unfollowed := true, recurses := true, named := ["trickle/ast.exprShapes", "unicode/utf8.first", "unicode/utf8.acceptRanges", "trickle/ast.keywords", "trickle/ast.operators", "internal/strconv.uint64pow10", "math/bits.deBruijn32tab", "math/bits.deBruijn64tab", "trickle/ast.stmtShapes", "internal/bytealg.MaxLen"], loops := true, apart := false, laid := [("math/bits.deBruijn32tab", laid_math_bits_deBruijn32tab), ("math/bits.deBruijn64tab", laid_math_bits_deBruijn64tab), ("internal/strconv.uint64pow10", laid_internal_strconv_uint64pow10), ("unicode/utf8.acceptRanges", laid_unicode_utf8_acceptRanges), ("trickle/ast.operators", laid_trickle_ast_operators), ("trickle/ast.keywords", laid_trickle_ast_keywords), ("trickle/ast.exprShapes", laid_trickle_ast_exprShapes), ("trickle/ast.stmtShapes", laid_trickle_ast_stmtShapes), ("unicode/utf8.first", laid_unicode_utf8_first)] }
def ASTWellFormedSaid : Prop := aSTWellFormedRow.holds Tryz.pinned (OpenSpec.ofChange aSTWellFormedSpec)

/-- ITS FALSE NEIGHBOUR: 'it returns false'. Refute it at one input. -/
def aSTWellFormedWrong : ChangeSpec := { name := "aSTWellFormed", fn := fun _ => fun
  | [d] => { results := [.lit (.bool false)], args := [d] }
  | _ => none }
def ASTWellFormedWrongFalsely : Prop := aSTWellFormedRow.holds Tryz.pinned (OpenSpec.ofChange aSTWellFormedWrong)

/-- 'tricklelaw16.ASTEquality': WHATEVER THE INPUT: true; the input reads as it did. -/
def aSTEqualitySpec : ChangeSpec := { name := "aSTEquality", fn := fun _ => fun
  | [d1, d2] => { results := [.lit (.bool true)], args := [d1, d2] }
  | _ => none }
def aSTEqualityRow : OpenClaim := { program := "ytcknpcbkofgdoaagreatdoor", sum := "db171da29e061fc8e7bae929f982c89cdbc5c175316a5cf03eb51c6e1b869501", func := "trickle/tricklelaw16.ASTEquality", spec := "aSTEquality", inPlace := ["internal/bytealg.IndexByteString", "internal/bytealg.IndexString", "internal/abi.NoEscape", "internal/bytealg.MakeNoZero"], unfollowed := true, recurses := true, named := ["trickle/ast.exprShapes", "unicode/utf8.first", "unicode/utf8.acceptRanges", "trickle/ast.keywords", "trickle/ast.operators", "internal/strconv.uint64pow10", "math/bits.deBruijn32tab", "math/bits.deBruijn64tab", "trickle/ast.stmtShapes", "internal/bytealg.MaxLen"], loops := true, apart := false, laid := [("math/bits.deBruijn32tab", laid_math_bits_deBruijn32tab), ("math/bits.deBruijn64tab", laid_math_bits_deBruijn64tab), ("internal/strconv.uint64pow10", laid_internal_strconv_uint64pow10), ("unicode/utf8.acceptRanges", laid_unicode_utf8_acceptRanges), ("trickle/ast.operators", laid_trickle_ast_operators), ("trickle/ast.keywords", laid_trickle_ast_keywords), ("trickle/ast.exprShapes", laid_trickle_ast_exprShapes), ("trickle/ast.stmtShapes", laid_trickle_ast_stmtShapes), ("unicode/utf8.first", laid_unicode_utf8_first)] }
def ASTEqualitySaid : Prop := aSTEqualityRow.holds Tryz.pinned (OpenSpec.ofChange aSTEqualitySpec)

/-- ITS FALSE NEIGHBOUR: 'it returns false'. Refute it at one input. -/
def aSTEqualityWrong : ChangeSpec := { name := "aSTEquality", fn := fun _ => fun
  | [d1, d2] => { results := [.lit (.bool false)], args := [d1, d2] }
  | _ => none }
def ASTEqualityWrongFalsely : Prop := aSTEqualityRow.holds Tryz.pinned (OpenSpec.ofChange aSTEqualityWrong)

/-- 'tricklelaw16.ASTTraverses': WHATEVER THE INPUT: true; the input reads as it did. -/
def aSTTraversesSpec : ChangeSpec := { name := "aSTTraverses", fn := fun _ => fun
  | [d1, d2] => { results := [.lit (.bool true)], args := [d1, d2] }
  | _ => none }
def aSTTraversesRow : OpenClaim := { program := "ytcknpcbkofgdoaagreatdoor", sum := "db171da29e061fc8e7bae929f982c89cdbc5c175316a5cf03eb51c6e1b869501", func := "trickle/tricklelaw16.ASTTraverses", spec := "aSTTraverses", inPlace := ["internal/bytealg.IndexByteString", "internal/bytealg.IndexString", "internal/abi.NoEscape", "internal/bytealg.MakeNoZero"], unfollowed := true, recurses := true, named := ["trickle/ast.exprShapes", "unicode/utf8.first", "unicode/utf8.acceptRanges", "trickle/ast.keywords", "trickle/ast.operators", "internal/strconv.uint64pow10", "math/bits.deBruijn32tab", "math/bits.deBruijn64tab", "trickle/ast.stmtShapes", "internal/bytealg.MaxLen"], loops := true, apart := false, laid := [("math/bits.deBruijn32tab", laid_math_bits_deBruijn32tab), ("math/bits.deBruijn64tab", laid_math_bits_deBruijn64tab), ("internal/strconv.uint64pow10", laid_internal_strconv_uint64pow10), ("unicode/utf8.acceptRanges", laid_unicode_utf8_acceptRanges), ("trickle/ast.operators", laid_trickle_ast_operators), ("trickle/ast.keywords", laid_trickle_ast_keywords), ("trickle/ast.exprShapes", laid_trickle_ast_exprShapes), ("trickle/ast.stmtShapes", laid_trickle_ast_stmtShapes), ("unicode/utf8.first", laid_unicode_utf8_first)] }
def ASTTraversesSaid : Prop := aSTTraversesRow.holds Tryz.pinned (OpenSpec.ofChange aSTTraversesSpec)

/-- ITS FALSE NEIGHBOUR: 'it returns false'. Refute it at one input. -/
def aSTTraversesWrong : ChangeSpec := { name := "aSTTraverses", fn := fun _ => fun
  | [d1, d2] => { results := [.lit (.bool false)], args := [d1, d2] }
  | _ => none }
def ASTTraversesWrongFalsely : Prop := aSTTraversesRow.holds Tryz.pinned (OpenSpec.ofChange aSTTraversesWrong)

/-- 'tricklelaw16.ASTMeasures': WHATEVER THE INPUT: true; the input reads as it did. -/
def aSTMeasuresSpec : ChangeSpec := { name := "aSTMeasures", fn := fun _ => fun
  | [d] => { results := [.lit (.bool true)], args := [d] }
  | _ => none }
def aSTMeasuresRow : OpenClaim := { program := "ytcknpcbkofgdoaagreatdoor", sum := "db171da29e061fc8e7bae929f982c89cdbc5c175316a5cf03eb51c6e1b869501", func := "trickle/tricklelaw16.ASTMeasures", spec := "aSTMeasures", inPlace := ["internal/bytealg.IndexByteString", "internal/bytealg.IndexString", "internal/abi.NoEscape", "internal/bytealg.MakeNoZero"], unfollowed := true, recurses := true, named := ["trickle/ast.exprShapes", "unicode/utf8.first", "unicode/utf8.acceptRanges", "trickle/ast.keywords", "trickle/ast.operators", "internal/strconv.uint64pow10", "math/bits.deBruijn32tab", "math/bits.deBruijn64tab", "trickle/ast.stmtShapes", "internal/bytealg.MaxLen"], loops := true, apart := false, laid := [("math/bits.deBruijn32tab", laid_math_bits_deBruijn32tab), ("math/bits.deBruijn64tab", laid_math_bits_deBruijn64tab), ("internal/strconv.uint64pow10", laid_internal_strconv_uint64pow10), ("unicode/utf8.acceptRanges", laid_unicode_utf8_acceptRanges), ("trickle/ast.operators", laid_trickle_ast_operators), ("trickle/ast.keywords", laid_trickle_ast_keywords), ("trickle/ast.exprShapes", laid_trickle_ast_exprShapes), ("trickle/ast.stmtShapes", laid_trickle_ast_stmtShapes), ("unicode/utf8.first", laid_unicode_utf8_first)] }
def ASTMeasuresSaid : Prop := aSTMeasuresRow.holds Tryz.pinned (OpenSpec.ofChange aSTMeasuresSpec)

/-- ITS FALSE NEIGHBOUR: 'it returns false'. Refute it at one input. -/
def aSTMeasuresWrong : ChangeSpec := { name := "aSTMeasures", fn := fun _ => fun
  | [d] => { results := [.lit (.bool false)], args := [d] }
  | _ => none }
def ASTMeasuresWrongFalsely : Prop := aSTMeasuresRow.holds Tryz.pinned (OpenSpec.ofChange aSTMeasuresWrong)

/-- 'tricklelaw16.ASTStrips': WHATEVER THE INPUT: true; the input reads as it did. -/
def aSTStripsSpec : ChangeSpec := { name := "aSTStrips", fn := fun _ => fun
  | [d] => { results := [.lit (.bool true)], args := [d] }
  | _ => none }
def aSTStripsRow : OpenClaim := { program := "ytcknpcbkofgdoaagreatdoor", sum := "db171da29e061fc8e7bae929f982c89cdbc5c175316a5cf03eb51c6e1b869501", func := "trickle/tricklelaw16.ASTStrips", spec := "aSTStrips", inPlace := ["internal/bytealg.IndexByteString", "internal/bytealg.IndexString", "internal/abi.NoEscape", "internal/bytealg.MakeNoZero"], unfollowed := true, recurses := true, named := ["trickle/ast.exprShapes", "unicode/utf8.first", "unicode/utf8.acceptRanges", "trickle/ast.keywords", "trickle/ast.operators", "internal/strconv.uint64pow10", "math/bits.deBruijn32tab", "math/bits.deBruijn64tab", "trickle/ast.stmtShapes", "internal/bytealg.MaxLen"], loops := true, apart := false, laid := [("math/bits.deBruijn32tab", laid_math_bits_deBruijn32tab), ("math/bits.deBruijn64tab", laid_math_bits_deBruijn64tab), ("internal/strconv.uint64pow10", laid_internal_strconv_uint64pow10), ("unicode/utf8.acceptRanges", laid_unicode_utf8_acceptRanges), ("trickle/ast.operators", laid_trickle_ast_operators), ("trickle/ast.keywords", laid_trickle_ast_keywords), ("trickle/ast.exprShapes", laid_trickle_ast_exprShapes), ("trickle/ast.stmtShapes", laid_trickle_ast_stmtShapes), ("unicode/utf8.first", laid_unicode_utf8_first)] }
def ASTStripsSaid : Prop := aSTStripsRow.holds Tryz.pinned (OpenSpec.ofChange aSTStripsSpec)

/-- ITS FALSE NEIGHBOUR: 'it returns false'. Refute it at one input. -/
def aSTStripsWrong : ChangeSpec := { name := "aSTStrips", fn := fun _ => fun
  | [d] => { results := [.lit (.bool false)], args := [d] }
  | _ => none }
def ASTStripsWrongFalsely : Prop := aSTStripsRow.holds Tryz.pinned (OpenSpec.ofChange aSTStripsWrong)

/-- 'tricklelaw16.ASTTextDetermines': WHATEVER THE INPUT: true; the input reads as it did. -/
def aSTTextDeterminesSpec : ChangeSpec := { name := "aSTTextDetermines", fn := fun _ => fun
  | [d1, d2] => { results := [.lit (.bool true)], args := [d1, d2] }
  | _ => none }
def aSTTextDeterminesRow : OpenClaim := { program := "ytcknpcbkofgdoaagreatdoor", sum := "db171da29e061fc8e7bae929f982c89cdbc5c175316a5cf03eb51c6e1b869501", func := "trickle/tricklelaw16.ASTTextDetermines", spec := "aSTTextDetermines", inPlace := ["internal/bytealg.IndexByteString", "internal/bytealg.IndexString", "internal/abi.NoEscape", "internal/bytealg.MakeNoZero"], unfollowed := true, recurses := true, named := ["trickle/ast.exprShapes", "unicode/utf8.first", "unicode/utf8.acceptRanges", "trickle/ast.keywords", "trickle/ast.operators", "internal/strconv.uint64pow10", "math/bits.deBruijn32tab", "math/bits.deBruijn64tab", "trickle/ast.stmtShapes", "internal/bytealg.MaxLen"], loops := true, apart := false, laid := [("math/bits.deBruijn32tab", laid_math_bits_deBruijn32tab), ("math/bits.deBruijn64tab", laid_math_bits_deBruijn64tab), ("internal/strconv.uint64pow10", laid_internal_strconv_uint64pow10), ("unicode/utf8.acceptRanges", laid_unicode_utf8_acceptRanges), ("trickle/ast.operators", laid_trickle_ast_operators), ("trickle/ast.keywords", laid_trickle_ast_keywords), ("trickle/ast.exprShapes", laid_trickle_ast_exprShapes), ("trickle/ast.stmtShapes", laid_trickle_ast_stmtShapes), ("unicode/utf8.first", laid_unicode_utf8_first)] }
def ASTTextDeterminesSaid : Prop := aSTTextDeterminesRow.holds Tryz.pinned (OpenSpec.ofChange aSTTextDeterminesSpec)

/-- ITS FALSE NEIGHBOUR: 'it returns false'. Refute it at one input. -/
def aSTTextDeterminesWrong : ChangeSpec := { name := "aSTTextDetermines", fn := fun _ => fun
  | [d1, d2] => { results := [.lit (.bool false)], args := [d1, d2] }
  | _ => none }
def ASTTextDeterminesWrongFalsely : Prop := aSTTextDeterminesRow.holds Tryz.pinned (OpenSpec.ofChange aSTTextDeterminesWrong)

/- THE SECOND FORM. 'bulk': how many values and letters a reading holds, each counted each time it is reached (what is shared counts as often as it is met; a slice's spare places count too). A statement '..UptoSaid' is the law's where the arguments, and the package variables that the reading takes, are together of bulk at most 1048576: NARROWER than '..Said'. Prove '..Said' where nothing that the law and all that it calls make is longer than what came in: it says more and counts as full. Else prove '..UptoSaid'. A law counts once. -/
mutual
def uptoBulk {H : Type} : DataW H → Nat
  | .lit (.string bytes) => bytes.length + 1
  | .lit _ => 1
  | .nil => 1
  | .ptr d => uptoBulk d + 1
  | .slice elems spare => uptoBulkAll elems + uptoBulkAll spare + 1
  | .agg parts => uptoBulkAll parts + 1
  | .iface _ d => uptoBulk d + 1
  | .map entries => uptoBulkEntries entries + 1
  | .held _ => 1
def uptoBulkAll {H : Type} : List (DataW H) → Nat
  | [] => 0
  | d :: r => uptoBulk d + uptoBulkAll r
def uptoBulkEntries {H : Type} : List (Lit × DataW H) → Nat
  | [] => 0
  | x :: r => uptoBulkEntry x + uptoBulkEntries r
def uptoBulkEntry {H : Type} : Lit × DataW H → Nat
  | (.string bytes, d) => bytes.length + uptoBulk d + 1
  | (_, d) => uptoBulk d + 1
 end
def uptoSmall : (H : Type) → List (DataW H) → Bool := fun _ ds => decide (uptoBulkAll ds ≤ 1048576)
def OpenSpec.upto (s : _root_.Go.ChangeSpec) : _root_.Go.OpenSpec := { _root_.Go.OpenSpec.ofChange s with cond := some uptoSmall }

/-- 'tricklelaw16.ASTFormats', WHERE WHAT IT READS IS OF BULK AT MOST 1048576: true; the input reads as it did. -/
def aSTFormatsUptoRow : OpenClaim := { program := "ytcknpcbkofgdoaagreatdoor", sum := "db171da29e061fc8e7bae929f982c89cdbc5c175316a5cf03eb51c6e1b869501", func := "trickle/tricklelaw16.ASTFormats", spec := "aSTFormats", inPlace := ["internal/bytealg.IndexByteString", "internal/bytealg.IndexString", "internal/abi.NoEscape", "internal/bytealg.MakeNoZero"], unfollowed := true, recurses := true, named := ["trickle/ast.exprShapes", "unicode/utf8.first", "unicode/utf8.acceptRanges", "trickle/ast.keywords", "trickle/ast.operators", "internal/strconv.uint64pow10", "math/bits.deBruijn32tab", "math/bits.deBruijn64tab", "trickle/ast.stmtShapes", "internal/bytealg.MaxLen"], loops := true, apart := false, laid := [("math/bits.deBruijn32tab", laid_math_bits_deBruijn32tab), ("math/bits.deBruijn64tab", laid_math_bits_deBruijn64tab), ("internal/strconv.uint64pow10", laid_internal_strconv_uint64pow10), ("unicode/utf8.acceptRanges", laid_unicode_utf8_acceptRanges), ("trickle/ast.operators", laid_trickle_ast_operators), ("trickle/ast.keywords", laid_trickle_ast_keywords), ("trickle/ast.exprShapes", laid_trickle_ast_exprShapes), ("trickle/ast.stmtShapes", laid_trickle_ast_stmtShapes), ("unicode/utf8.first", laid_unicode_utf8_first)], narrowed := true }
def ASTFormatsUptoSaid : Prop := aSTFormatsUptoRow.holds Tryz.pinned (OpenSpec.upto aSTFormatsSpec)

/-- 'tricklelaw16.ASTFormatsExpr', WHERE WHAT IT READS IS OF BULK AT MOST 1048576: true; the input reads as it did. -/
def aSTFormatsExprUptoRow : OpenClaim := { program := "ytcknpcbkofgdoaagreatdoor", sum := "db171da29e061fc8e7bae929f982c89cdbc5c175316a5cf03eb51c6e1b869501", func := "trickle/tricklelaw16.ASTFormatsExpr", spec := "aSTFormatsExpr", inPlace := ["internal/bytealg.IndexByteString", "internal/bytealg.IndexString", "internal/abi.NoEscape", "internal/bytealg.MakeNoZero"], unfollowed := true, recurses := true, named := ["trickle/ast.exprShapes", "unicode/utf8.first", "unicode/utf8.acceptRanges", "trickle/ast.keywords", "trickle/ast.operators", "internal/strconv.uint64pow10", "math/bits.deBruijn32tab", "math/bits.deBruijn64tab", "trickle/ast.stmtShapes", "internal/bytealg.MaxLen"], loops := true, apart := false, laid := [("math/bits.deBruijn32tab", laid_math_bits_deBruijn32tab), ("math/bits.deBruijn64tab", laid_math_bits_deBruijn64tab), ("internal/strconv.uint64pow10", laid_internal_strconv_uint64pow10), ("unicode/utf8.acceptRanges", laid_unicode_utf8_acceptRanges), ("trickle/ast.operators", laid_trickle_ast_operators), ("trickle/ast.keywords", laid_trickle_ast_keywords), ("trickle/ast.exprShapes", laid_trickle_ast_exprShapes), ("trickle/ast.stmtShapes", laid_trickle_ast_stmtShapes), ("unicode/utf8.first", laid_unicode_utf8_first)], narrowed := true }
def ASTFormatsExprUptoSaid : Prop := aSTFormatsExprUptoRow.holds Tryz.pinned (OpenSpec.upto aSTFormatsExprSpec)

/-- 'tricklelaw16.ASTWellFormed', WHERE WHAT IT READS IS OF BULK AT MOST 1048576: true; the input reads as it did. -/
def aSTWellFormedUptoRow : OpenClaim := { program := "ytcknpcbkofgdoaagreatdoor", sum := "db171da29e061fc8e7bae929f982c89cdbc5c175316a5cf03eb51c6e1b869501", func := "trickle/tricklelaw16.ASTWellFormed", spec := "aSTWellFormed", inPlace := ["internal/bytealg.IndexByteString", "internal/bytealg.IndexString", "internal/abi.NoEscape", "internal/bytealg.MakeNoZero"], unfollowed := true, recurses := true, named := ["trickle/ast.exprShapes", "unicode/utf8.first", "unicode/utf8.acceptRanges", "trickle/ast.keywords", "trickle/ast.operators", "internal/strconv.uint64pow10", "math/bits.deBruijn32tab", "math/bits.deBruijn64tab", "trickle/ast.stmtShapes", "internal/bytealg.MaxLen"], loops := true, apart := false, laid := [("math/bits.deBruijn32tab", laid_math_bits_deBruijn32tab), ("math/bits.deBruijn64tab", laid_math_bits_deBruijn64tab), ("internal/strconv.uint64pow10", laid_internal_strconv_uint64pow10), ("unicode/utf8.acceptRanges", laid_unicode_utf8_acceptRanges), ("trickle/ast.operators", laid_trickle_ast_operators), ("trickle/ast.keywords", laid_trickle_ast_keywords), ("trickle/ast.exprShapes", laid_trickle_ast_exprShapes), ("trickle/ast.stmtShapes", laid_trickle_ast_stmtShapes), ("unicode/utf8.first", laid_unicode_utf8_first)], narrowed := true }
def ASTWellFormedUptoSaid : Prop := aSTWellFormedUptoRow.holds Tryz.pinned (OpenSpec.upto aSTWellFormedSpec)

/-- 'tricklelaw16.ASTEquality', WHERE WHAT IT READS IS OF BULK AT MOST 1048576: true; the input reads as it did. -/
def aSTEqualityUptoRow : OpenClaim := { program := "ytcknpcbkofgdoaagreatdoor", sum := "db171da29e061fc8e7bae929f982c89cdbc5c175316a5cf03eb51c6e1b869501", func := "trickle/tricklelaw16.ASTEquality", spec := "aSTEquality", inPlace := ["internal/bytealg.IndexByteString", "internal/bytealg.IndexString", "internal/abi.NoEscape", "internal/bytealg.MakeNoZero"], unfollowed := true, recurses := true, named := ["trickle/ast.exprShapes", "unicode/utf8.first", "unicode/utf8.acceptRanges", "trickle/ast.keywords", "trickle/ast.operators", "internal/strconv.uint64pow10", "math/bits.deBruijn32tab", "math/bits.deBruijn64tab", "trickle/ast.stmtShapes", "internal/bytealg.MaxLen"], loops := true, apart := false, laid := [("math/bits.deBruijn32tab", laid_math_bits_deBruijn32tab), ("math/bits.deBruijn64tab", laid_math_bits_deBruijn64tab), ("internal/strconv.uint64pow10", laid_internal_strconv_uint64pow10), ("unicode/utf8.acceptRanges", laid_unicode_utf8_acceptRanges), ("trickle/ast.operators", laid_trickle_ast_operators), ("trickle/ast.keywords", laid_trickle_ast_keywords), ("trickle/ast.exprShapes", laid_trickle_ast_exprShapes), ("trickle/ast.stmtShapes", laid_trickle_ast_stmtShapes), ("unicode/utf8.first", laid_unicode_utf8_first)], narrowed := true }
def ASTEqualityUptoSaid : Prop := aSTEqualityUptoRow.holds Tryz.pinned (OpenSpec.upto aSTEqualitySpec)

/-- 'tricklelaw16.ASTTraverses', WHERE WHAT IT READS IS OF BULK AT MOST 1048576: true; the input reads as it did. -/
def aSTTraversesUptoRow : OpenClaim := { program := "ytcknpcbkofgdoaagreatdoor", sum := "db171da29e061fc8e7bae929f982c89cdbc5c175316a5cf03eb51c6e1b869501", func := "trickle/tricklelaw16.ASTTraverses", spec := "aSTTraverses", inPlace := ["internal/bytealg.IndexByteString", "internal/bytealg.IndexString", "internal/abi.NoEscape", "internal/bytealg.MakeNoZero"], unfollowed := true, recurses := true, named := ["trickle/ast.exprShapes", "unicode/utf8.first", "unicode/utf8.acceptRanges", "trickle/ast.keywords", "trickle/ast.operators", "internal/strconv.uint64pow10", "math/bits.deBruijn32tab", "math/bits.deBruijn64tab", "trickle/ast.stmtShapes", "internal/bytealg.MaxLen"], loops := true, apart := false, laid := [("math/bits.deBruijn32tab", laid_math_bits_deBruijn32tab), ("math/bits.deBruijn64tab", laid_math_bits_deBruijn64tab), ("internal/strconv.uint64pow10", laid_internal_strconv_uint64pow10), ("unicode/utf8.acceptRanges", laid_unicode_utf8_acceptRanges), ("trickle/ast.operators", laid_trickle_ast_operators), ("trickle/ast.keywords", laid_trickle_ast_keywords), ("trickle/ast.exprShapes", laid_trickle_ast_exprShapes), ("trickle/ast.stmtShapes", laid_trickle_ast_stmtShapes), ("unicode/utf8.first", laid_unicode_utf8_first)], narrowed := true }
def ASTTraversesUptoSaid : Prop := aSTTraversesUptoRow.holds Tryz.pinned (OpenSpec.upto aSTTraversesSpec)

/-- 'tricklelaw16.ASTMeasures', WHERE WHAT IT READS IS OF BULK AT MOST 1048576: true; the input reads as it did. -/
def aSTMeasuresUptoRow : OpenClaim := { program := "ytcknpcbkofgdoaagreatdoor", sum := "db171da29e061fc8e7bae929f982c89cdbc5c175316a5cf03eb51c6e1b869501", func := "trickle/tricklelaw16.ASTMeasures", spec := "aSTMeasures", inPlace := ["internal/bytealg.IndexByteString", "internal/bytealg.IndexString", "internal/abi.NoEscape", "internal/bytealg.MakeNoZero"], unfollowed := true, recurses := true, named := ["trickle/ast.exprShapes", "unicode/utf8.first", "unicode/utf8.acceptRanges", "trickle/ast.keywords", "trickle/ast.operators", "internal/strconv.uint64pow10", "math/bits.deBruijn32tab", "math/bits.deBruijn64tab", "trickle/ast.stmtShapes", "internal/bytealg.MaxLen"], loops := true, apart := false, laid := [("math/bits.deBruijn32tab", laid_math_bits_deBruijn32tab), ("math/bits.deBruijn64tab", laid_math_bits_deBruijn64tab), ("internal/strconv.uint64pow10", laid_internal_strconv_uint64pow10), ("unicode/utf8.acceptRanges", laid_unicode_utf8_acceptRanges), ("trickle/ast.operators", laid_trickle_ast_operators), ("trickle/ast.keywords", laid_trickle_ast_keywords), ("trickle/ast.exprShapes", laid_trickle_ast_exprShapes), ("trickle/ast.stmtShapes", laid_trickle_ast_stmtShapes), ("unicode/utf8.first", laid_unicode_utf8_first)], narrowed := true }
def ASTMeasuresUptoSaid : Prop := aSTMeasuresUptoRow.holds Tryz.pinned (OpenSpec.upto aSTMeasuresSpec)

/-- 'tricklelaw16.ASTStrips', WHERE WHAT IT READS IS OF BULK AT MOST 1048576: true; the input reads as it did. -/
def aSTStripsUptoRow : OpenClaim := { program := "ytcknpcbkofgdoaagreatdoor", sum := "db171da29e061fc8e7bae929f982c89cdbc5c175316a5cf03eb51c6e1b869501", func := "trickle/tricklelaw16.ASTStrips", spec := "aSTStrips", inPlace := ["internal/bytealg.IndexByteString", "internal/bytealg.IndexString", "internal/abi.NoEscape", "internal/bytealg.MakeNoZero"], unfollowed := true, recurses := true, named := ["trickle/ast.exprShapes", "unicode/utf8.first", "unicode/utf8.acceptRanges", "trickle/ast.keywords", "trickle/ast.operators", "internal/strconv.uint64pow10", "math/bits.deBruijn32tab", "math/bits.deBruijn64tab", "trickle/ast.stmtShapes", "internal/bytealg.MaxLen"], loops := true, apart := false, laid := [("math/bits.deBruijn32tab", laid_math_bits_deBruijn32tab), ("math/bits.deBruijn64tab", laid_math_bits_deBruijn64tab), ("internal/strconv.uint64pow10", laid_internal_strconv_uint64pow10), ("unicode/utf8.acceptRanges", laid_unicode_utf8_acceptRanges), ("trickle/ast.operators", laid_trickle_ast_operators), ("trickle/ast.keywords", laid_trickle_ast_keywords), ("trickle/ast.exprShapes", laid_trickle_ast_exprShapes), ("trickle/ast.stmtShapes", laid_trickle_ast_stmtShapes), ("unicode/utf8.first", laid_unicode_utf8_first)], narrowed := true }
def ASTStripsUptoSaid : Prop := aSTStripsUptoRow.holds Tryz.pinned (OpenSpec.upto aSTStripsSpec)

/-- 'tricklelaw16.ASTTextDetermines', WHERE WHAT IT READS IS OF BULK AT MOST 1048576: true; the input reads as it did. -/
def aSTTextDeterminesUptoRow : OpenClaim := { program := "ytcknpcbkofgdoaagreatdoor", sum := "db171da29e061fc8e7bae929f982c89cdbc5c175316a5cf03eb51c6e1b869501", func := "trickle/tricklelaw16.ASTTextDetermines", spec := "aSTTextDetermines", inPlace := ["internal/bytealg.IndexByteString", "internal/bytealg.IndexString", "internal/abi.NoEscape", "internal/bytealg.MakeNoZero"], unfollowed := true, recurses := true, named := ["trickle/ast.exprShapes", "unicode/utf8.first", "unicode/utf8.acceptRanges", "trickle/ast.keywords", "trickle/ast.operators", "internal/strconv.uint64pow10", "math/bits.deBruijn32tab", "math/bits.deBruijn64tab", "trickle/ast.stmtShapes", "internal/bytealg.MaxLen"], loops := true, apart := false, laid := [("math/bits.deBruijn32tab", laid_math_bits_deBruijn32tab), ("math/bits.deBruijn64tab", laid_math_bits_deBruijn64tab), ("internal/strconv.uint64pow10", laid_internal_strconv_uint64pow10), ("unicode/utf8.acceptRanges", laid_unicode_utf8_acceptRanges), ("trickle/ast.operators", laid_trickle_ast_operators), ("trickle/ast.keywords", laid_trickle_ast_keywords), ("trickle/ast.exprShapes", laid_trickle_ast_exprShapes), ("trickle/ast.stmtShapes", laid_trickle_ast_stmtShapes), ("unicode/utf8.first", laid_unicode_utf8_first)], narrowed := true }
def ASTTextDeterminesUptoSaid : Prop := aSTTextDeterminesUptoRow.holds Tryz.pinned (OpenSpec.upto aSTTextDeterminesSpec)

end Rows
end Go.Proofs.YtcknpcbkofgdoaaGreatDoor
