/-
  NARROWER THAN 'FOR EVERY INPUT', by the rows' own cells (each row's printed sentence says how): ISAValid: laid · ISAEncode: laid · ISADecode: laid · ISACosts: laid · ISAFormat: laid · ISAParse: laid · ISANext: laid · ISARegisters: laid.
  DERIVED. THE GIVEN ROWS OF THIS SEAT. 8 by the template 'for every input the law returns true; each argument reads behind the call as it read before'; 0 by the template 'total and deterministic' (their statements: YtddffijipphfeaaDoorTotals.lean).
  GIVEN WITH THE SEED: the statements are not yours to turn. If you find one false, say at which input.
  Laid BY PROGRAM, IN A SANDBOX (cutbox-rows.mjs): the forced cells as the released guide's own fill.sh prints them over the translation 3777f84538a33af6… (all of the seat's roots in one cut). By AI agents, Wed Nov 11 2026. No macro, syntax, notation, axiom, sorry.
-/
import Derived.Test.YtddffijipphfeaaDoorChecked
import GoSem.Claim
import GoSem.ClaimJoined
import GoSem.ClaimMapViews
import Derived.JoinedTies
import Derived.KernelRfl
namespace Go.Proofs.YtddffijipphfeaaDoor
/- THE CELL 'sum', in the pinned program and in every row, IS THE sha256 OF THE DUMP (.gsa) THAT YtddffijipphfeaaDoorProg.lean LOADS. Nothing in Lean hashes anything: it is a label: what it is worth is what the hold of that sum in a sandbox is worth. -/
noncomputable def Tryd.pinned : Pinned := { name := "ytddffijipphfeaadoor", sum := "3777f84538a33af604041e4e2fb5f0809c31454d676ac3bfc315916120c57949", checked := Tryd.checked }
namespace Rows
def none {H : Type} : Left H := { results := [], args := [] }

/- WHAT THE LISTED PACKAGE-LEVEL VARIABLES READ AS WHEN THE CALL BEGINS. Each datum BY PROGRAM (the guide's laid-datum.mjs) off the statement by which the dump's own 'gosem.cut.vars' lays the variable. In a bare row this is a premise. The card (YtddffijipphfeaaDoorCards.lean) ties it to the program's text. -/
def laid_math_bits_deBruijn32tab {H : Type} : DataW H := .agg [.lit (.int .u8 0), .lit (.int .u8 1), .lit (.int .u8 28), .lit (.int .u8 2), .lit (.int .u8 29), .lit (.int .u8 14), .lit (.int .u8 24), .lit (.int .u8 3), .lit (.int .u8 30), .lit (.int .u8 22), .lit (.int .u8 20), .lit (.int .u8 15), .lit (.int .u8 25), .lit (.int .u8 17), .lit (.int .u8 4), .lit (.int .u8 8), .lit (.int .u8 31), .lit (.int .u8 27), .lit (.int .u8 13), .lit (.int .u8 23), .lit (.int .u8 21), .lit (.int .u8 19), .lit (.int .u8 16), .lit (.int .u8 7), .lit (.int .u8 26), .lit (.int .u8 12), .lit (.int .u8 18), .lit (.int .u8 6), .lit (.int .u8 11), .lit (.int .u8 5), .lit (.int .u8 10), .lit (.int .u8 9)]
def laid_math_bits_deBruijn64tab {H : Type} : DataW H := .agg [.lit (.int .u8 0), .lit (.int .u8 1), .lit (.int .u8 56), .lit (.int .u8 2), .lit (.int .u8 57), .lit (.int .u8 49), .lit (.int .u8 28), .lit (.int .u8 3), .lit (.int .u8 61), .lit (.int .u8 58), .lit (.int .u8 42), .lit (.int .u8 50), .lit (.int .u8 38), .lit (.int .u8 29), .lit (.int .u8 17), .lit (.int .u8 4), .lit (.int .u8 62), .lit (.int .u8 47), .lit (.int .u8 59), .lit (.int .u8 36), .lit (.int .u8 45), .lit (.int .u8 43), .lit (.int .u8 51), .lit (.int .u8 22), .lit (.int .u8 53), .lit (.int .u8 39), .lit (.int .u8 33), .lit (.int .u8 30), .lit (.int .u8 24), .lit (.int .u8 18), .lit (.int .u8 12), .lit (.int .u8 5), .lit (.int .u8 63), .lit (.int .u8 55), .lit (.int .u8 48), .lit (.int .u8 27), .lit (.int .u8 60), .lit (.int .u8 41), .lit (.int .u8 37), .lit (.int .u8 16), .lit (.int .u8 46), .lit (.int .u8 35), .lit (.int .u8 44), .lit (.int .u8 21), .lit (.int .u8 52), .lit (.int .u8 32), .lit (.int .u8 23), .lit (.int .u8 11), .lit (.int .u8 54), .lit (.int .u8 26), .lit (.int .u8 40), .lit (.int .u8 15), .lit (.int .u8 34), .lit (.int .u8 20), .lit (.int .u8 31), .lit (.int .u8 10), .lit (.int .u8 25), .lit (.int .u8 14), .lit (.int .u8 19), .lit (.int .u8 9), .lit (.int .u8 13), .lit (.int .u8 8), .lit (.int .u8 7), .lit (.int .u8 6)]
def laid_internal_strconv_uint64pow10 {H : Type} : DataW H := .agg [.lit (.int .u64 1), .lit (.int .u64 10), .lit (.int .u64 100), .lit (.int .u64 1000), .lit (.int .u64 10000), .lit (.int .u64 100000), .lit (.int .u64 1000000), .lit (.int .u64 10000000), .lit (.int .u64 100000000), .lit (.int .u64 1000000000), .lit (.int .u64 10000000000), .lit (.int .u64 100000000000), .lit (.int .u64 1000000000000), .lit (.int .u64 10000000000000), .lit (.int .u64 100000000000000), .lit (.int .u64 1000000000000000), .lit (.int .u64 10000000000000000), .lit (.int .u64 100000000000000000), .lit (.int .u64 1000000000000000000), .lit (.int .u64 10000000000000000000)]
def laid_trickle_isa_operations {H : Type} : DataW H := .agg [.agg [.lit (.string []), .lit (.int .u8 0), .lit (.int .u8 0), .lit (.int .i16 0), .lit (.int .i16 0), .lit (.bool false)], .agg [.lit (.string [104, 97, 108, 116]), .lit (.int .u8 0), .lit (.int .u8 0), .lit (.int .i16 0), .lit (.int .i16 0), .lit (.bool false)], .agg [.lit (.string [109, 111, 118, 105]), .lit (.int .u8 1), .lit (.int .u8 0), .lit (.int .i16 (-32768)), .lit (.int .i16 32767), .lit (.bool false)], .agg [.lit (.string [109, 111, 118]), .lit (.int .u8 1), .lit (.int .u8 2), .lit (.int .i16 0), .lit (.int .i16 0), .lit (.bool false)], .agg [.lit (.string [110, 101, 103]), .lit (.int .u8 1), .lit (.int .u8 2), .lit (.int .i16 0), .lit (.int .i16 0), .lit (.bool false)], .agg [.lit (.string [110, 111, 116]), .lit (.int .u8 1), .lit (.int .u8 2), .lit (.int .i16 0), .lit (.int .i16 0), .lit (.bool false)], .agg [.lit (.string [97, 100, 100]), .lit (.int .u8 1), .lit (.int .u8 6), .lit (.int .i16 0), .lit (.int .i16 0), .lit (.bool false)], .agg [.lit (.string [115, 117, 98]), .lit (.int .u8 1), .lit (.int .u8 6), .lit (.int .i16 0), .lit (.int .i16 0), .lit (.bool false)], .agg [.lit (.string [109, 117, 108]), .lit (.int .u8 1), .lit (.int .u8 6), .lit (.int .i16 0), .lit (.int .i16 0), .lit (.bool false)], .agg [.lit (.string [100, 105, 118]), .lit (.int .u8 1), .lit (.int .u8 6), .lit (.int .i16 0), .lit (.int .i16 0), .lit (.bool false)], .agg [.lit (.string [109, 111, 100]), .lit (.int .u8 1), .lit (.int .u8 6), .lit (.int .i16 0), .lit (.int .i16 0), .lit (.bool false)], .agg [.lit (.string [101, 113]), .lit (.int .u8 1), .lit (.int .u8 6), .lit (.int .i16 0), .lit (.int .i16 0), .lit (.bool false)], .agg [.lit (.string [108, 116]), .lit (.int .u8 1), .lit (.int .u8 6), .lit (.int .i16 0), .lit (.int .i16 0), .lit (.bool false)], .agg [.lit (.string [108, 101]), .lit (.int .u8 1), .lit (.int .u8 6), .lit (.int .i16 0), .lit (.int .i16 0), .lit (.bool false)], .agg [.lit (.string [108, 111, 97, 100]), .lit (.int .u8 1), .lit (.int .u8 0), .lit (.int .i16 0), .lit (.int .i16 16382), .lit (.bool true)], .agg [.lit (.string [115, 116, 111, 114, 101]), .lit (.int .u8 0), .lit (.int .u8 1), .lit (.int .i16 0), .lit (.int .i16 16382), .lit (.bool true)], .agg [.lit (.string [108, 111, 97, 100, 120]), .lit (.int .u8 1), .lit (.int .u8 2), .lit (.int .i16 0), .lit (.int .i16 0), .lit (.bool false)], .agg [.lit (.string [115, 116, 111, 114, 101, 120]), .lit (.int .u8 0), .lit (.int .u8 3), .lit (.int .i16 0), .lit (.int .i16 0), .lit (.bool false)], .agg [.lit (.string [105, 110, 100, 101, 120]), .lit (.int .u8 1), .lit (.int .u8 2), .lit (.int .i16 0), .lit (.int .i16 31), .lit (.bool false)], .agg [.lit (.string [115, 112, 105, 108, 108]), .lit (.int .u8 0), .lit (.int .u8 1), .lit (.int .i16 0), .lit (.int .i16 63), .lit (.bool false)], .agg [.lit (.string [102, 105, 108, 108]), .lit (.int .u8 1), .lit (.int .u8 0), .lit (.int .i16 0), .lit (.int .i16 63), .lit (.bool false)], .agg [.lit (.string [106, 117, 109, 112]), .lit (.int .u8 0), .lit (.int .u8 0), .lit (.int .i16 0), .lit (.int .i16 479), .lit (.bool false)], .agg [.lit (.string [106, 117, 109, 112, 122]), .lit (.int .u8 0), .lit (.int .u8 1), .lit (.int .i16 0), .lit (.int .i16 479), .lit (.bool false)], .agg [.lit (.string [114, 101, 97, 100]), .lit (.int .u8 1), .lit (.int .u8 0), .lit (.int .i16 0), .lit (.int .i16 7), .lit (.bool false)], .agg [.lit (.string [115, 101, 110, 100]), .lit (.int .u8 0), .lit (.int .u8 1), .lit (.int .i16 0), .lit (.int .i16 7), .lit (.bool false)], .agg [.lit (.string [101, 109, 105, 116]), .lit (.int .u8 0), .lit (.int .u8 1), .lit (.int .i16 0), .lit (.int .i16 0), .lit (.bool false)], .agg [.lit (.string [111, 117, 116]), .lit (.int .u8 0), .lit (.int .u8 1), .lit (.int .i16 0), .lit (.int .i16 7), .lit (.bool false)], .agg [.lit (.string [108, 111, 103]), .lit (.int .u8 0), .lit (.int .u8 0), .lit (.int .i16 0), .lit (.int .i16 16382), .lit (.bool true)], .agg [.lit (.string [108, 111, 103, 120]), .lit (.int .u8 0), .lit (.int .u8 1), .lit (.int .i16 0), .lit (.int .i16 0), .lit (.bool false)], .agg [.lit (.string [99, 111, 109, 109, 105, 116]), .lit (.int .u8 0), .lit (.int .u8 0), .lit (.int .i16 0), .lit (.int .i16 119), .lit (.bool false)], .agg [.lit (.string [110, 111, 112]), .lit (.int .u8 0), .lit (.int .u8 0), .lit (.int .i16 0), .lit (.int .i16 0), .lit (.bool false)]]
def laid_trickle_isa_costs {H : Type} : DataW H := .agg [.agg [.lit (.int .i64 0), .lit (.int .i64 0), .lit (.int .i64 0)], .agg [.lit (.int .i64 1), .lit (.int .i64 1), .lit (.int .i64 0)], .agg [.lit (.int .i64 1), .lit (.int .i64 1), .lit (.int .i64 0)], .agg [.lit (.int .i64 1), .lit (.int .i64 1), .lit (.int .i64 0)], .agg [.lit (.int .i64 1), .lit (.int .i64 1), .lit (.int .i64 0)], .agg [.lit (.int .i64 1), .lit (.int .i64 1), .lit (.int .i64 0)], .agg [.lit (.int .i64 1), .lit (.int .i64 1), .lit (.int .i64 0)], .agg [.lit (.int .i64 1), .lit (.int .i64 1), .lit (.int .i64 0)], .agg [.lit (.int .i64 1), .lit (.int .i64 1), .lit (.int .i64 0)], .agg [.lit (.int .i64 1), .lit (.int .i64 1), .lit (.int .i64 0)], .agg [.lit (.int .i64 1), .lit (.int .i64 1), .lit (.int .i64 0)], .agg [.lit (.int .i64 1), .lit (.int .i64 1), .lit (.int .i64 0)], .agg [.lit (.int .i64 1), .lit (.int .i64 1), .lit (.int .i64 0)], .agg [.lit (.int .i64 1), .lit (.int .i64 1), .lit (.int .i64 0)], .agg [.lit (.int .i64 1), .lit (.int .i64 1), .lit (.int .i64 0)], .agg [.lit (.int .i64 3), .lit (.int .i64 2), .lit (.int .i64 2)], .agg [.lit (.int .i64 1), .lit (.int .i64 1), .lit (.int .i64 0)], .agg [.lit (.int .i64 3), .lit (.int .i64 2), .lit (.int .i64 2)], .agg [.lit (.int .i64 1), .lit (.int .i64 1), .lit (.int .i64 0)], .agg [.lit (.int .i64 1), .lit (.int .i64 1), .lit (.int .i64 0)], .agg [.lit (.int .i64 1), .lit (.int .i64 1), .lit (.int .i64 0)], .agg [.lit (.int .i64 1), .lit (.int .i64 1), .lit (.int .i64 0)], .agg [.lit (.int .i64 1), .lit (.int .i64 1), .lit (.int .i64 0)], .agg [.lit (.int .i64 8), .lit (.int .i64 4), .lit (.int .i64 0)], .agg [.lit (.int .i64 10), .lit (.int .i64 2), .lit (.int .i64 8)], .agg [.lit (.int .i64 4), .lit (.int .i64 2), .lit (.int .i64 2)], .agg [.lit (.int .i64 6), .lit (.int .i64 2), .lit (.int .i64 4)], .agg [.lit (.int .i64 6), .lit (.int .i64 4), .lit (.int .i64 5)], .agg [.lit (.int .i64 6), .lit (.int .i64 4), .lit (.int .i64 5)], .agg [.lit (.int .i64 2), .lit (.int .i64 2), .lit (.int .i64 0)], .agg [.lit (.int .i64 1), .lit (.int .i64 1), .lit (.int .i64 0)]]
def laid_strconv_ErrRange {H : Type} : DataW H := .iface "*errors.errorString" (.ptr (.agg [.lit (.string [118, 97, 108, 117, 101, 32, 111, 117, 116, 32, 111, 102, 32, 114, 97, 110, 103, 101])]))
def laid_strconv_ErrSyntax {H : Type} : DataW H := .iface "*errors.errorString" (.ptr (.agg [.lit (.string [105, 110, 118, 97, 108, 105, 100, 32, 115, 121, 110, 116, 97, 120])]))

/-- 'tricklelaw11.ISAValid': WHATEVER THE INPUT: true; the input reads as it did. -/
def iSAValidSpec : ChangeSpec := { name := "iSAValid", fn := fun _ => fun
  | [d] => { results := [.lit (.bool true)], args := [d] }
  | _ => none }
def iSAValidRow : OpenClaim := { program := "ytddffijipphfeaadoor", sum := "3777f84538a33af604041e4e2fb5f0809c31454d676ac3bfc315916120c57949", func := "trickle/tricklelaw11.ISAValid", spec := "iSAValid", inPlace := ["internal/abi.NoEscape", "internal/bytealg.MakeNoZero"], named := ["trickle/isa.operations", "internal/strconv.uint64pow10", "math/bits.deBruijn32tab", "math/bits.deBruijn64tab"], apart := false, laid := [("math/bits.deBruijn32tab", laid_math_bits_deBruijn32tab), ("math/bits.deBruijn64tab", laid_math_bits_deBruijn64tab), ("internal/strconv.uint64pow10", laid_internal_strconv_uint64pow10), ("trickle/isa.operations", laid_trickle_isa_operations)] }
def ISAValidSaid : Prop := iSAValidRow.holds Tryd.pinned (OpenSpec.ofChange iSAValidSpec)

/-- ITS FALSE NEIGHBOUR: 'it returns false'. Refute it at one input. -/
def iSAValidWrong : ChangeSpec := { name := "iSAValid", fn := fun _ => fun
  | [d] => { results := [.lit (.bool false)], args := [d] }
  | _ => none }
def ISAValidWrongFalsely : Prop := iSAValidRow.holds Tryd.pinned (OpenSpec.ofChange iSAValidWrong)

/-- 'tricklelaw11.ISAEncode': WHATEVER THE INPUT: true; the input reads as it did. -/
def iSAEncodeSpec : ChangeSpec := { name := "iSAEncode", fn := fun _ => fun
  | [d] => { results := [.lit (.bool true)], args := [d] }
  | _ => none }
def iSAEncodeRow : OpenClaim := { program := "ytddffijipphfeaadoor", sum := "3777f84538a33af604041e4e2fb5f0809c31454d676ac3bfc315916120c57949", func := "trickle/tricklelaw11.ISAEncode", spec := "iSAEncode", inPlace := ["internal/abi.NoEscape", "internal/bytealg.MakeNoZero"], named := ["trickle/isa.operations", "internal/strconv.uint64pow10", "math/bits.deBruijn32tab", "math/bits.deBruijn64tab"], apart := false, laid := [("math/bits.deBruijn32tab", laid_math_bits_deBruijn32tab), ("math/bits.deBruijn64tab", laid_math_bits_deBruijn64tab), ("internal/strconv.uint64pow10", laid_internal_strconv_uint64pow10), ("trickle/isa.operations", laid_trickle_isa_operations)] }
def ISAEncodeSaid : Prop := iSAEncodeRow.holds Tryd.pinned (OpenSpec.ofChange iSAEncodeSpec)

/-- ITS FALSE NEIGHBOUR: 'it returns false'. Refute it at one input. -/
def iSAEncodeWrong : ChangeSpec := { name := "iSAEncode", fn := fun _ => fun
  | [d] => { results := [.lit (.bool false)], args := [d] }
  | _ => none }
def ISAEncodeWrongFalsely : Prop := iSAEncodeRow.holds Tryd.pinned (OpenSpec.ofChange iSAEncodeWrong)

/-- 'tricklelaw11.ISADecode': WHATEVER THE INPUT: true; the input reads as it did. -/
def iSADecodeSpec : ChangeSpec := { name := "iSADecode", fn := fun _ => fun
  | [d] => { results := [.lit (.bool true)], args := [d] }
  | _ => none }
def iSADecodeRow : OpenClaim := { program := "ytddffijipphfeaadoor", sum := "3777f84538a33af604041e4e2fb5f0809c31454d676ac3bfc315916120c57949", func := "trickle/tricklelaw11.ISADecode", spec := "iSADecode", inPlace := ["internal/abi.NoEscape", "internal/bytealg.MakeNoZero"], named := ["trickle/isa.operations", "internal/strconv.uint64pow10", "math/bits.deBruijn32tab", "math/bits.deBruijn64tab"], apart := false, laid := [("math/bits.deBruijn32tab", laid_math_bits_deBruijn32tab), ("math/bits.deBruijn64tab", laid_math_bits_deBruijn64tab), ("internal/strconv.uint64pow10", laid_internal_strconv_uint64pow10), ("trickle/isa.operations", laid_trickle_isa_operations)] }
def ISADecodeSaid : Prop := iSADecodeRow.holds Tryd.pinned (OpenSpec.ofChange iSADecodeSpec)

/-- ITS FALSE NEIGHBOUR: 'it returns false'. Refute it at one input. -/
def iSADecodeWrong : ChangeSpec := { name := "iSADecode", fn := fun _ => fun
  | [d] => { results := [.lit (.bool false)], args := [d] }
  | _ => none }
def ISADecodeWrongFalsely : Prop := iSADecodeRow.holds Tryd.pinned (OpenSpec.ofChange iSADecodeWrong)

/-- 'tricklelaw11.ISACosts': WHATEVER THE INPUT: true; the input reads as it did. -/
def iSACostsSpec : ChangeSpec := { name := "iSACosts", fn := fun _ => fun
  | [d] => { results := [.lit (.bool true)], args := [d] }
  | _ => none }
def iSACostsRow : OpenClaim := { program := "ytddffijipphfeaadoor", sum := "3777f84538a33af604041e4e2fb5f0809c31454d676ac3bfc315916120c57949", func := "trickle/tricklelaw11.ISACosts", spec := "iSACosts", inPlace := ["internal/abi.NoEscape", "internal/bytealg.MakeNoZero"], named := ["trickle/isa.operations", "internal/strconv.uint64pow10", "math/bits.deBruijn32tab", "math/bits.deBruijn64tab", "trickle/isa.costs"], apart := false, laid := [("math/bits.deBruijn32tab", laid_math_bits_deBruijn32tab), ("math/bits.deBruijn64tab", laid_math_bits_deBruijn64tab), ("internal/strconv.uint64pow10", laid_internal_strconv_uint64pow10), ("trickle/isa.operations", laid_trickle_isa_operations), ("trickle/isa.costs", laid_trickle_isa_costs)] }
def ISACostsSaid : Prop := iSACostsRow.holds Tryd.pinned (OpenSpec.ofChange iSACostsSpec)

/-- ITS FALSE NEIGHBOUR: 'it returns false'. Refute it at one input. -/
def iSACostsWrong : ChangeSpec := { name := "iSACosts", fn := fun _ => fun
  | [d] => { results := [.lit (.bool false)], args := [d] }
  | _ => none }
def ISACostsWrongFalsely : Prop := iSACostsRow.holds Tryd.pinned (OpenSpec.ofChange iSACostsWrong)

/-- 'tricklelaw11.ISAFormat': WHATEVER THE INPUT: true; the input reads as it did. -/
def iSAFormatSpec : ChangeSpec := { name := "iSAFormat", fn := fun _ => fun
  | [d] => { results := [.lit (.bool true)], args := [d] }
  | _ => none }
def iSAFormatRow : OpenClaim := { program := "ytddffijipphfeaadoor", sum := "3777f84538a33af604041e4e2fb5f0809c31454d676ac3bfc315916120c57949", func := "trickle/tricklelaw11.ISAFormat", spec := "iSAFormat", inPlace := ["internal/abi.NoEscape", "internal/bytealg.MakeNoZero", "internal/bytealg.IndexByteString", "internal/bytealg.IndexString"], recurses := true, named := ["trickle/isa.operations", "internal/strconv.uint64pow10", "math/bits.deBruijn32tab", "math/bits.deBruijn64tab", "internal/bytealg.MaxLen", "strconv.ErrSyntax", "strconv.ErrRange"], apart := false, laid := [("math/bits.deBruijn32tab", laid_math_bits_deBruijn32tab), ("math/bits.deBruijn64tab", laid_math_bits_deBruijn64tab), ("internal/strconv.uint64pow10", laid_internal_strconv_uint64pow10), ("strconv.ErrRange", laid_strconv_ErrRange), ("strconv.ErrSyntax", laid_strconv_ErrSyntax), ("trickle/isa.operations", laid_trickle_isa_operations)] }
def ISAFormatSaid : Prop := iSAFormatRow.holds Tryd.pinned (OpenSpec.ofChange iSAFormatSpec)

/-- ITS FALSE NEIGHBOUR: 'it returns false'. Refute it at one input. -/
def iSAFormatWrong : ChangeSpec := { name := "iSAFormat", fn := fun _ => fun
  | [d] => { results := [.lit (.bool false)], args := [d] }
  | _ => none }
def ISAFormatWrongFalsely : Prop := iSAFormatRow.holds Tryd.pinned (OpenSpec.ofChange iSAFormatWrong)

/-- 'tricklelaw11.ISAParse': WHATEVER THE INPUT: true; the input reads as it did. -/
def iSAParseSpec : ChangeSpec := { name := "iSAParse", fn := fun _ => fun
  | [d] => { results := [.lit (.bool true)], args := [d] }
  | _ => none }
def iSAParseRow : OpenClaim := { program := "ytddffijipphfeaadoor", sum := "3777f84538a33af604041e4e2fb5f0809c31454d676ac3bfc315916120c57949", func := "trickle/tricklelaw11.ISAParse", spec := "iSAParse", inPlace := ["internal/abi.NoEscape", "internal/bytealg.MakeNoZero", "internal/bytealg.IndexByteString", "internal/bytealg.IndexString"], recurses := true, named := ["trickle/isa.operations", "internal/strconv.uint64pow10", "math/bits.deBruijn32tab", "math/bits.deBruijn64tab", "internal/bytealg.MaxLen", "strconv.ErrSyntax", "strconv.ErrRange"], apart := false, laid := [("math/bits.deBruijn32tab", laid_math_bits_deBruijn32tab), ("math/bits.deBruijn64tab", laid_math_bits_deBruijn64tab), ("internal/strconv.uint64pow10", laid_internal_strconv_uint64pow10), ("strconv.ErrRange", laid_strconv_ErrRange), ("strconv.ErrSyntax", laid_strconv_ErrSyntax), ("trickle/isa.operations", laid_trickle_isa_operations)] }
def ISAParseSaid : Prop := iSAParseRow.holds Tryd.pinned (OpenSpec.ofChange iSAParseSpec)

/-- ITS FALSE NEIGHBOUR: 'it returns false'. Refute it at one input. -/
def iSAParseWrong : ChangeSpec := { name := "iSAParse", fn := fun _ => fun
  | [d] => { results := [.lit (.bool false)], args := [d] }
  | _ => none }
def ISAParseWrongFalsely : Prop := iSAParseRow.holds Tryd.pinned (OpenSpec.ofChange iSAParseWrong)

/-- 'tricklelaw11.ISANext': WHATEVER THE INPUT: true; the input reads as it did. -/
def iSANextSpec : ChangeSpec := { name := "iSANext", fn := fun _ => fun
  | [d1, d2] => { results := [.lit (.bool true)], args := [d1, d2] }
  | _ => none }
def iSANextRow : OpenClaim := { program := "ytddffijipphfeaadoor", sum := "3777f84538a33af604041e4e2fb5f0809c31454d676ac3bfc315916120c57949", func := "trickle/tricklelaw11.ISANext", spec := "iSANext", inPlace := ["internal/abi.NoEscape", "internal/bytealg.MakeNoZero"], named := ["trickle/isa.operations", "internal/strconv.uint64pow10", "math/bits.deBruijn32tab", "math/bits.deBruijn64tab"], apart := false, laid := [("math/bits.deBruijn32tab", laid_math_bits_deBruijn32tab), ("math/bits.deBruijn64tab", laid_math_bits_deBruijn64tab), ("internal/strconv.uint64pow10", laid_internal_strconv_uint64pow10), ("trickle/isa.operations", laid_trickle_isa_operations)] }
def ISANextSaid : Prop := iSANextRow.holds Tryd.pinned (OpenSpec.ofChange iSANextSpec)

/-- ITS FALSE NEIGHBOUR: 'it returns false'. Refute it at one input. -/
def iSANextWrong : ChangeSpec := { name := "iSANext", fn := fun _ => fun
  | [d1, d2] => { results := [.lit (.bool false)], args := [d1, d2] }
  | _ => none }
def ISANextWrongFalsely : Prop := iSANextRow.holds Tryd.pinned (OpenSpec.ofChange iSANextWrong)

/-- 'tricklelaw11.ISARegisters': WHATEVER THE INPUT: true; the input reads as it did. -/
def iSARegistersSpec : ChangeSpec := { name := "iSARegisters", fn := fun _ => fun
  | [d] => { results := [.lit (.bool true)], args := [d] }
  | _ => none }
def iSARegistersRow : OpenClaim := { program := "ytddffijipphfeaadoor", sum := "3777f84538a33af604041e4e2fb5f0809c31454d676ac3bfc315916120c57949", func := "trickle/tricklelaw11.ISARegisters", spec := "iSARegisters", inPlace := ["internal/abi.NoEscape", "internal/bytealg.MakeNoZero"], named := ["trickle/isa.operations", "internal/strconv.uint64pow10", "math/bits.deBruijn32tab", "math/bits.deBruijn64tab"], apart := false, laid := [("math/bits.deBruijn32tab", laid_math_bits_deBruijn32tab), ("math/bits.deBruijn64tab", laid_math_bits_deBruijn64tab), ("internal/strconv.uint64pow10", laid_internal_strconv_uint64pow10), ("trickle/isa.operations", laid_trickle_isa_operations)] }
def ISARegistersSaid : Prop := iSARegistersRow.holds Tryd.pinned (OpenSpec.ofChange iSARegistersSpec)

/-- ITS FALSE NEIGHBOUR: 'it returns false'. Refute it at one input. -/
def iSARegistersWrong : ChangeSpec := { name := "iSARegisters", fn := fun _ => fun
  | [d] => { results := [.lit (.bool false)], args := [d] }
  | _ => none }
def ISARegistersWrongFalsely : Prop := iSARegistersRow.holds Tryd.pinned (OpenSpec.ofChange iSARegistersWrong)

/- THE SECOND FORM. 'bulk': how many values and letters a reading holds, each counted each time it is reached (what is shared counts as often as it is met; a slice's spare places count too). A statement '..UptoSaid' is the law's where the arguments, and the package variables that the reading takes, are together of bulk at most 1048576: NARROWER than '..Said'. Prove '..Said' where nothing that the law and all that it calls make is longer than what came in: it says more and counts as full. Else prove '..UptoSaid'. A law counts once. -/
mutual
def uptoBulk {H : Type} : DataW H → Nat
  | .lit (.string bytes) => bytes.length + 1
  | .lit _ => 1
  | .nil => 1
  | .ptr d => uptoBulk d + 1
  | .slice elems spare => uptoBulkAll elems + uptoBulkAll spare + 1
  | .agg parts => uptoBulkAll parts + 1
  | .iface _ d => uptoBulk d + 1
  | .map entries => uptoBulkEntries entries + 1
  | .held _ => 1
def uptoBulkAll {H : Type} : List (DataW H) → Nat
  | [] => 0
  | d :: r => uptoBulk d + uptoBulkAll r
def uptoBulkEntries {H : Type} : List (Lit × DataW H) → Nat
  | [] => 0
  | x :: r => uptoBulkEntry x + uptoBulkEntries r
def uptoBulkEntry {H : Type} : Lit × DataW H → Nat
  | (.string bytes, d) => bytes.length + uptoBulk d + 1
  | (_, d) => uptoBulk d + 1
 end
def uptoSmall : (H : Type) → List (DataW H) → Bool := fun _ ds => decide (uptoBulkAll ds ≤ 1048576)
def OpenSpec.upto (s : _root_.Go.ChangeSpec) : _root_.Go.OpenSpec := { _root_.Go.OpenSpec.ofChange s with cond := some uptoSmall }

/-- 'tricklelaw11.ISAValid', WHERE WHAT IT READS IS OF BULK AT MOST 1048576: true; the input reads as it did. -/
def iSAValidUptoRow : OpenClaim := { program := "ytddffijipphfeaadoor", sum := "3777f84538a33af604041e4e2fb5f0809c31454d676ac3bfc315916120c57949", func := "trickle/tricklelaw11.ISAValid", spec := "iSAValid", inPlace := ["internal/abi.NoEscape", "internal/bytealg.MakeNoZero"], named := ["trickle/isa.operations", "internal/strconv.uint64pow10", "math/bits.deBruijn32tab", "math/bits.deBruijn64tab"], apart := false, laid := [("math/bits.deBruijn32tab", laid_math_bits_deBruijn32tab), ("math/bits.deBruijn64tab", laid_math_bits_deBruijn64tab), ("internal/strconv.uint64pow10", laid_internal_strconv_uint64pow10), ("trickle/isa.operations", laid_trickle_isa_operations)], narrowed := true }
def ISAValidUptoSaid : Prop := iSAValidUptoRow.holds Tryd.pinned (OpenSpec.upto iSAValidSpec)

/-- 'tricklelaw11.ISAEncode', WHERE WHAT IT READS IS OF BULK AT MOST 1048576: true; the input reads as it did. -/
def iSAEncodeUptoRow : OpenClaim := { program := "ytddffijipphfeaadoor", sum := "3777f84538a33af604041e4e2fb5f0809c31454d676ac3bfc315916120c57949", func := "trickle/tricklelaw11.ISAEncode", spec := "iSAEncode", inPlace := ["internal/abi.NoEscape", "internal/bytealg.MakeNoZero"], named := ["trickle/isa.operations", "internal/strconv.uint64pow10", "math/bits.deBruijn32tab", "math/bits.deBruijn64tab"], apart := false, laid := [("math/bits.deBruijn32tab", laid_math_bits_deBruijn32tab), ("math/bits.deBruijn64tab", laid_math_bits_deBruijn64tab), ("internal/strconv.uint64pow10", laid_internal_strconv_uint64pow10), ("trickle/isa.operations", laid_trickle_isa_operations)], narrowed := true }
def ISAEncodeUptoSaid : Prop := iSAEncodeUptoRow.holds Tryd.pinned (OpenSpec.upto iSAEncodeSpec)

/-- 'tricklelaw11.ISADecode', WHERE WHAT IT READS IS OF BULK AT MOST 1048576: true; the input reads as it did. -/
def iSADecodeUptoRow : OpenClaim := { program := "ytddffijipphfeaadoor", sum := "3777f84538a33af604041e4e2fb5f0809c31454d676ac3bfc315916120c57949", func := "trickle/tricklelaw11.ISADecode", spec := "iSADecode", inPlace := ["internal/abi.NoEscape", "internal/bytealg.MakeNoZero"], named := ["trickle/isa.operations", "internal/strconv.uint64pow10", "math/bits.deBruijn32tab", "math/bits.deBruijn64tab"], apart := false, laid := [("math/bits.deBruijn32tab", laid_math_bits_deBruijn32tab), ("math/bits.deBruijn64tab", laid_math_bits_deBruijn64tab), ("internal/strconv.uint64pow10", laid_internal_strconv_uint64pow10), ("trickle/isa.operations", laid_trickle_isa_operations)], narrowed := true }
def ISADecodeUptoSaid : Prop := iSADecodeUptoRow.holds Tryd.pinned (OpenSpec.upto iSADecodeSpec)

/-- 'tricklelaw11.ISACosts', WHERE WHAT IT READS IS OF BULK AT MOST 1048576: true; the input reads as it did. -/
def iSACostsUptoRow : OpenClaim := { program := "ytddffijipphfeaadoor", sum := "3777f84538a33af604041e4e2fb5f0809c31454d676ac3bfc315916120c57949", func := "trickle/tricklelaw11.ISACosts", spec := "iSACosts", inPlace := ["internal/abi.NoEscape", "internal/bytealg.MakeNoZero"], named := ["trickle/isa.operations", "internal/strconv.uint64pow10", "math/bits.deBruijn32tab", "math/bits.deBruijn64tab", "trickle/isa.costs"], apart := false, laid := [("math/bits.deBruijn32tab", laid_math_bits_deBruijn32tab), ("math/bits.deBruijn64tab", laid_math_bits_deBruijn64tab), ("internal/strconv.uint64pow10", laid_internal_strconv_uint64pow10), ("trickle/isa.operations", laid_trickle_isa_operations), ("trickle/isa.costs", laid_trickle_isa_costs)], narrowed := true }
def ISACostsUptoSaid : Prop := iSACostsUptoRow.holds Tryd.pinned (OpenSpec.upto iSACostsSpec)

/-- 'tricklelaw11.ISAFormat', WHERE WHAT IT READS IS OF BULK AT MOST 1048576: true; the input reads as it did. -/
def iSAFormatUptoRow : OpenClaim := { program := "ytddffijipphfeaadoor", sum := "3777f84538a33af604041e4e2fb5f0809c31454d676ac3bfc315916120c57949", func := "trickle/tricklelaw11.ISAFormat", spec := "iSAFormat", inPlace := ["internal/abi.NoEscape", "internal/bytealg.MakeNoZero", "internal/bytealg.IndexByteString", "internal/bytealg.IndexString"], recurses := true, named := ["trickle/isa.operations", "internal/strconv.uint64pow10", "math/bits.deBruijn32tab", "math/bits.deBruijn64tab", "internal/bytealg.MaxLen", "strconv.ErrSyntax", "strconv.ErrRange"], apart := false, laid := [("math/bits.deBruijn32tab", laid_math_bits_deBruijn32tab), ("math/bits.deBruijn64tab", laid_math_bits_deBruijn64tab), ("internal/strconv.uint64pow10", laid_internal_strconv_uint64pow10), ("strconv.ErrRange", laid_strconv_ErrRange), ("strconv.ErrSyntax", laid_strconv_ErrSyntax), ("trickle/isa.operations", laid_trickle_isa_operations)], narrowed := true }
def ISAFormatUptoSaid : Prop := iSAFormatUptoRow.holds Tryd.pinned (OpenSpec.upto iSAFormatSpec)

/-- 'tricklelaw11.ISAParse', WHERE WHAT IT READS IS OF BULK AT MOST 1048576: true; the input reads as it did. -/
def iSAParseUptoRow : OpenClaim := { program := "ytddffijipphfeaadoor", sum := "3777f84538a33af604041e4e2fb5f0809c31454d676ac3bfc315916120c57949", func := "trickle/tricklelaw11.ISAParse", spec := "iSAParse", inPlace := ["internal/abi.NoEscape", "internal/bytealg.MakeNoZero", "internal/bytealg.IndexByteString", "internal/bytealg.IndexString"], recurses := true, named := ["trickle/isa.operations", "internal/strconv.uint64pow10", "math/bits.deBruijn32tab", "math/bits.deBruijn64tab", "internal/bytealg.MaxLen", "strconv.ErrSyntax", "strconv.ErrRange"], apart := false, laid := [("math/bits.deBruijn32tab", laid_math_bits_deBruijn32tab), ("math/bits.deBruijn64tab", laid_math_bits_deBruijn64tab), ("internal/strconv.uint64pow10", laid_internal_strconv_uint64pow10), ("strconv.ErrRange", laid_strconv_ErrRange), ("strconv.ErrSyntax", laid_strconv_ErrSyntax), ("trickle/isa.operations", laid_trickle_isa_operations)], narrowed := true }
def ISAParseUptoSaid : Prop := iSAParseUptoRow.holds Tryd.pinned (OpenSpec.upto iSAParseSpec)

/-- 'tricklelaw11.ISANext', WHERE WHAT IT READS IS OF BULK AT MOST 1048576: true; the input reads as it did. -/
def iSANextUptoRow : OpenClaim := { program := "ytddffijipphfeaadoor", sum := "3777f84538a33af604041e4e2fb5f0809c31454d676ac3bfc315916120c57949", func := "trickle/tricklelaw11.ISANext", spec := "iSANext", inPlace := ["internal/abi.NoEscape", "internal/bytealg.MakeNoZero"], named := ["trickle/isa.operations", "internal/strconv.uint64pow10", "math/bits.deBruijn32tab", "math/bits.deBruijn64tab"], apart := false, laid := [("math/bits.deBruijn32tab", laid_math_bits_deBruijn32tab), ("math/bits.deBruijn64tab", laid_math_bits_deBruijn64tab), ("internal/strconv.uint64pow10", laid_internal_strconv_uint64pow10), ("trickle/isa.operations", laid_trickle_isa_operations)], narrowed := true }
def ISANextUptoSaid : Prop := iSANextUptoRow.holds Tryd.pinned (OpenSpec.upto iSANextSpec)

/-- 'tricklelaw11.ISARegisters', WHERE WHAT IT READS IS OF BULK AT MOST 1048576: true; the input reads as it did. -/
def iSARegistersUptoRow : OpenClaim := { program := "ytddffijipphfeaadoor", sum := "3777f84538a33af604041e4e2fb5f0809c31454d676ac3bfc315916120c57949", func := "trickle/tricklelaw11.ISARegisters", spec := "iSARegisters", inPlace := ["internal/abi.NoEscape", "internal/bytealg.MakeNoZero"], named := ["trickle/isa.operations", "internal/strconv.uint64pow10", "math/bits.deBruijn32tab", "math/bits.deBruijn64tab"], apart := false, laid := [("math/bits.deBruijn32tab", laid_math_bits_deBruijn32tab), ("math/bits.deBruijn64tab", laid_math_bits_deBruijn64tab), ("internal/strconv.uint64pow10", laid_internal_strconv_uint64pow10), ("trickle/isa.operations", laid_trickle_isa_operations)], narrowed := true }
def ISARegistersUptoSaid : Prop := iSARegistersUptoRow.holds Tryd.pinned (OpenSpec.upto iSARegistersSpec)

end Rows
end Go.Proofs.YtddffijipphfeaaDoor
