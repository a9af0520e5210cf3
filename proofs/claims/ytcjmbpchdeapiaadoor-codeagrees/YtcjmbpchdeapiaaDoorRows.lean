/-
  NARROWER THAN 'FOR EVERY INPUT', by the rows' own cells (each row's printed sentence says how): CodePlays: laid · CodeAgrees: laid · CodeWithin: laid · CodeOwn: laid.
  DERIVED. THE GIVEN ROWS OF THIS SEAT. 4 by the template 'for every input the law returns true; each argument reads behind the call as it read before'; 0 by the template 'total and deterministic' (their statements: YtcjmbpchdeapiaaDoorTotals.lean).
  GIVEN WITH THE SEED: the statements are not yours to turn. If you find one false, say at which input.
  Laid BY PROGRAM, IN A SANDBOX (cutbox-rows.mjs): the forced cells as the released guide's own fill.sh prints them over the translation 37d4d44f337b4856… (all of the seat's roots in one cut). By AI agents, Wed Nov 11 2026. No macro, syntax, notation, axiom, sorry.
-/
import Derived.Test.YtcjmbpchdeapiaaDoorChecked
import GoSem.Claim
import GoSem.ClaimJoined
import GoSem.ClaimMapViews
import Derived.JoinedTies
import Derived.KernelRfl
namespace Go.Proofs.YtcjmbpchdeapiaaDoor
/- THE CELL 'sum', in the pinned program and in every row, IS THE sha256 OF THE DUMP (.gsa) THAT YtcjmbpchdeapiaaDoorProg.lean LOADS. Nothing in Lean hashes anything: it is a label: what it is worth is what the hold of that sum in a sandbox is worth. -/
noncomputable def Tryd.pinned : Pinned := { name := "ytcjmbpchdeapiaadoor", sum := "37d4d44f337b4856f3dfdad289ec771f1482ea7923aa6eede31e40d0779c3352", checked := Tryd.checked }
namespace Rows
def none {H : Type} : Left H := { results := [], args := [] }

/- WHAT THE LISTED PACKAGE-LEVEL VARIABLES READ AS WHEN THE CALL BEGINS. Each datum BY PROGRAM (the guide's laid-datum.mjs) off the statement by which the dump's own 'gosem.cut.vars' lays the variable. In a bare row this is a premise. The card (YtcjmbpchdeapiaaDoorCards.lean) ties it to the program's text. -/
def laid_math_bits_deBruijn32tab {H : Type} : DataW H := .agg [.lit (.int .u8 0), .lit (.int .u8 1), .lit (.int .u8 28), .lit (.int .u8 2), .lit (.int .u8 29), .lit (.int .u8 14), .lit (.int .u8 24), .lit (.int .u8 3), .lit (.int .u8 30), .lit (.int .u8 22), .lit (.int .u8 20), .lit (.int .u8 15), .lit (.int .u8 25), .lit (.int .u8 17), .lit (.int .u8 4), .lit (.int .u8 8), .lit (.int .u8 31), .lit (.int .u8 27), .lit (.int .u8 13), .lit (.int .u8 23), .lit (.int .u8 21), .lit (.int .u8 19), .lit (.int .u8 16), .lit (.int .u8 7), .lit (.int .u8 26), .lit (.int .u8 12), .lit (.int .u8 18), .lit (.int .u8 6), .lit (.int .u8 11), .lit (.int .u8 5), .lit (.int .u8 10), .lit (.int .u8 9)]
def laid_math_bits_deBruijn64tab {H : Type} : DataW H := .agg [.lit (.int .u8 0), .lit (.int .u8 1), .lit (.int .u8 56), .lit (.int .u8 2), .lit (.int .u8 57), .lit (.int .u8 49), .lit (.int .u8 28), .lit (.int .u8 3), .lit (.int .u8 61), .lit (.int .u8 58), .lit (.int .u8 42), .lit (.int .u8 50), .lit (.int .u8 38), .lit (.int .u8 29), .lit (.int .u8 17), .lit (.int .u8 4), .lit (.int .u8 62), .lit (.int .u8 47), .lit (.int .u8 59), .lit (.int .u8 36), .lit (.int .u8 45), .lit (.int .u8 43), .lit (.int .u8 51), .lit (.int .u8 22), .lit (.int .u8 53), .lit (.int .u8 39), .lit (.int .u8 33), .lit (.int .u8 30), .lit (.int .u8 24), .lit (.int .u8 18), .lit (.int .u8 12), .lit (.int .u8 5), .lit (.int .u8 63), .lit (.int .u8 55), .lit (.int .u8 48), .lit (.int .u8 27), .lit (.int .u8 60), .lit (.int .u8 41), .lit (.int .u8 37), .lit (.int .u8 16), .lit (.int .u8 46), .lit (.int .u8 35), .lit (.int .u8 44), .lit (.int .u8 21), .lit (.int .u8 52), .lit (.int .u8 32), .lit (.int .u8 23), .lit (.int .u8 11), .lit (.int .u8 54), .lit (.int .u8 26), .lit (.int .u8 40), .lit (.int .u8 15), .lit (.int .u8 34), .lit (.int .u8 20), .lit (.int .u8 31), .lit (.int .u8 10), .lit (.int .u8 25), .lit (.int .u8 14), .lit (.int .u8 19), .lit (.int .u8 9), .lit (.int .u8 13), .lit (.int .u8 8), .lit (.int .u8 7), .lit (.int .u8 6)]
def laid_internal_strconv_uint64pow10 {H : Type} : DataW H := .agg [.lit (.int .u64 1), .lit (.int .u64 10), .lit (.int .u64 100), .lit (.int .u64 1000), .lit (.int .u64 10000), .lit (.int .u64 100000), .lit (.int .u64 1000000), .lit (.int .u64 10000000), .lit (.int .u64 100000000), .lit (.int .u64 1000000000), .lit (.int .u64 10000000000), .lit (.int .u64 100000000000), .lit (.int .u64 1000000000000), .lit (.int .u64 10000000000000), .lit (.int .u64 100000000000000), .lit (.int .u64 1000000000000000), .lit (.int .u64 10000000000000000), .lit (.int .u64 100000000000000000), .lit (.int .u64 1000000000000000000), .lit (.int .u64 10000000000000000000)]
def laid_vouch_op_names0 {H : Type} : DataW H := .agg [.lit (.string [83, 84, 79, 80]), .lit (.string [65, 68, 68]), .lit (.string [77, 85, 76]), .lit (.string [83, 85, 66]), .lit (.string [68, 73, 86]), .lit (.string [83, 68, 73, 86]), .lit (.string [77, 79, 68]), .lit (.string [83, 77, 79, 68]), .lit (.string [65, 68, 68, 77, 79, 68]), .lit (.string [77, 85, 76, 77, 79, 68]), .lit (.string [69, 88, 80]), .lit (.string [83, 73, 71, 78, 69, 88, 84, 69, 78, 68]), .lit (.string []), .lit (.string []), .lit (.string []), .lit (.string [])]
def laid_vouch_op_names1 {H : Type} : DataW H := .agg [.lit (.string [76, 84]), .lit (.string [71, 84]), .lit (.string [83, 76, 84]), .lit (.string [83, 71, 84]), .lit (.string [69, 81]), .lit (.string [73, 83, 90, 69, 82, 79]), .lit (.string [65, 78, 68]), .lit (.string [79, 82]), .lit (.string [88, 79, 82]), .lit (.string [78, 79, 84]), .lit (.string [66, 89, 84, 69]), .lit (.string [83, 72, 76]), .lit (.string [83, 72, 82]), .lit (.string [83, 65, 82]), .lit (.string [67, 76, 90]), .lit (.string [])]
def laid_vouch_op_names3 {H : Type} : DataW H := .agg [.lit (.string [65, 68, 68, 82, 69, 83, 83]), .lit (.string [66, 65, 76, 65, 78, 67, 69]), .lit (.string [79, 82, 73, 71, 73, 78]), .lit (.string [67, 65, 76, 76, 69, 82]), .lit (.string [67, 65, 76, 76, 86, 65, 76, 85, 69]), .lit (.string [67, 65, 76, 76, 68, 65, 84, 65, 76, 79, 65, 68]), .lit (.string [67, 65, 76, 76, 68, 65, 84, 65, 83, 73, 90, 69]), .lit (.string [67, 65, 76, 76, 68, 65, 84, 65, 67, 79, 80, 89]), .lit (.string []), .lit (.string []), .lit (.string [71, 65, 83, 80, 82, 73, 67, 69]), .lit (.string []), .lit (.string []), .lit (.string [82, 69, 84, 85, 82, 78, 68, 65, 84, 65, 83, 73, 90, 69]), .lit (.string [82, 69, 84, 85, 82, 78, 68, 65, 84, 65, 67, 79, 80, 89]), .lit (.string [])]
def laid_vouch_op_names4 {H : Type} : DataW H := .agg [.lit (.string [66, 76, 79, 67, 75, 72, 65, 83, 72]), .lit (.string [67, 79, 73, 78, 66, 65, 83, 69]), .lit (.string [84, 73, 77, 69, 83, 84, 65, 77, 80]), .lit (.string [78, 85, 77, 66, 69, 82]), .lit (.string [80, 82, 69, 86, 82, 65, 78, 68, 65, 79]), .lit (.string [71, 65, 83, 76, 73, 77, 73, 84]), .lit (.string [67, 72, 65, 73, 78, 73, 68]), .lit (.string [83, 69, 76, 70, 66, 65, 76, 65, 78, 67, 69]), .lit (.string [66, 65, 83, 69, 70, 69, 69]), .lit (.string [66, 76, 79, 66, 72, 65, 83, 72]), .lit (.string [66, 76, 79, 66, 66, 65, 83, 69, 70, 69, 69]), .lit (.string []), .lit (.string []), .lit (.string []), .lit (.string []), .lit (.string [])]
def laid_vouch_op_names5 {H : Type} : DataW H := .agg [.lit (.string [80, 79, 80]), .lit (.string [77, 76, 79, 65, 68]), .lit (.string [77, 83, 84, 79, 82, 69]), .lit (.string [77, 83, 84, 79, 82, 69, 56]), .lit (.string [83, 76, 79, 65, 68]), .lit (.string [83, 83, 84, 79, 82, 69]), .lit (.string []), .lit (.string []), .lit (.string []), .lit (.string [77, 83, 73, 90, 69]), .lit (.string []), .lit (.string [78, 79, 80]), .lit (.string [84, 76, 79, 65, 68]), .lit (.string [84, 83, 84, 79, 82, 69]), .lit (.string [77, 67, 79, 80, 89]), .lit (.string [80, 85, 83, 72, 48])]
def laid_vouch_op_namesD {H : Type} : DataW H := .agg [.lit (.string [68, 65, 84, 65, 76, 79, 65, 68]), .lit (.string [68, 65, 84, 65, 76, 79, 65, 68, 78]), .lit (.string [68, 65, 84, 65, 83, 73, 90, 69]), .lit (.string [68, 65, 84, 65, 67, 79, 80, 89]), .lit (.string []), .lit (.string []), .lit (.string []), .lit (.string []), .lit (.string []), .lit (.string []), .lit (.string []), .lit (.string []), .lit (.string []), .lit (.string []), .lit (.string []), .lit (.string [])]
def laid_vouch_op_namesE {H : Type} : DataW H := .agg [.lit (.string [82, 74, 85, 77, 80]), .lit (.string [82, 74, 85, 77, 80, 73]), .lit (.string [82, 74, 85, 77, 80, 86]), .lit (.string [67, 65, 76, 76, 70]), .lit (.string [82, 69, 84, 70]), .lit (.string [74, 85, 77, 80, 70]), .lit (.string [68, 85, 80, 78]), .lit (.string [83, 87, 65, 80, 78]), .lit (.string [69, 88, 67, 72, 65, 78, 71, 69]), .lit (.string []), .lit (.string []), .lit (.string []), .lit (.string [69, 79, 70, 67, 82, 69, 65, 84, 69]), .lit (.string []), .lit (.string [82, 69, 84, 85, 82, 78, 67, 79, 68, 69]), .lit (.string [])]
def laid_vouch_op_namesF {H : Type} : DataW H := .agg [.lit (.string []), .lit (.string []), .lit (.string []), .lit (.string [82, 69, 84, 85, 82, 78]), .lit (.string []), .lit (.string []), .lit (.string []), .lit (.string [82, 69, 84, 85, 82, 78, 68, 65, 84, 65, 76, 79, 65, 68]), .lit (.string [69, 88, 84, 67, 65, 76, 76]), .lit (.string [69, 88, 84, 68, 69, 76, 69, 71, 65, 84, 69, 67, 65, 76, 76]), .lit (.string []), .lit (.string [69, 88, 84, 83, 84, 65, 84, 73, 67, 67, 65, 76, 76]), .lit (.string []), .lit (.string [82, 69, 86, 69, 82, 84]), .lit (.string [73, 78, 86, 65, 76, 73, 68]), .lit (.string [])]

/-- 'vouchlaw6.CodePlays': WHATEVER THE INPUT: true; the input reads as it did. -/
def codePlaysSpec : ChangeSpec := { name := "codePlays", fn := fun _ => fun
  | [d1, d2] => { results := [.lit (.bool true)], args := [d1, d2] }
  | _ => none }
def codePlaysRow : OpenClaim := { program := "ytcjmbpchdeapiaadoor", sum := "37d4d44f337b4856f3dfdad289ec771f1482ea7923aa6eede31e40d0779c3352", func := "vouch/vouchlaw6.CodePlays", spec := "codePlays", unfollowed := true, recurses := true, named := ["internal/strconv.uint64pow10", "math/bits.deBruijn32tab", "math/bits.deBruijn64tab", "vouch/op.names0", "vouch/op.names1", "vouch/op.names3", "vouch/op.names4", "vouch/op.names5", "vouch/op.namesD", "vouch/op.namesE", "vouch/op.namesF"], apart := false, laid := [("math/bits.deBruijn32tab", laid_math_bits_deBruijn32tab), ("math/bits.deBruijn64tab", laid_math_bits_deBruijn64tab), ("internal/strconv.uint64pow10", laid_internal_strconv_uint64pow10), ("vouch/op.names0", laid_vouch_op_names0), ("vouch/op.names1", laid_vouch_op_names1), ("vouch/op.names3", laid_vouch_op_names3), ("vouch/op.names4", laid_vouch_op_names4), ("vouch/op.names5", laid_vouch_op_names5), ("vouch/op.namesD", laid_vouch_op_namesD), ("vouch/op.namesE", laid_vouch_op_namesE), ("vouch/op.namesF", laid_vouch_op_namesF)] }
def CodePlaysSaid : Prop := codePlaysRow.holds Tryd.pinned (OpenSpec.ofChange codePlaysSpec)

/-- ITS FALSE NEIGHBOUR: 'it returns false'. Refute it at one input. -/
def codePlaysWrong : ChangeSpec := { name := "codePlays", fn := fun _ => fun
  | [d1, d2] => { results := [.lit (.bool false)], args := [d1, d2] }
  | _ => none }
def CodePlaysWrongFalsely : Prop := codePlaysRow.holds Tryd.pinned (OpenSpec.ofChange codePlaysWrong)

/-- 'vouchlaw6.CodeAgrees': WHATEVER THE INPUT: true; the input reads as it did. -/
def codeAgreesSpec : ChangeSpec := { name := "codeAgrees", fn := fun _ => fun
  | [d] => { results := [.lit (.bool true)], args := [d] }
  | _ => none }
def codeAgreesRow : OpenClaim := { program := "ytcjmbpchdeapiaadoor", sum := "37d4d44f337b4856f3dfdad289ec771f1482ea7923aa6eede31e40d0779c3352", func := "vouch/vouchlaw6.CodeAgrees", spec := "codeAgrees", unfollowed := true, recurses := true, named := ["internal/strconv.uint64pow10", "math/bits.deBruijn32tab", "math/bits.deBruijn64tab", "vouch/op.names0", "vouch/op.names1", "vouch/op.names3", "vouch/op.names4", "vouch/op.names5", "vouch/op.namesD", "vouch/op.namesE", "vouch/op.namesF"], apart := false, laid := [("math/bits.deBruijn32tab", laid_math_bits_deBruijn32tab), ("math/bits.deBruijn64tab", laid_math_bits_deBruijn64tab), ("internal/strconv.uint64pow10", laid_internal_strconv_uint64pow10), ("vouch/op.names0", laid_vouch_op_names0), ("vouch/op.names1", laid_vouch_op_names1), ("vouch/op.names3", laid_vouch_op_names3), ("vouch/op.names4", laid_vouch_op_names4), ("vouch/op.names5", laid_vouch_op_names5), ("vouch/op.namesD", laid_vouch_op_namesD), ("vouch/op.namesE", laid_vouch_op_namesE), ("vouch/op.namesF", laid_vouch_op_namesF)] }
def CodeAgreesSaid : Prop := codeAgreesRow.holds Tryd.pinned (OpenSpec.ofChange codeAgreesSpec)

/-- ITS FALSE NEIGHBOUR: 'it returns false'. Refute it at one input. -/
def codeAgreesWrong : ChangeSpec := { name := "codeAgrees", fn := fun _ => fun
  | [d] => { results := [.lit (.bool false)], args := [d] }
  | _ => none }
def CodeAgreesWrongFalsely : Prop := codeAgreesRow.holds Tryd.pinned (OpenSpec.ofChange codeAgreesWrong)

/-- 'vouchlaw6.CodeWithin': WHATEVER THE INPUT: true; the input reads as it did. -/
def codeWithinSpec : ChangeSpec := { name := "codeWithin", fn := fun _ => fun
  | [d1, d2] => { results := [.lit (.bool true)], args := [d1, d2] }
  | _ => none }
def codeWithinRow : OpenClaim := { program := "ytcjmbpchdeapiaadoor", sum := "37d4d44f337b4856f3dfdad289ec771f1482ea7923aa6eede31e40d0779c3352", func := "vouch/vouchlaw6.CodeWithin", spec := "codeWithin", unfollowed := true, recurses := true, named := ["internal/strconv.uint64pow10", "math/bits.deBruijn32tab", "math/bits.deBruijn64tab", "vouch/op.names0", "vouch/op.names1", "vouch/op.names3", "vouch/op.names4", "vouch/op.names5", "vouch/op.namesD", "vouch/op.namesE", "vouch/op.namesF"], apart := false, laid := [("math/bits.deBruijn32tab", laid_math_bits_deBruijn32tab), ("math/bits.deBruijn64tab", laid_math_bits_deBruijn64tab), ("internal/strconv.uint64pow10", laid_internal_strconv_uint64pow10), ("vouch/op.names0", laid_vouch_op_names0), ("vouch/op.names1", laid_vouch_op_names1), ("vouch/op.names3", laid_vouch_op_names3), ("vouch/op.names4", laid_vouch_op_names4), ("vouch/op.names5", laid_vouch_op_names5), ("vouch/op.namesD", laid_vouch_op_namesD), ("vouch/op.namesE", laid_vouch_op_namesE), ("vouch/op.namesF", laid_vouch_op_namesF)] }
def CodeWithinSaid : Prop := codeWithinRow.holds Tryd.pinned (OpenSpec.ofChange codeWithinSpec)

/-- ITS FALSE NEIGHBOUR: 'it returns false'. Refute it at one input. -/
def codeWithinWrong : ChangeSpec := { name := "codeWithin", fn := fun _ => fun
  | [d1, d2] => { results := [.lit (.bool false)], args := [d1, d2] }
  | _ => none }
def CodeWithinWrongFalsely : Prop := codeWithinRow.holds Tryd.pinned (OpenSpec.ofChange codeWithinWrong)

/-- 'vouchlaw6.CodeOwn': WHATEVER THE INPUT: true; the input reads as it did. -/
def codeOwnSpec : ChangeSpec := { name := "codeOwn", fn := fun _ => fun
  | [d] => { results := [.lit (.bool true)], args := [d] }
  | _ => none }
def codeOwnRow : OpenClaim := { program := "ytcjmbpchdeapiaadoor", sum := "37d4d44f337b4856f3dfdad289ec771f1482ea7923aa6eede31e40d0779c3352", func := "vouch/vouchlaw6.CodeOwn", spec := "codeOwn", unfollowed := true, recurses := true, named := ["internal/strconv.uint64pow10", "math/bits.deBruijn32tab", "math/bits.deBruijn64tab", "vouch/op.names0", "vouch/op.names1", "vouch/op.names3", "vouch/op.names4", "vouch/op.names5", "vouch/op.namesD", "vouch/op.namesE", "vouch/op.namesF"], apart := false, laid := [("math/bits.deBruijn32tab", laid_math_bits_deBruijn32tab), ("math/bits.deBruijn64tab", laid_math_bits_deBruijn64tab), ("internal/strconv.uint64pow10", laid_internal_strconv_uint64pow10), ("vouch/op.names0", laid_vouch_op_names0), ("vouch/op.names1", laid_vouch_op_names1), ("vouch/op.names3", laid_vouch_op_names3), ("vouch/op.names4", laid_vouch_op_names4), ("vouch/op.names5", laid_vouch_op_names5), ("vouch/op.namesD", laid_vouch_op_namesD), ("vouch/op.namesE", laid_vouch_op_namesE), ("vouch/op.namesF", laid_vouch_op_namesF)] }
def CodeOwnSaid : Prop := codeOwnRow.holds Tryd.pinned (OpenSpec.ofChange codeOwnSpec)

/-- ITS FALSE NEIGHBOUR: 'it returns false'. Refute it at one input. -/
def codeOwnWrong : ChangeSpec := { name := "codeOwn", fn := fun _ => fun
  | [d] => { results := [.lit (.bool false)], args := [d] }
  | _ => none }
def CodeOwnWrongFalsely : Prop := codeOwnRow.holds Tryd.pinned (OpenSpec.ofChange codeOwnWrong)

/- THE SECOND FORM. 'bulk': how many values and letters a reading holds, each counted each time it is reached (what is shared counts as often as it is met; a slice's spare places count too). A statement '..UptoSaid' is the law's where the arguments, and the package variables that the reading takes, are together of bulk at most 1048576: NARROWER than '..Said'. Prove '..Said' where nothing that the law and all that it calls make is longer than what came in: it says more and counts as full. Else prove '..UptoSaid'. A law counts once. -/
mutual
def uptoBulk {H : Type} : DataW H → Nat
  | .lit (.string bytes) => bytes.length + 1
  | .lit _ => 1
  | .nil => 1
  | .ptr d => uptoBulk d + 1
  | .slice elems spare => uptoBulkAll elems + uptoBulkAll spare + 1
  | .agg parts => uptoBulkAll parts + 1
  | .iface _ d => uptoBulk d + 1
  | .map entries => uptoBulkEntries entries + 1
  | .held _ => 1
def uptoBulkAll {H : Type} : List (DataW H) → Nat
  | [] => 0
  | d :: r => uptoBulk d + uptoBulkAll r
def uptoBulkEntries {H : Type} : List (Lit × DataW H) → Nat
  | [] => 0
  | x :: r => uptoBulkEntry x + uptoBulkEntries r
def uptoBulkEntry {H : Type} : Lit × DataW H → Nat
  | (.string bytes, d) => bytes.length + uptoBulk d + 1
  | (_, d) => uptoBulk d + 1
 end
def uptoSmall : (H : Type) → List (DataW H) → Bool := fun _ ds => decide (uptoBulkAll ds ≤ 1048576)
def OpenSpec.upto (s : _root_.Go.ChangeSpec) : _root_.Go.OpenSpec := { _root_.Go.OpenSpec.ofChange s with cond := some uptoSmall }

/-- 'vouchlaw6.CodePlays', WHERE WHAT IT READS IS OF BULK AT MOST 1048576: true; the input reads as it did. -/
def codePlaysUptoRow : OpenClaim := { program := "ytcjmbpchdeapiaadoor", sum := "37d4d44f337b4856f3dfdad289ec771f1482ea7923aa6eede31e40d0779c3352", func := "vouch/vouchlaw6.CodePlays", spec := "codePlays", unfollowed := true, recurses := true, named := ["internal/strconv.uint64pow10", "math/bits.deBruijn32tab", "math/bits.deBruijn64tab", "vouch/op.names0", "vouch/op.names1", "vouch/op.names3", "vouch/op.names4", "vouch/op.names5", "vouch/op.namesD", "vouch/op.namesE", "vouch/op.namesF"], apart := false, laid := [("math/bits.deBruijn32tab", laid_math_bits_deBruijn32tab), ("math/bits.deBruijn64tab", laid_math_bits_deBruijn64tab), ("internal/strconv.uint64pow10", laid_internal_strconv_uint64pow10), ("vouch/op.names0", laid_vouch_op_names0), ("vouch/op.names1", laid_vouch_op_names1), ("vouch/op.names3", laid_vouch_op_names3), ("vouch/op.names4", laid_vouch_op_names4), ("vouch/op.names5", laid_vouch_op_names5), ("vouch/op.namesD", laid_vouch_op_namesD), ("vouch/op.namesE", laid_vouch_op_namesE), ("vouch/op.namesF", laid_vouch_op_namesF)], narrowed := true }
def CodePlaysUptoSaid : Prop := codePlaysUptoRow.holds Tryd.pinned (OpenSpec.upto codePlaysSpec)

/-- 'vouchlaw6.CodeAgrees', WHERE WHAT IT READS IS OF BULK AT MOST 1048576: true; the input reads as it did. -/
def codeAgreesUptoRow : OpenClaim := { program := "ytcjmbpchdeapiaadoor", sum := "37d4d44f337b4856f3dfdad289ec771f1482ea7923aa6eede31e40d0779c3352", func := "vouch/vouchlaw6.CodeAgrees", spec := "codeAgrees", unfollowed := true, recurses := true, named := ["internal/strconv.uint64pow10", "math/bits.deBruijn32tab", "math/bits.deBruijn64tab", "vouch/op.names0", "vouch/op.names1", "vouch/op.names3", "vouch/op.names4", "vouch/op.names5", "vouch/op.namesD", "vouch/op.namesE", "vouch/op.namesF"], apart := false, laid := [("math/bits.deBruijn32tab", laid_math_bits_deBruijn32tab), ("math/bits.deBruijn64tab", laid_math_bits_deBruijn64tab), ("internal/strconv.uint64pow10", laid_internal_strconv_uint64pow10), ("vouch/op.names0", laid_vouch_op_names0), ("vouch/op.names1", laid_vouch_op_names1), ("vouch/op.names3", laid_vouch_op_names3), ("vouch/op.names4", laid_vouch_op_names4), ("vouch/op.names5", laid_vouch_op_names5), ("vouch/op.namesD", laid_vouch_op_namesD), ("vouch/op.namesE", laid_vouch_op_namesE), ("vouch/op.namesF", laid_vouch_op_namesF)], narrowed := true }
def CodeAgreesUptoSaid : Prop := codeAgreesUptoRow.holds Tryd.pinned (OpenSpec.upto codeAgreesSpec)

/-- 'vouchlaw6.CodeWithin', WHERE WHAT IT READS IS OF BULK AT MOST 1048576: true; the input reads as it did. -/
def codeWithinUptoRow : OpenClaim := { program := "ytcjmbpchdeapiaadoor", sum := "37d4d44f337b4856f3dfdad289ec771f1482ea7923aa6eede31e40d0779c3352", func := "vouch/vouchlaw6.CodeWithin", spec := "codeWithin", unfollowed := true, recurses := true, named := ["internal/strconv.uint64pow10", "math/bits.deBruijn32tab", "math/bits.deBruijn64tab", "vouch/op.names0", "vouch/op.names1", "vouch/op.names3", "vouch/op.names4", "vouch/op.names5", "vouch/op.namesD", "vouch/op.namesE", "vouch/op.namesF"], apart := false, laid := [("math/bits.deBruijn32tab", laid_math_bits_deBruijn32tab), ("math/bits.deBruijn64tab", laid_math_bits_deBruijn64tab), ("internal/strconv.uint64pow10", laid_internal_strconv_uint64pow10), ("vouch/op.names0", laid_vouch_op_names0), ("vouch/op.names1", laid_vouch_op_names1), ("vouch/op.names3", laid_vouch_op_names3), ("vouch/op.names4", laid_vouch_op_names4), ("vouch/op.names5", laid_vouch_op_names5), ("vouch/op.namesD", laid_vouch_op_namesD), ("vouch/op.namesE", laid_vouch_op_namesE), ("vouch/op.namesF", laid_vouch_op_namesF)], narrowed := true }
def CodeWithinUptoSaid : Prop := codeWithinUptoRow.holds Tryd.pinned (OpenSpec.upto codeWithinSpec)

/-- 'vouchlaw6.CodeOwn', WHERE WHAT IT READS IS OF BULK AT MOST 1048576: true; the input reads as it did. -/
def codeOwnUptoRow : OpenClaim := { program := "ytcjmbpchdeapiaadoor", sum := "37d4d44f337b4856f3dfdad289ec771f1482ea7923aa6eede31e40d0779c3352", func := "vouch/vouchlaw6.CodeOwn", spec := "codeOwn", unfollowed := true, recurses := true, named := ["internal/strconv.uint64pow10", "math/bits.deBruijn32tab", "math/bits.deBruijn64tab", "vouch/op.names0", "vouch/op.names1", "vouch/op.names3", "vouch/op.names4", "vouch/op.names5", "vouch/op.namesD", "vouch/op.namesE", "vouch/op.namesF"], apart := false, laid := [("math/bits.deBruijn32tab", laid_math_bits_deBruijn32tab), ("math/bits.deBruijn64tab", laid_math_bits_deBruijn64tab), ("internal/strconv.uint64pow10", laid_internal_strconv_uint64pow10), ("vouch/op.names0", laid_vouch_op_names0), ("vouch/op.names1", laid_vouch_op_names1), ("vouch/op.names3", laid_vouch_op_names3), ("vouch/op.names4", laid_vouch_op_names4), ("vouch/op.names5", laid_vouch_op_names5), ("vouch/op.namesD", laid_vouch_op_namesD), ("vouch/op.namesE", laid_vouch_op_namesE), ("vouch/op.namesF", laid_vouch_op_namesF)], narrowed := true }
def CodeOwnUptoSaid : Prop := codeOwnUptoRow.holds Tryd.pinned (OpenSpec.upto codeOwnSpec)

end Rows
end Go.Proofs.YtcjmbpchdeapiaaDoor
