/-
  NARROWER THAN 'FOR EVERY INPUT', by the rows' own cells (each row's printed sentence says how): CodeOnes: laid · CodeLeads: laid · CodeChecks: laid · CodePlays: laid · CodeWhole: laid · CodeLocal: laid · CodeAgrees: laid · CodeTargets: laid · CodeJumps: laid · CodeWithin: laid · CodeOwn: laid · CodeLent: laid · FlowHeights: laid · FlowMost: laid · FlowReturns: laid · FlowAll: laid · FlowJudged: laid · FlowWalks: laid · FlowMet: laid · FlowMoved: laid · FlowNamed: laid · FlowStraight: laid · FlowFresh: laid · OpAll: laid.
  DERIVED. THE GIVEN ROWS OF THIS SEAT. 24 by the template 'for every input the law returns true; each argument reads behind the call as it read before'; 0 by the template 'total and deterministic' (their statements: YtbhldmfnhlifpaaDoorTotals.lean).
  GIVEN WITH THE SEED: the statements are not yours to turn. If you find one false, say at which input.
  Laid BY PROGRAM, IN A SANDBOX (cutbox-rows.mjs): the forced cells as the released guide's own fill.sh prints them over the translation 3b5edfe1c3dd51e2… (all of the seat's roots in one cut). By AI agents, Wed Nov 11 2026. No macro, syntax, notation, axiom, sorry.
-/
import Derived.Test.YtbhldmfnhlifpaaDoorChecked
import GoSem.Claim
import GoSem.ClaimJoined
import GoSem.ClaimMapViews
import Derived.JoinedTies
import Derived.KernelRfl
namespace Go.Proofs.YtbhldmfnhlifpaaDoor
/- THE CELL 'sum', in the pinned program and in every row, IS THE sha256 OF THE DUMP (.gsa) THAT YtbhldmfnhlifpaaDoorProg.lean LOADS. Nothing in Lean hashes anything: it is a label: what it is worth is what the hold of that sum in a sandbox is worth. -/
noncomputable def Tryd.pinned : Pinned := { name := "ytbhldmfnhlifpaadoor", sum := "3b5edfe1c3dd51e228c91f415fed2fd7affae2d036662c064d2d8139a0869d72", checked := Tryd.checked }
namespace Rows
def none {H : Type} : Left H := { results := [], args := [] }

/- WHAT THE LISTED PACKAGE-LEVEL VARIABLES READ AS WHEN THE CALL BEGINS. Each datum BY PROGRAM (the guide's laid-datum.mjs) off the statement by which the dump's own 'gosem.cut.vars' lays the variable. In a bare row this is a premise. The card (YtbhldmfnhlifpaaDoorCards.lean) ties it to the program's text. -/
def laid_math_bits_deBruijn32tab {H : Type} : DataW H := .agg [.lit (.int .u8 0), .lit (.int .u8 1), .lit (.int .u8 28), .lit (.int .u8 2), .lit (.int .u8 29), .lit (.int .u8 14), .lit (.int .u8 24), .lit (.int .u8 3), .lit (.int .u8 30), .lit (.int .u8 22), .lit (.int .u8 20), .lit (.int .u8 15), .lit (.int .u8 25), .lit (.int .u8 17), .lit (.int .u8 4), .lit (.int .u8 8), .lit (.int .u8 31), .lit (.int .u8 27), .lit (.int .u8 13), .lit (.int .u8 23), .lit (.int .u8 21), .lit (.int .u8 19), .lit (.int .u8 16), .lit (.int .u8 7), .lit (.int .u8 26), .lit (.int .u8 12), .lit (.int .u8 18), .lit (.int .u8 6), .lit (.int .u8 11), .lit (.int .u8 5), .lit (.int .u8 10), .lit (.int .u8 9)]
def laid_math_bits_deBruijn64tab {H : Type} : DataW H := .agg [.lit (.int .u8 0), .lit (.int .u8 1), .lit (.int .u8 56), .lit (.int .u8 2), .lit (.int .u8 57), .lit (.int .u8 49), .lit (.int .u8 28), .lit (.int .u8 3), .lit (.int .u8 61), .lit (.int .u8 58), .lit (.int .u8 42), .lit (.int .u8 50), .lit (.int .u8 38), .lit (.int .u8 29), .lit (.int .u8 17), .lit (.int .u8 4), .lit (.int .u8 62), .lit (.int .u8 47), .lit (.int .u8 59), .lit (.int .u8 36), .lit (.int .u8 45), .lit (.int .u8 43), .lit (.int .u8 51), .lit (.int .u8 22), .lit (.int .u8 53), .lit (.int .u8 39), .lit (.int .u8 33), .lit (.int .u8 30), .lit (.int .u8 24), .lit (.int .u8 18), .lit (.int .u8 12), .lit (.int .u8 5), .lit (.int .u8 63), .lit (.int .u8 55), .lit (.int .u8 48), .lit (.int .u8 27), .lit (.int .u8 60), .lit (.int .u8 41), .lit (.int .u8 37), .lit (.int .u8 16), .lit (.int .u8 46), .lit (.int .u8 35), .lit (.int .u8 44), .lit (.int .u8 21), .lit (.int .u8 52), .lit (.int .u8 32), .lit (.int .u8 23), .lit (.int .u8 11), .lit (.int .u8 54), .lit (.int .u8 26), .lit (.int .u8 40), .lit (.int .u8 15), .lit (.int .u8 34), .lit (.int .u8 20), .lit (.int .u8 31), .lit (.int .u8 10), .lit (.int .u8 25), .lit (.int .u8 14), .lit (.int .u8 19), .lit (.int .u8 9), .lit (.int .u8 13), .lit (.int .u8 8), .lit (.int .u8 7), .lit (.int .u8 6)]
def laid_internal_strconv_uint64pow10 {H : Type} : DataW H := .agg [.lit (.int .u64 1), .lit (.int .u64 10), .lit (.int .u64 100), .lit (.int .u64 1000), .lit (.int .u64 10000), .lit (.int .u64 100000), .lit (.int .u64 1000000), .lit (.int .u64 10000000), .lit (.int .u64 100000000), .lit (.int .u64 1000000000), .lit (.int .u64 10000000000), .lit (.int .u64 100000000000), .lit (.int .u64 1000000000000), .lit (.int .u64 10000000000000), .lit (.int .u64 100000000000000), .lit (.int .u64 1000000000000000), .lit (.int .u64 10000000000000000), .lit (.int .u64 100000000000000000), .lit (.int .u64 1000000000000000000), .lit (.int .u64 10000000000000000000)]
def laid_vouch_op_names0 {H : Type} : DataW H := .agg [.lit (.string [83, 84, 79, 80]), .lit (.string [65, 68, 68]), .lit (.string [77, 85, 76]), .lit (.string [83, 85, 66]), .lit (.string [68, 73, 86]), .lit (.string [83, 68, 73, 86]), .lit (.string [77, 79, 68]), .lit (.string [83, 77, 79, 68]), .lit (.string [65, 68, 68, 77, 79, 68]), .lit (.string [77, 85, 76, 77, 79, 68]), .lit (.string [69, 88, 80]), .lit (.string [83, 73, 71, 78, 69, 88, 84, 69, 78, 68]), .lit (.string []), .lit (.string []), .lit (.string []), .lit (.string [])]
def laid_vouch_op_names1 {H : Type} : DataW H := .agg [.lit (.string [76, 84]), .lit (.string [71, 84]), .lit (.string [83, 76, 84]), .lit (.string [83, 71, 84]), .lit (.string [69, 81]), .lit (.string [73, 83, 90, 69, 82, 79]), .lit (.string [65, 78, 68]), .lit (.string [79, 82]), .lit (.string [88, 79, 82]), .lit (.string [78, 79, 84]), .lit (.string [66, 89, 84, 69]), .lit (.string [83, 72, 76]), .lit (.string [83, 72, 82]), .lit (.string [83, 65, 82]), .lit (.string [67, 76, 90]), .lit (.string [])]
def laid_vouch_op_names3 {H : Type} : DataW H := .agg [.lit (.string [65, 68, 68, 82, 69, 83, 83]), .lit (.string [66, 65, 76, 65, 78, 67, 69]), .lit (.string [79, 82, 73, 71, 73, 78]), .lit (.string [67, 65, 76, 76, 69, 82]), .lit (.string [67, 65, 76, 76, 86, 65, 76, 85, 69]), .lit (.string [67, 65, 76, 76, 68, 65, 84, 65, 76, 79, 65, 68]), .lit (.string [67, 65, 76, 76, 68, 65, 84, 65, 83, 73, 90, 69]), .lit (.string [67, 65, 76, 76, 68, 65, 84, 65, 67, 79, 80, 89]), .lit (.string []), .lit (.string []), .lit (.string [71, 65, 83, 80, 82, 73, 67, 69]), .lit (.string []), .lit (.string []), .lit (.string [82, 69, 84, 85, 82, 78, 68, 65, 84, 65, 83, 73, 90, 69]), .lit (.string [82, 69, 84, 85, 82, 78, 68, 65, 84, 65, 67, 79, 80, 89]), .lit (.string [])]
def laid_vouch_op_names4 {H : Type} : DataW H := .agg [.lit (.string [66, 76, 79, 67, 75, 72, 65, 83, 72]), .lit (.string [67, 79, 73, 78, 66, 65, 83, 69]), .lit (.string [84, 73, 77, 69, 83, 84, 65, 77, 80]), .lit (.string [78, 85, 77, 66, 69, 82]), .lit (.string [80, 82, 69, 86, 82, 65, 78, 68, 65, 79]), .lit (.string [71, 65, 83, 76, 73, 77, 73, 84]), .lit (.string [67, 72, 65, 73, 78, 73, 68]), .lit (.string [83, 69, 76, 70, 66, 65, 76, 65, 78, 67, 69]), .lit (.string [66, 65, 83, 69, 70, 69, 69]), .lit (.string [66, 76, 79, 66, 72, 65, 83, 72]), .lit (.string [66, 76, 79, 66, 66, 65, 83, 69, 70, 69, 69]), .lit (.string []), .lit (.string []), .lit (.string []), .lit (.string []), .lit (.string [])]
def laid_vouch_op_names5 {H : Type} : DataW H := .agg [.lit (.string [80, 79, 80]), .lit (.string [77, 76, 79, 65, 68]), .lit (.string [77, 83, 84, 79, 82, 69]), .lit (.string [77, 83, 84, 79, 82, 69, 56]), .lit (.string [83, 76, 79, 65, 68]), .lit (.string [83, 83, 84, 79, 82, 69]), .lit (.string []), .lit (.string []), .lit (.string []), .lit (.string [77, 83, 73, 90, 69]), .lit (.string []), .lit (.string [78, 79, 80]), .lit (.string [84, 76, 79, 65, 68]), .lit (.string [84, 83, 84, 79, 82, 69]), .lit (.string [77, 67, 79, 80, 89]), .lit (.string [80, 85, 83, 72, 48])]
def laid_vouch_op_namesD {H : Type} : DataW H := .agg [.lit (.string [68, 65, 84, 65, 76, 79, 65, 68]), .lit (.string [68, 65, 84, 65, 76, 79, 65, 68, 78]), .lit (.string [68, 65, 84, 65, 83, 73, 90, 69]), .lit (.string [68, 65, 84, 65, 67, 79, 80, 89]), .lit (.string []), .lit (.string []), .lit (.string []), .lit (.string []), .lit (.string []), .lit (.string []), .lit (.string []), .lit (.string []), .lit (.string []), .lit (.string []), .lit (.string []), .lit (.string [])]
def laid_vouch_op_namesE {H : Type} : DataW H := .agg [.lit (.string [82, 74, 85, 77, 80]), .lit (.string [82, 74, 85, 77, 80, 73]), .lit (.string [82, 74, 85, 77, 80, 86]), .lit (.string [67, 65, 76, 76, 70]), .lit (.string [82, 69, 84, 70]), .lit (.string [74, 85, 77, 80, 70]), .lit (.string [68, 85, 80, 78]), .lit (.string [83, 87, 65, 80, 78]), .lit (.string [69, 88, 67, 72, 65, 78, 71, 69]), .lit (.string []), .lit (.string []), .lit (.string []), .lit (.string [69, 79, 70, 67, 82, 69, 65, 84, 69]), .lit (.string []), .lit (.string [82, 69, 84, 85, 82, 78, 67, 79, 68, 69]), .lit (.string [])]
def laid_vouch_op_namesF {H : Type} : DataW H := .agg [.lit (.string []), .lit (.string []), .lit (.string []), .lit (.string [82, 69, 84, 85, 82, 78]), .lit (.string []), .lit (.string []), .lit (.string []), .lit (.string [82, 69, 84, 85, 82, 78, 68, 65, 84, 65, 76, 79, 65, 68]), .lit (.string [69, 88, 84, 67, 65, 76, 76]), .lit (.string [69, 88, 84, 68, 69, 76, 69, 71, 65, 84, 69, 67, 65, 76, 76]), .lit (.string []), .lit (.string [69, 88, 84, 83, 84, 65, 84, 73, 67, 67, 65, 76, 76]), .lit (.string []), .lit (.string [82, 69, 86, 69, 82, 84]), .lit (.string [73, 78, 86, 65, 76, 73, 68]), .lit (.string [])]

/-- 'vouchlaw6.CodeOnes': WHATEVER THE INPUT: true; the input reads as it did. -/
def codeOnesSpec : ChangeSpec := { name := "codeOnes", fn := fun _ => fun
  | [d1, d2] => { results := [.lit (.bool true)], args := [d1, d2] }
  | _ => none }
def codeOnesRow : OpenClaim := { program := "ytbhldmfnhlifpaadoor", sum := "3b5edfe1c3dd51e228c91f415fed2fd7affae2d036662c064d2d8139a0869d72", func := "vouch/vouchlaw6.CodeOnes", spec := "codeOnes", unfollowed := true, recurses := true, named := ["internal/strconv.uint64pow10", "math/bits.deBruijn32tab", "math/bits.deBruijn64tab", "vouch/op.names0", "vouch/op.names1", "vouch/op.names3", "vouch/op.names4", "vouch/op.names5", "vouch/op.namesD", "vouch/op.namesE", "vouch/op.namesF"], apart := false, laid := [("math/bits.deBruijn32tab", laid_math_bits_deBruijn32tab), ("math/bits.deBruijn64tab", laid_math_bits_deBruijn64tab), ("internal/strconv.uint64pow10", laid_internal_strconv_uint64pow10), ("vouch/op.names0", laid_vouch_op_names0), ("vouch/op.names1", laid_vouch_op_names1), ("vouch/op.names3", laid_vouch_op_names3), ("vouch/op.names4", laid_vouch_op_names4), ("vouch/op.names5", laid_vouch_op_names5), ("vouch/op.namesD", laid_vouch_op_namesD), ("vouch/op.namesE", laid_vouch_op_namesE), ("vouch/op.namesF", laid_vouch_op_namesF)] }
def CodeOnesSaid : Prop := codeOnesRow.holds Tryd.pinned (OpenSpec.ofChange codeOnesSpec)

/-- ITS FALSE NEIGHBOUR: 'it returns false'. Refute it at one input. -/
def codeOnesWrong : ChangeSpec := { name := "codeOnes", fn := fun _ => fun
  | [d1, d2] => { results := [.lit (.bool false)], args := [d1, d2] }
  | _ => none }
def CodeOnesWrongFalsely : Prop := codeOnesRow.holds Tryd.pinned (OpenSpec.ofChange codeOnesWrong)

/-- 'vouchlaw6.CodeLeads': WHATEVER THE INPUT: true; the input reads as it did. -/
def codeLeadsSpec : ChangeSpec := { name := "codeLeads", fn := fun _ => fun
  | [d] => { results := [.lit (.bool true)], args := [d] }
  | _ => none }
def codeLeadsRow : OpenClaim := { program := "ytbhldmfnhlifpaadoor", sum := "3b5edfe1c3dd51e228c91f415fed2fd7affae2d036662c064d2d8139a0869d72", func := "vouch/vouchlaw6.CodeLeads", spec := "codeLeads", unfollowed := true, recurses := true, named := ["internal/strconv.uint64pow10", "math/bits.deBruijn32tab", "math/bits.deBruijn64tab", "vouch/op.names0", "vouch/op.names1", "vouch/op.names3", "vouch/op.names4", "vouch/op.names5", "vouch/op.namesD", "vouch/op.namesE", "vouch/op.namesF"], apart := false, laid := [("math/bits.deBruijn32tab", laid_math_bits_deBruijn32tab), ("math/bits.deBruijn64tab", laid_math_bits_deBruijn64tab), ("internal/strconv.uint64pow10", laid_internal_strconv_uint64pow10), ("vouch/op.names0", laid_vouch_op_names0), ("vouch/op.names1", laid_vouch_op_names1), ("vouch/op.names3", laid_vouch_op_names3), ("vouch/op.names4", laid_vouch_op_names4), ("vouch/op.names5", laid_vouch_op_names5), ("vouch/op.namesD", laid_vouch_op_namesD), ("vouch/op.namesE", laid_vouch_op_namesE), ("vouch/op.namesF", laid_vouch_op_namesF)] }
def CodeLeadsSaid : Prop := codeLeadsRow.holds Tryd.pinned (OpenSpec.ofChange codeLeadsSpec)

/-- ITS FALSE NEIGHBOUR: 'it returns false'. Refute it at one input. -/
def codeLeadsWrong : ChangeSpec := { name := "codeLeads", fn := fun _ => fun
  | [d] => { results := [.lit (.bool false)], args := [d] }
  | _ => none }
def CodeLeadsWrongFalsely : Prop := codeLeadsRow.holds Tryd.pinned (OpenSpec.ofChange codeLeadsWrong)

/-- 'vouchlaw6.CodeChecks': WHATEVER THE INPUT: true; the input reads as it did. -/
def codeChecksSpec : ChangeSpec := { name := "codeChecks", fn := fun _ => fun
  | [d] => { results := [.lit (.bool true)], args := [d] }
  | _ => none }
def codeChecksRow : OpenClaim := { program := "ytbhldmfnhlifpaadoor", sum := "3b5edfe1c3dd51e228c91f415fed2fd7affae2d036662c064d2d8139a0869d72", func := "vouch/vouchlaw6.CodeChecks", spec := "codeChecks", unfollowed := true, recurses := true, named := ["internal/strconv.uint64pow10", "math/bits.deBruijn32tab", "math/bits.deBruijn64tab", "vouch/op.names0", "vouch/op.names1", "vouch/op.names3", "vouch/op.names4", "vouch/op.names5", "vouch/op.namesD", "vouch/op.namesE", "vouch/op.namesF"], apart := false, laid := [("math/bits.deBruijn32tab", laid_math_bits_deBruijn32tab), ("math/bits.deBruijn64tab", laid_math_bits_deBruijn64tab), ("internal/strconv.uint64pow10", laid_internal_strconv_uint64pow10), ("vouch/op.names0", laid_vouch_op_names0), ("vouch/op.names1", laid_vouch_op_names1), ("vouch/op.names3", laid_vouch_op_names3), ("vouch/op.names4", laid_vouch_op_names4), ("vouch/op.names5", laid_vouch_op_names5), ("vouch/op.namesD", laid_vouch_op_namesD), ("vouch/op.namesE", laid_vouch_op_namesE), ("vouch/op.namesF", laid_vouch_op_namesF)] }
def CodeChecksSaid : Prop := codeChecksRow.holds Tryd.pinned (OpenSpec.ofChange codeChecksSpec)

/-- ITS FALSE NEIGHBOUR: 'it returns false'. Refute it at one input. -/
def codeChecksWrong : ChangeSpec := { name := "codeChecks", fn := fun _ => fun
  | [d] => { results := [.lit (.bool false)], args := [d] }
  | _ => none }
def CodeChecksWrongFalsely : Prop := codeChecksRow.holds Tryd.pinned (OpenSpec.ofChange codeChecksWrong)

/-- 'vouchlaw6.CodePlays': WHATEVER THE INPUT: true; the input reads as it did. -/
def codePlaysSpec : ChangeSpec := { name := "codePlays", fn := fun _ => fun
  | [d1, d2] => { results := [.lit (.bool true)], args := [d1, d2] }
  | _ => none }
def codePlaysRow : OpenClaim := { program := "ytbhldmfnhlifpaadoor", sum := "3b5edfe1c3dd51e228c91f415fed2fd7affae2d036662c064d2d8139a0869d72", func := "vouch/vouchlaw6.CodePlays", spec := "codePlays", unfollowed := true, recurses := true, named := ["internal/strconv.uint64pow10", "math/bits.deBruijn32tab", "math/bits.deBruijn64tab", "vouch/op.names0", "vouch/op.names1", "vouch/op.names3", "vouch/op.names4", "vouch/op.names5", "vouch/op.namesD", "vouch/op.namesE", "vouch/op.namesF"], apart := false, laid := [("math/bits.deBruijn32tab", laid_math_bits_deBruijn32tab), ("math/bits.deBruijn64tab", laid_math_bits_deBruijn64tab), ("internal/strconv.uint64pow10", laid_internal_strconv_uint64pow10), ("vouch/op.names0", laid_vouch_op_names0), ("vouch/op.names1", laid_vouch_op_names1), ("vouch/op.names3", laid_vouch_op_names3), ("vouch/op.names4", laid_vouch_op_names4), ("vouch/op.names5", laid_vouch_op_names5), ("vouch/op.namesD", laid_vouch_op_namesD), ("vouch/op.namesE", laid_vouch_op_namesE), ("vouch/op.namesF", laid_vouch_op_namesF)] }
def CodePlaysSaid : Prop := codePlaysRow.holds Tryd.pinned (OpenSpec.ofChange codePlaysSpec)

/-- ITS FALSE NEIGHBOUR: 'it returns false'. Refute it at one input. -/
def codePlaysWrong : ChangeSpec := { name := "codePlays", fn := fun _ => fun
  | [d1, d2] => { results := [.lit (.bool false)], args := [d1, d2] }
  | _ => none }
def CodePlaysWrongFalsely : Prop := codePlaysRow.holds Tryd.pinned (OpenSpec.ofChange codePlaysWrong)

/-- 'vouchlaw6.CodeWhole': WHATEVER THE INPUT: true; the input reads as it did. -/
def codeWholeSpec : ChangeSpec := { name := "codeWhole", fn := fun _ => fun
  | [d] => { results := [.lit (.bool true)], args := [d] }
  | _ => none }
def codeWholeRow : OpenClaim := { program := "ytbhldmfnhlifpaadoor", sum := "3b5edfe1c3dd51e228c91f415fed2fd7affae2d036662c064d2d8139a0869d72", func := "vouch/vouchlaw6.CodeWhole", spec := "codeWhole", unfollowed := true, recurses := true, named := ["internal/strconv.uint64pow10", "math/bits.deBruijn32tab", "math/bits.deBruijn64tab", "vouch/op.names0", "vouch/op.names1", "vouch/op.names3", "vouch/op.names4", "vouch/op.names5", "vouch/op.namesD", "vouch/op.namesE", "vouch/op.namesF"], apart := false, laid := [("math/bits.deBruijn32tab", laid_math_bits_deBruijn32tab), ("math/bits.deBruijn64tab", laid_math_bits_deBruijn64tab), ("internal/strconv.uint64pow10", laid_internal_strconv_uint64pow10), ("vouch/op.names0", laid_vouch_op_names0), ("vouch/op.names1", laid_vouch_op_names1), ("vouch/op.names3", laid_vouch_op_names3), ("vouch/op.names4", laid_vouch_op_names4), ("vouch/op.names5", laid_vouch_op_names5), ("vouch/op.namesD", laid_vouch_op_namesD), ("vouch/op.namesE", laid_vouch_op_namesE), ("vouch/op.namesF", laid_vouch_op_namesF)] }
def CodeWholeSaid : Prop := codeWholeRow.holds Tryd.pinned (OpenSpec.ofChange codeWholeSpec)

/-- ITS FALSE NEIGHBOUR: 'it returns false'. Refute it at one input. -/
def codeWholeWrong : ChangeSpec := { name := "codeWhole", fn := fun _ => fun
  | [d] => { results := [.lit (.bool false)], args := [d] }
  | _ => none }
def CodeWholeWrongFalsely : Prop := codeWholeRow.holds Tryd.pinned (OpenSpec.ofChange codeWholeWrong)

/-- 'vouchlaw6.CodeLocal': WHATEVER THE INPUT: true; the input reads as it did. -/
def codeLocalSpec : ChangeSpec := { name := "codeLocal", fn := fun _ => fun
  | [d1, d2, d3] => { results := [.lit (.bool true)], args := [d1, d2, d3] }
  | _ => none }
def codeLocalRow : OpenClaim := { program := "ytbhldmfnhlifpaadoor", sum := "3b5edfe1c3dd51e228c91f415fed2fd7affae2d036662c064d2d8139a0869d72", func := "vouch/vouchlaw6.CodeLocal", spec := "codeLocal", unfollowed := true, recurses := true, named := ["internal/strconv.uint64pow10", "math/bits.deBruijn32tab", "math/bits.deBruijn64tab", "vouch/op.names0", "vouch/op.names1", "vouch/op.names3", "vouch/op.names4", "vouch/op.names5", "vouch/op.namesD", "vouch/op.namesE", "vouch/op.namesF"], apart := false, laid := [("math/bits.deBruijn32tab", laid_math_bits_deBruijn32tab), ("math/bits.deBruijn64tab", laid_math_bits_deBruijn64tab), ("internal/strconv.uint64pow10", laid_internal_strconv_uint64pow10), ("vouch/op.names0", laid_vouch_op_names0), ("vouch/op.names1", laid_vouch_op_names1), ("vouch/op.names3", laid_vouch_op_names3), ("vouch/op.names4", laid_vouch_op_names4), ("vouch/op.names5", laid_vouch_op_names5), ("vouch/op.namesD", laid_vouch_op_namesD), ("vouch/op.namesE", laid_vouch_op_namesE), ("vouch/op.namesF", laid_vouch_op_namesF)] }
def CodeLocalSaid : Prop := codeLocalRow.holds Tryd.pinned (OpenSpec.ofChange codeLocalSpec)

/-- ITS FALSE NEIGHBOUR: 'it returns false'. Refute it at one input. -/
def codeLocalWrong : ChangeSpec := { name := "codeLocal", fn := fun _ => fun
  | [d1, d2, d3] => { results := [.lit (.bool false)], args := [d1, d2, d3] }
  | _ => none }
def CodeLocalWrongFalsely : Prop := codeLocalRow.holds Tryd.pinned (OpenSpec.ofChange codeLocalWrong)

/-- 'vouchlaw6.CodeAgrees': WHATEVER THE INPUT: true; the input reads as it did. -/
def codeAgreesSpec : ChangeSpec := { name := "codeAgrees", fn := fun _ => fun
  | [d] => { results := [.lit (.bool true)], args := [d] }
  | _ => none }
def codeAgreesRow : OpenClaim := { program := "ytbhldmfnhlifpaadoor", sum := "3b5edfe1c3dd51e228c91f415fed2fd7affae2d036662c064d2d8139a0869d72", func := "vouch/vouchlaw6.CodeAgrees", spec := "codeAgrees", unfollowed := true, recurses := true, named := ["internal/strconv.uint64pow10", "math/bits.deBruijn32tab", "math/bits.deBruijn64tab", "vouch/op.names0", "vouch/op.names1", "vouch/op.names3", "vouch/op.names4", "vouch/op.names5", "vouch/op.namesD", "vouch/op.namesE", "vouch/op.namesF"], apart := false, laid := [("math/bits.deBruijn32tab", laid_math_bits_deBruijn32tab), ("math/bits.deBruijn64tab", laid_math_bits_deBruijn64tab), ("internal/strconv.uint64pow10", laid_internal_strconv_uint64pow10), ("vouch/op.names0", laid_vouch_op_names0), ("vouch/op.names1", laid_vouch_op_names1), ("vouch/op.names3", laid_vouch_op_names3), ("vouch/op.names4", laid_vouch_op_names4), ("vouch/op.names5", laid_vouch_op_names5), ("vouch/op.namesD", laid_vouch_op_namesD), ("vouch/op.namesE", laid_vouch_op_namesE), ("vouch/op.namesF", laid_vouch_op_namesF)] }
def CodeAgreesSaid : Prop := codeAgreesRow.holds Tryd.pinned (OpenSpec.ofChange codeAgreesSpec)

/-- ITS FALSE NEIGHBOUR: 'it returns false'. Refute it at one input. -/
def codeAgreesWrong : ChangeSpec := { name := "codeAgrees", fn := fun _ => fun
  | [d] => { results := [.lit (.bool false)], args := [d] }
  | _ => none }
def CodeAgreesWrongFalsely : Prop := codeAgreesRow.holds Tryd.pinned (OpenSpec.ofChange codeAgreesWrong)

/-- 'vouchlaw6.CodeTargets': WHATEVER THE INPUT: true; the input reads as it did. -/
def codeTargetsSpec : ChangeSpec := { name := "codeTargets", fn := fun _ => fun
  | [d] => { results := [.lit (.bool true)], args := [d] }
  | _ => none }
def codeTargetsRow : OpenClaim := { program := "ytbhldmfnhlifpaadoor", sum := "3b5edfe1c3dd51e228c91f415fed2fd7affae2d036662c064d2d8139a0869d72", func := "vouch/vouchlaw6.CodeTargets", spec := "codeTargets", unfollowed := true, recurses := true, named := ["internal/strconv.uint64pow10", "math/bits.deBruijn32tab", "math/bits.deBruijn64tab", "vouch/op.names0", "vouch/op.names1", "vouch/op.names3", "vouch/op.names4", "vouch/op.names5", "vouch/op.namesD", "vouch/op.namesE", "vouch/op.namesF"], apart := false, laid := [("math/bits.deBruijn32tab", laid_math_bits_deBruijn32tab), ("math/bits.deBruijn64tab", laid_math_bits_deBruijn64tab), ("internal/strconv.uint64pow10", laid_internal_strconv_uint64pow10), ("vouch/op.names0", laid_vouch_op_names0), ("vouch/op.names1", laid_vouch_op_names1), ("vouch/op.names3", laid_vouch_op_names3), ("vouch/op.names4", laid_vouch_op_names4), ("vouch/op.names5", laid_vouch_op_names5), ("vouch/op.namesD", laid_vouch_op_namesD), ("vouch/op.namesE", laid_vouch_op_namesE), ("vouch/op.namesF", laid_vouch_op_namesF)] }
def CodeTargetsSaid : Prop := codeTargetsRow.holds Tryd.pinned (OpenSpec.ofChange codeTargetsSpec)

/-- ITS FALSE NEIGHBOUR: 'it returns false'. Refute it at one input. -/
def codeTargetsWrong : ChangeSpec := { name := "codeTargets", fn := fun _ => fun
  | [d] => { results := [.lit (.bool false)], args := [d] }
  | _ => none }
def CodeTargetsWrongFalsely : Prop := codeTargetsRow.holds Tryd.pinned (OpenSpec.ofChange codeTargetsWrong)

/-- 'vouchlaw6.CodeJumps': WHATEVER THE INPUT: true; the input reads as it did. -/
def codeJumpsSpec : ChangeSpec := { name := "codeJumps", fn := fun _ => fun
  | [d1, d2] => { results := [.lit (.bool true)], args := [d1, d2] }
  | _ => none }
def codeJumpsRow : OpenClaim := { program := "ytbhldmfnhlifpaadoor", sum := "3b5edfe1c3dd51e228c91f415fed2fd7affae2d036662c064d2d8139a0869d72", func := "vouch/vouchlaw6.CodeJumps", spec := "codeJumps", unfollowed := true, recurses := true, named := ["internal/strconv.uint64pow10", "math/bits.deBruijn32tab", "math/bits.deBruijn64tab", "vouch/op.names0", "vouch/op.names1", "vouch/op.names3", "vouch/op.names4", "vouch/op.names5", "vouch/op.namesD", "vouch/op.namesE", "vouch/op.namesF"], apart := false, laid := [("math/bits.deBruijn32tab", laid_math_bits_deBruijn32tab), ("math/bits.deBruijn64tab", laid_math_bits_deBruijn64tab), ("internal/strconv.uint64pow10", laid_internal_strconv_uint64pow10), ("vouch/op.names0", laid_vouch_op_names0), ("vouch/op.names1", laid_vouch_op_names1), ("vouch/op.names3", laid_vouch_op_names3), ("vouch/op.names4", laid_vouch_op_names4), ("vouch/op.names5", laid_vouch_op_names5), ("vouch/op.namesD", laid_vouch_op_namesD), ("vouch/op.namesE", laid_vouch_op_namesE), ("vouch/op.namesF", laid_vouch_op_namesF)] }
def CodeJumpsSaid : Prop := codeJumpsRow.holds Tryd.pinned (OpenSpec.ofChange codeJumpsSpec)

/-- ITS FALSE NEIGHBOUR: 'it returns false'. Refute it at one input. -/
def codeJumpsWrong : ChangeSpec := { name := "codeJumps", fn := fun _ => fun
  | [d1, d2] => { results := [.lit (.bool false)], args := [d1, d2] }
  | _ => none }
def CodeJumpsWrongFalsely : Prop := codeJumpsRow.holds Tryd.pinned (OpenSpec.ofChange codeJumpsWrong)

/-- 'vouchlaw6.CodeWithin': WHATEVER THE INPUT: true; the input reads as it did. -/
def codeWithinSpec : ChangeSpec := { name := "codeWithin", fn := fun _ => fun
  | [d1, d2] => { results := [.lit (.bool true)], args := [d1, d2] }
  | _ => none }
def codeWithinRow : OpenClaim := { program := "ytbhldmfnhlifpaadoor", sum := "3b5edfe1c3dd51e228c91f415fed2fd7affae2d036662c064d2d8139a0869d72", func := "vouch/vouchlaw6.CodeWithin", spec := "codeWithin", unfollowed := true, recurses := true, named := ["internal/strconv.uint64pow10", "math/bits.deBruijn32tab", "math/bits.deBruijn64tab", "vouch/op.names0", "vouch/op.names1", "vouch/op.names3", "vouch/op.names4", "vouch/op.names5", "vouch/op.namesD", "vouch/op.namesE", "vouch/op.namesF"], apart := false, laid := [("math/bits.deBruijn32tab", laid_math_bits_deBruijn32tab), ("math/bits.deBruijn64tab", laid_math_bits_deBruijn64tab), ("internal/strconv.uint64pow10", laid_internal_strconv_uint64pow10), ("vouch/op.names0", laid_vouch_op_names0), ("vouch/op.names1", laid_vouch_op_names1), ("vouch/op.names3", laid_vouch_op_names3), ("vouch/op.names4", laid_vouch_op_names4), ("vouch/op.names5", laid_vouch_op_names5), ("vouch/op.namesD", laid_vouch_op_namesD), ("vouch/op.namesE", laid_vouch_op_namesE), ("vouch/op.namesF", laid_vouch_op_namesF)] }
def CodeWithinSaid : Prop := codeWithinRow.holds Tryd.pinned (OpenSpec.ofChange codeWithinSpec)

/-- ITS FALSE NEIGHBOUR: 'it returns false'. Refute it at one input. -/
def codeWithinWrong : ChangeSpec := { name := "codeWithin", fn := fun _ => fun
  | [d1, d2] => { results := [.lit (.bool false)], args := [d1, d2] }
  | _ => none }
def CodeWithinWrongFalsely : Prop := codeWithinRow.holds Tryd.pinned (OpenSpec.ofChange codeWithinWrong)

/-- 'vouchlaw6.CodeOwn': WHATEVER THE INPUT: true; the input reads as it did. -/
def codeOwnSpec : ChangeSpec := { name := "codeOwn", fn := fun _ => fun
  | [d] => { results := [.lit (.bool true)], args := [d] }
  | _ => none }
def codeOwnRow : OpenClaim := { program := "ytbhldmfnhlifpaadoor", sum := "3b5edfe1c3dd51e228c91f415fed2fd7affae2d036662c064d2d8139a0869d72", func := "vouch/vouchlaw6.CodeOwn", spec := "codeOwn", unfollowed := true, recurses := true, named := ["internal/strconv.uint64pow10", "math/bits.deBruijn32tab", "math/bits.deBruijn64tab", "vouch/op.names0", "vouch/op.names1", "vouch/op.names3", "vouch/op.names4", "vouch/op.names5", "vouch/op.namesD", "vouch/op.namesE", "vouch/op.namesF"], apart := false, laid := [("math/bits.deBruijn32tab", laid_math_bits_deBruijn32tab), ("math/bits.deBruijn64tab", laid_math_bits_deBruijn64tab), ("internal/strconv.uint64pow10", laid_internal_strconv_uint64pow10), ("vouch/op.names0", laid_vouch_op_names0), ("vouch/op.names1", laid_vouch_op_names1), ("vouch/op.names3", laid_vouch_op_names3), ("vouch/op.names4", laid_vouch_op_names4), ("vouch/op.names5", laid_vouch_op_names5), ("vouch/op.namesD", laid_vouch_op_namesD), ("vouch/op.namesE", laid_vouch_op_namesE), ("vouch/op.namesF", laid_vouch_op_namesF)] }
def CodeOwnSaid : Prop := codeOwnRow.holds Tryd.pinned (OpenSpec.ofChange codeOwnSpec)

/-- ITS FALSE NEIGHBOUR: 'it returns false'. Refute it at one input. -/
def codeOwnWrong : ChangeSpec := { name := "codeOwn", fn := fun _ => fun
  | [d] => { results := [.lit (.bool false)], args := [d] }
  | _ => none }
def CodeOwnWrongFalsely : Prop := codeOwnRow.holds Tryd.pinned (OpenSpec.ofChange codeOwnWrong)

/-- 'vouchlaw6.CodeLent': WHATEVER THE INPUT: true; the input reads as it did. -/
def codeLentSpec : ChangeSpec := { name := "codeLent", fn := fun _ => fun
  | [d1, d2] => { results := [.lit (.bool true)], args := [d1, d2] }
  | _ => none }
def codeLentRow : OpenClaim := { program := "ytbhldmfnhlifpaadoor", sum := "3b5edfe1c3dd51e228c91f415fed2fd7affae2d036662c064d2d8139a0869d72", func := "vouch/vouchlaw6.CodeLent", spec := "codeLent", unfollowed := true, recurses := true, named := ["internal/strconv.uint64pow10", "math/bits.deBruijn32tab", "math/bits.deBruijn64tab", "vouch/op.names0", "vouch/op.names1", "vouch/op.names3", "vouch/op.names4", "vouch/op.names5", "vouch/op.namesD", "vouch/op.namesE", "vouch/op.namesF"], apart := false, laid := [("math/bits.deBruijn32tab", laid_math_bits_deBruijn32tab), ("math/bits.deBruijn64tab", laid_math_bits_deBruijn64tab), ("internal/strconv.uint64pow10", laid_internal_strconv_uint64pow10), ("vouch/op.names0", laid_vouch_op_names0), ("vouch/op.names1", laid_vouch_op_names1), ("vouch/op.names3", laid_vouch_op_names3), ("vouch/op.names4", laid_vouch_op_names4), ("vouch/op.names5", laid_vouch_op_names5), ("vouch/op.namesD", laid_vouch_op_namesD), ("vouch/op.namesE", laid_vouch_op_namesE), ("vouch/op.namesF", laid_vouch_op_namesF)] }
def CodeLentSaid : Prop := codeLentRow.holds Tryd.pinned (OpenSpec.ofChange codeLentSpec)

/-- ITS FALSE NEIGHBOUR: 'it returns false'. Refute it at one input. -/
def codeLentWrong : ChangeSpec := { name := "codeLent", fn := fun _ => fun
  | [d1, d2] => { results := [.lit (.bool false)], args := [d1, d2] }
  | _ => none }
def CodeLentWrongFalsely : Prop := codeLentRow.holds Tryd.pinned (OpenSpec.ofChange codeLentWrong)

/-- 'vouchlaw7.FlowHeights': WHATEVER THE INPUT: true; the input reads as it did. -/
def flowHeightsSpec : ChangeSpec := { name := "flowHeights", fn := fun _ => fun
  | [d1, d2, d3] => { results := [.lit (.bool true)], args := [d1, d2, d3] }
  | _ => none }
def flowHeightsRow : OpenClaim := { program := "ytbhldmfnhlifpaadoor", sum := "3b5edfe1c3dd51e228c91f415fed2fd7affae2d036662c064d2d8139a0869d72", func := "vouch/vouchlaw7.FlowHeights", spec := "flowHeights", unfollowed := true, recurses := true, named := ["internal/strconv.uint64pow10", "math/bits.deBruijn32tab", "math/bits.deBruijn64tab", "vouch/op.names0", "vouch/op.names1", "vouch/op.names3", "vouch/op.names4", "vouch/op.names5", "vouch/op.namesD", "vouch/op.namesE", "vouch/op.namesF"], apart := false, laid := [("math/bits.deBruijn32tab", laid_math_bits_deBruijn32tab), ("math/bits.deBruijn64tab", laid_math_bits_deBruijn64tab), ("internal/strconv.uint64pow10", laid_internal_strconv_uint64pow10), ("vouch/op.names0", laid_vouch_op_names0), ("vouch/op.names1", laid_vouch_op_names1), ("vouch/op.names3", laid_vouch_op_names3), ("vouch/op.names4", laid_vouch_op_names4), ("vouch/op.names5", laid_vouch_op_names5), ("vouch/op.namesD", laid_vouch_op_namesD), ("vouch/op.namesE", laid_vouch_op_namesE), ("vouch/op.namesF", laid_vouch_op_namesF)] }
def FlowHeightsSaid : Prop := flowHeightsRow.holds Tryd.pinned (OpenSpec.ofChange flowHeightsSpec)

/-- ITS FALSE NEIGHBOUR: 'it returns false'. Refute it at one input. -/
def flowHeightsWrong : ChangeSpec := { name := "flowHeights", fn := fun _ => fun
  | [d1, d2, d3] => { results := [.lit (.bool false)], args := [d1, d2, d3] }
  | _ => none }
def FlowHeightsWrongFalsely : Prop := flowHeightsRow.holds Tryd.pinned (OpenSpec.ofChange flowHeightsWrong)

/-- 'vouchlaw7.FlowMost': WHATEVER THE INPUT: true; the input reads as it did. -/
def flowMostSpec : ChangeSpec := { name := "flowMost", fn := fun _ => fun
  | [d] => { results := [.lit (.bool true)], args := [d] }
  | _ => none }
def flowMostRow : OpenClaim := { program := "ytbhldmfnhlifpaadoor", sum := "3b5edfe1c3dd51e228c91f415fed2fd7affae2d036662c064d2d8139a0869d72", func := "vouch/vouchlaw7.FlowMost", spec := "flowMost", unfollowed := true, recurses := true, named := ["internal/strconv.uint64pow10", "math/bits.deBruijn32tab", "math/bits.deBruijn64tab", "vouch/op.names0", "vouch/op.names1", "vouch/op.names3", "vouch/op.names4", "vouch/op.names5", "vouch/op.namesD", "vouch/op.namesE", "vouch/op.namesF"], apart := false, laid := [("math/bits.deBruijn32tab", laid_math_bits_deBruijn32tab), ("math/bits.deBruijn64tab", laid_math_bits_deBruijn64tab), ("internal/strconv.uint64pow10", laid_internal_strconv_uint64pow10), ("vouch/op.names0", laid_vouch_op_names0), ("vouch/op.names1", laid_vouch_op_names1), ("vouch/op.names3", laid_vouch_op_names3), ("vouch/op.names4", laid_vouch_op_names4), ("vouch/op.names5", laid_vouch_op_names5), ("vouch/op.namesD", laid_vouch_op_namesD), ("vouch/op.namesE", laid_vouch_op_namesE), ("vouch/op.namesF", laid_vouch_op_namesF)] }
def FlowMostSaid : Prop := flowMostRow.holds Tryd.pinned (OpenSpec.ofChange flowMostSpec)

/-- ITS FALSE NEIGHBOUR: 'it returns false'. Refute it at one input. -/
def flowMostWrong : ChangeSpec := { name := "flowMost", fn := fun _ => fun
  | [d] => { results := [.lit (.bool false)], args := [d] }
  | _ => none }
def FlowMostWrongFalsely : Prop := flowMostRow.holds Tryd.pinned (OpenSpec.ofChange flowMostWrong)

/-- 'vouchlaw7.FlowReturns': WHATEVER THE INPUT: true; the input reads as it did. -/
def flowReturnsSpec : ChangeSpec := { name := "flowReturns", fn := fun _ => fun
  | [d1, d2] => { results := [.lit (.bool true)], args := [d1, d2] }
  | _ => none }
def flowReturnsRow : OpenClaim := { program := "ytbhldmfnhlifpaadoor", sum := "3b5edfe1c3dd51e228c91f415fed2fd7affae2d036662c064d2d8139a0869d72", func := "vouch/vouchlaw7.FlowReturns", spec := "flowReturns", unfollowed := true, recurses := true, named := ["internal/strconv.uint64pow10", "math/bits.deBruijn32tab", "math/bits.deBruijn64tab", "vouch/op.names0", "vouch/op.names1", "vouch/op.names3", "vouch/op.names4", "vouch/op.names5", "vouch/op.namesD", "vouch/op.namesE", "vouch/op.namesF"], apart := false, laid := [("math/bits.deBruijn32tab", laid_math_bits_deBruijn32tab), ("math/bits.deBruijn64tab", laid_math_bits_deBruijn64tab), ("internal/strconv.uint64pow10", laid_internal_strconv_uint64pow10), ("vouch/op.names0", laid_vouch_op_names0), ("vouch/op.names1", laid_vouch_op_names1), ("vouch/op.names3", laid_vouch_op_names3), ("vouch/op.names4", laid_vouch_op_names4), ("vouch/op.names5", laid_vouch_op_names5), ("vouch/op.namesD", laid_vouch_op_namesD), ("vouch/op.namesE", laid_vouch_op_namesE), ("vouch/op.namesF", laid_vouch_op_namesF)] }
def FlowReturnsSaid : Prop := flowReturnsRow.holds Tryd.pinned (OpenSpec.ofChange flowReturnsSpec)

/-- ITS FALSE NEIGHBOUR: 'it returns false'. Refute it at one input. -/
def flowReturnsWrong : ChangeSpec := { name := "flowReturns", fn := fun _ => fun
  | [d1, d2] => { results := [.lit (.bool false)], args := [d1, d2] }
  | _ => none }
def FlowReturnsWrongFalsely : Prop := flowReturnsRow.holds Tryd.pinned (OpenSpec.ofChange flowReturnsWrong)

/-- 'vouchlaw7.FlowAll': WHATEVER THE INPUT: true; the input reads as it did. -/
def flowAllSpec : ChangeSpec := { name := "flowAll", fn := fun _ => fun
  | [d] => { results := [.lit (.bool true)], args := [d] }
  | _ => none }
def flowAllRow : OpenClaim := { program := "ytbhldmfnhlifpaadoor", sum := "3b5edfe1c3dd51e228c91f415fed2fd7affae2d036662c064d2d8139a0869d72", func := "vouch/vouchlaw7.FlowAll", spec := "flowAll", unfollowed := true, recurses := true, named := ["internal/strconv.uint64pow10", "math/bits.deBruijn32tab", "math/bits.deBruijn64tab", "vouch/op.names0", "vouch/op.names1", "vouch/op.names3", "vouch/op.names4", "vouch/op.names5", "vouch/op.namesD", "vouch/op.namesE", "vouch/op.namesF"], apart := false, laid := [("math/bits.deBruijn32tab", laid_math_bits_deBruijn32tab), ("math/bits.deBruijn64tab", laid_math_bits_deBruijn64tab), ("internal/strconv.uint64pow10", laid_internal_strconv_uint64pow10), ("vouch/op.names0", laid_vouch_op_names0), ("vouch/op.names1", laid_vouch_op_names1), ("vouch/op.names3", laid_vouch_op_names3), ("vouch/op.names4", laid_vouch_op_names4), ("vouch/op.names5", laid_vouch_op_names5), ("vouch/op.namesD", laid_vouch_op_namesD), ("vouch/op.namesE", laid_vouch_op_namesE), ("vouch/op.namesF", laid_vouch_op_namesF)] }
def FlowAllSaid : Prop := flowAllRow.holds Tryd.pinned (OpenSpec.ofChange flowAllSpec)

/-- ITS FALSE NEIGHBOUR: 'it returns false'. Refute it at one input. -/
def flowAllWrong : ChangeSpec := { name := "flowAll", fn := fun _ => fun
  | [d] => { results := [.lit (.bool false)], args := [d] }
  | _ => none }
def FlowAllWrongFalsely : Prop := flowAllRow.holds Tryd.pinned (OpenSpec.ofChange flowAllWrong)

/-- 'vouchlaw7.FlowJudged': WHATEVER THE INPUT: true; the input reads as it did. -/
def flowJudgedSpec : ChangeSpec := { name := "flowJudged", fn := fun _ => fun
  | [d1, d2, d3] => { results := [.lit (.bool true)], args := [d1, d2, d3] }
  | _ => none }
def flowJudgedRow : OpenClaim := { program := "ytbhldmfnhlifpaadoor", sum := "3b5edfe1c3dd51e228c91f415fed2fd7affae2d036662c064d2d8139a0869d72", func := "vouch/vouchlaw7.FlowJudged", spec := "flowJudged", unfollowed := true, recurses := true, named := ["internal/strconv.uint64pow10", "math/bits.deBruijn32tab", "math/bits.deBruijn64tab", "vouch/op.names0", "vouch/op.names1", "vouch/op.names3", "vouch/op.names4", "vouch/op.names5", "vouch/op.namesD", "vouch/op.namesE", "vouch/op.namesF"], apart := false, laid := [("math/bits.deBruijn32tab", laid_math_bits_deBruijn32tab), ("math/bits.deBruijn64tab", laid_math_bits_deBruijn64tab), ("internal/strconv.uint64pow10", laid_internal_strconv_uint64pow10), ("vouch/op.names0", laid_vouch_op_names0), ("vouch/op.names1", laid_vouch_op_names1), ("vouch/op.names3", laid_vouch_op_names3), ("vouch/op.names4", laid_vouch_op_names4), ("vouch/op.names5", laid_vouch_op_names5), ("vouch/op.namesD", laid_vouch_op_namesD), ("vouch/op.namesE", laid_vouch_op_namesE), ("vouch/op.namesF", laid_vouch_op_namesF)] }
def FlowJudgedSaid : Prop := flowJudgedRow.holds Tryd.pinned (OpenSpec.ofChange flowJudgedSpec)

/-- ITS FALSE NEIGHBOUR: 'it returns false'. Refute it at one input. -/
def flowJudgedWrong : ChangeSpec := { name := "flowJudged", fn := fun _ => fun
  | [d1, d2, d3] => { results := [.lit (.bool false)], args := [d1, d2, d3] }
  | _ => none }
def FlowJudgedWrongFalsely : Prop := flowJudgedRow.holds Tryd.pinned (OpenSpec.ofChange flowJudgedWrong)

/-- 'vouchlaw7.FlowWalks': WHATEVER THE INPUT: true; the input reads as it did. -/
def flowWalksSpec : ChangeSpec := { name := "flowWalks", fn := fun _ => fun
  | [d1, d2, d3, d4] => { results := [.lit (.bool true)], args := [d1, d2, d3, d4] }
  | _ => none }
def flowWalksRow : OpenClaim := { program := "ytbhldmfnhlifpaadoor", sum := "3b5edfe1c3dd51e228c91f415fed2fd7affae2d036662c064d2d8139a0869d72", func := "vouch/vouchlaw7.FlowWalks", spec := "flowWalks", unfollowed := true, recurses := true, named := ["internal/strconv.uint64pow10", "math/bits.deBruijn32tab", "math/bits.deBruijn64tab", "vouch/op.names0", "vouch/op.names1", "vouch/op.names3", "vouch/op.names4", "vouch/op.names5", "vouch/op.namesD", "vouch/op.namesE", "vouch/op.namesF"], apart := false, laid := [("math/bits.deBruijn32tab", laid_math_bits_deBruijn32tab), ("math/bits.deBruijn64tab", laid_math_bits_deBruijn64tab), ("internal/strconv.uint64pow10", laid_internal_strconv_uint64pow10), ("vouch/op.names0", laid_vouch_op_names0), ("vouch/op.names1", laid_vouch_op_names1), ("vouch/op.names3", laid_vouch_op_names3), ("vouch/op.names4", laid_vouch_op_names4), ("vouch/op.names5", laid_vouch_op_names5), ("vouch/op.namesD", laid_vouch_op_namesD), ("vouch/op.namesE", laid_vouch_op_namesE), ("vouch/op.namesF", laid_vouch_op_namesF)] }
def FlowWalksSaid : Prop := flowWalksRow.holds Tryd.pinned (OpenSpec.ofChange flowWalksSpec)

/-- ITS FALSE NEIGHBOUR: 'it returns false'. Refute it at one input. -/
def flowWalksWrong : ChangeSpec := { name := "flowWalks", fn := fun _ => fun
  | [d1, d2, d3, d4] => { results := [.lit (.bool false)], args := [d1, d2, d3, d4] }
  | _ => none }
def FlowWalksWrongFalsely : Prop := flowWalksRow.holds Tryd.pinned (OpenSpec.ofChange flowWalksWrong)

/-- 'vouchlaw7.FlowMet': WHATEVER THE INPUT: true; the input reads as it did. -/
def flowMetSpec : ChangeSpec := { name := "flowMet", fn := fun _ => fun
  | [d1, d2, d3, d4] => { results := [.lit (.bool true)], args := [d1, d2, d3, d4] }
  | _ => none }
def flowMetRow : OpenClaim := { program := "ytbhldmfnhlifpaadoor", sum := "3b5edfe1c3dd51e228c91f415fed2fd7affae2d036662c064d2d8139a0869d72", func := "vouch/vouchlaw7.FlowMet", spec := "flowMet", unfollowed := true, recurses := true, named := ["internal/strconv.uint64pow10", "math/bits.deBruijn32tab", "math/bits.deBruijn64tab", "vouch/op.names0", "vouch/op.names1", "vouch/op.names3", "vouch/op.names4", "vouch/op.names5", "vouch/op.namesD", "vouch/op.namesE", "vouch/op.namesF"], apart := false, laid := [("math/bits.deBruijn32tab", laid_math_bits_deBruijn32tab), ("math/bits.deBruijn64tab", laid_math_bits_deBruijn64tab), ("internal/strconv.uint64pow10", laid_internal_strconv_uint64pow10), ("vouch/op.names0", laid_vouch_op_names0), ("vouch/op.names1", laid_vouch_op_names1), ("vouch/op.names3", laid_vouch_op_names3), ("vouch/op.names4", laid_vouch_op_names4), ("vouch/op.names5", laid_vouch_op_names5), ("vouch/op.namesD", laid_vouch_op_namesD), ("vouch/op.namesE", laid_vouch_op_namesE), ("vouch/op.namesF", laid_vouch_op_namesF)] }
def FlowMetSaid : Prop := flowMetRow.holds Tryd.pinned (OpenSpec.ofChange flowMetSpec)

/-- ITS FALSE NEIGHBOUR: 'it returns false'. Refute it at one input. -/
def flowMetWrong : ChangeSpec := { name := "flowMet", fn := fun _ => fun
  | [d1, d2, d3, d4] => { results := [.lit (.bool false)], args := [d1, d2, d3, d4] }
  | _ => none }
def FlowMetWrongFalsely : Prop := flowMetRow.holds Tryd.pinned (OpenSpec.ofChange flowMetWrong)

/-- 'vouchlaw7.FlowMoved': WHATEVER THE INPUT: true; the input reads as it did. -/
def flowMovedSpec : ChangeSpec := { name := "flowMoved", fn := fun _ => fun
  | [d1, d2, d3] => { results := [.lit (.bool true)], args := [d1, d2, d3] }
  | _ => none }
def flowMovedRow : OpenClaim := { program := "ytbhldmfnhlifpaadoor", sum := "3b5edfe1c3dd51e228c91f415fed2fd7affae2d036662c064d2d8139a0869d72", func := "vouch/vouchlaw7.FlowMoved", spec := "flowMoved", unfollowed := true, recurses := true, named := ["internal/strconv.uint64pow10", "math/bits.deBruijn32tab", "math/bits.deBruijn64tab", "vouch/op.names0", "vouch/op.names1", "vouch/op.names3", "vouch/op.names4", "vouch/op.names5", "vouch/op.namesD", "vouch/op.namesE", "vouch/op.namesF"], apart := false, laid := [("math/bits.deBruijn32tab", laid_math_bits_deBruijn32tab), ("math/bits.deBruijn64tab", laid_math_bits_deBruijn64tab), ("internal/strconv.uint64pow10", laid_internal_strconv_uint64pow10), ("vouch/op.names0", laid_vouch_op_names0), ("vouch/op.names1", laid_vouch_op_names1), ("vouch/op.names3", laid_vouch_op_names3), ("vouch/op.names4", laid_vouch_op_names4), ("vouch/op.names5", laid_vouch_op_names5), ("vouch/op.namesD", laid_vouch_op_namesD), ("vouch/op.namesE", laid_vouch_op_namesE), ("vouch/op.namesF", laid_vouch_op_namesF)] }
def FlowMovedSaid : Prop := flowMovedRow.holds Tryd.pinned (OpenSpec.ofChange flowMovedSpec)

/-- ITS FALSE NEIGHBOUR: 'it returns false'. Refute it at one input. -/
def flowMovedWrong : ChangeSpec := { name := "flowMoved", fn := fun _ => fun
  | [d1, d2, d3] => { results := [.lit (.bool false)], args := [d1, d2, d3] }
  | _ => none }
def FlowMovedWrongFalsely : Prop := flowMovedRow.holds Tryd.pinned (OpenSpec.ofChange flowMovedWrong)

/-- 'vouchlaw7.FlowNamed': WHATEVER THE INPUT: true; the input reads as it did. -/
def flowNamedSpec : ChangeSpec := { name := "flowNamed", fn := fun _ => fun
  | [d1, d2, d3, d4, d5, d6] => { results := [.lit (.bool true)], args := [d1, d2, d3, d4, d5, d6] }
  | _ => none }
def flowNamedRow : OpenClaim := { program := "ytbhldmfnhlifpaadoor", sum := "3b5edfe1c3dd51e228c91f415fed2fd7affae2d036662c064d2d8139a0869d72", func := "vouch/vouchlaw7.FlowNamed", spec := "flowNamed", unfollowed := true, recurses := true, named := ["internal/strconv.uint64pow10", "math/bits.deBruijn32tab", "math/bits.deBruijn64tab", "vouch/op.names0", "vouch/op.names1", "vouch/op.names3", "vouch/op.names4", "vouch/op.names5", "vouch/op.namesD", "vouch/op.namesE", "vouch/op.namesF"], apart := false, laid := [("math/bits.deBruijn32tab", laid_math_bits_deBruijn32tab), ("math/bits.deBruijn64tab", laid_math_bits_deBruijn64tab), ("internal/strconv.uint64pow10", laid_internal_strconv_uint64pow10), ("vouch/op.names0", laid_vouch_op_names0), ("vouch/op.names1", laid_vouch_op_names1), ("vouch/op.names3", laid_vouch_op_names3), ("vouch/op.names4", laid_vouch_op_names4), ("vouch/op.names5", laid_vouch_op_names5), ("vouch/op.namesD", laid_vouch_op_namesD), ("vouch/op.namesE", laid_vouch_op_namesE), ("vouch/op.namesF", laid_vouch_op_namesF)] }
def FlowNamedSaid : Prop := flowNamedRow.holds Tryd.pinned (OpenSpec.ofChange flowNamedSpec)

/-- ITS FALSE NEIGHBOUR: 'it returns false'. Refute it at one input. -/
def flowNamedWrong : ChangeSpec := { name := "flowNamed", fn := fun _ => fun
  | [d1, d2, d3, d4, d5, d6] => { results := [.lit (.bool false)], args := [d1, d2, d3, d4, d5, d6] }
  | _ => none }
def FlowNamedWrongFalsely : Prop := flowNamedRow.holds Tryd.pinned (OpenSpec.ofChange flowNamedWrong)

/-- 'vouchlaw7.FlowStraight': WHATEVER THE INPUT: true; the input reads as it did. -/
def flowStraightSpec : ChangeSpec := { name := "flowStraight", fn := fun _ => fun
  | [d] => { results := [.lit (.bool true)], args := [d] }
  | _ => none }
def flowStraightRow : OpenClaim := { program := "ytbhldmfnhlifpaadoor", sum := "3b5edfe1c3dd51e228c91f415fed2fd7affae2d036662c064d2d8139a0869d72", func := "vouch/vouchlaw7.FlowStraight", spec := "flowStraight", unfollowed := true, recurses := true, named := ["internal/strconv.uint64pow10", "math/bits.deBruijn32tab", "math/bits.deBruijn64tab", "vouch/op.names0", "vouch/op.names1", "vouch/op.names3", "vouch/op.names4", "vouch/op.names5", "vouch/op.namesD", "vouch/op.namesE", "vouch/op.namesF"], apart := false, laid := [("math/bits.deBruijn32tab", laid_math_bits_deBruijn32tab), ("math/bits.deBruijn64tab", laid_math_bits_deBruijn64tab), ("internal/strconv.uint64pow10", laid_internal_strconv_uint64pow10), ("vouch/op.names0", laid_vouch_op_names0), ("vouch/op.names1", laid_vouch_op_names1), ("vouch/op.names3", laid_vouch_op_names3), ("vouch/op.names4", laid_vouch_op_names4), ("vouch/op.names5", laid_vouch_op_names5), ("vouch/op.namesD", laid_vouch_op_namesD), ("vouch/op.namesE", laid_vouch_op_namesE), ("vouch/op.namesF", laid_vouch_op_namesF)] }
def FlowStraightSaid : Prop := flowStraightRow.holds Tryd.pinned (OpenSpec.ofChange flowStraightSpec)

/-- ITS FALSE NEIGHBOUR: 'it returns false'. Refute it at one input. -/
def flowStraightWrong : ChangeSpec := { name := "flowStraight", fn := fun _ => fun
  | [d] => { results := [.lit (.bool false)], args := [d] }
  | _ => none }
def FlowStraightWrongFalsely : Prop := flowStraightRow.holds Tryd.pinned (OpenSpec.ofChange flowStraightWrong)

/-- 'vouchlaw7.FlowFresh': WHATEVER THE INPUT: true; the input reads as it did. -/
def flowFreshSpec : ChangeSpec := { name := "flowFresh", fn := fun _ => fun
  | [d1, d2, d3, d4] => { results := [.lit (.bool true)], args := [d1, d2, d3, d4] }
  | _ => none }
def flowFreshRow : OpenClaim := { program := "ytbhldmfnhlifpaadoor", sum := "3b5edfe1c3dd51e228c91f415fed2fd7affae2d036662c064d2d8139a0869d72", func := "vouch/vouchlaw7.FlowFresh", spec := "flowFresh", unfollowed := true, recurses := true, named := ["internal/strconv.uint64pow10", "math/bits.deBruijn32tab", "math/bits.deBruijn64tab", "vouch/op.names0", "vouch/op.names1", "vouch/op.names3", "vouch/op.names4", "vouch/op.names5", "vouch/op.namesD", "vouch/op.namesE", "vouch/op.namesF"], apart := false, laid := [("math/bits.deBruijn32tab", laid_math_bits_deBruijn32tab), ("math/bits.deBruijn64tab", laid_math_bits_deBruijn64tab), ("internal/strconv.uint64pow10", laid_internal_strconv_uint64pow10), ("vouch/op.names0", laid_vouch_op_names0), ("vouch/op.names1", laid_vouch_op_names1), ("vouch/op.names3", laid_vouch_op_names3), ("vouch/op.names4", laid_vouch_op_names4), ("vouch/op.names5", laid_vouch_op_names5), ("vouch/op.namesD", laid_vouch_op_namesD), ("vouch/op.namesE", laid_vouch_op_namesE), ("vouch/op.namesF", laid_vouch_op_namesF)] }
def FlowFreshSaid : Prop := flowFreshRow.holds Tryd.pinned (OpenSpec.ofChange flowFreshSpec)

/-- ITS FALSE NEIGHBOUR: 'it returns false'. Refute it at one input. -/
def flowFreshWrong : ChangeSpec := { name := "flowFresh", fn := fun _ => fun
  | [d1, d2, d3, d4] => { results := [.lit (.bool false)], args := [d1, d2, d3, d4] }
  | _ => none }
def FlowFreshWrongFalsely : Prop := flowFreshRow.holds Tryd.pinned (OpenSpec.ofChange flowFreshWrong)

/-- 'vouchlaw4.OpAll': WHATEVER THE INPUT: true; the input reads as it did. -/
def opAllSpec : ChangeSpec := { name := "opAll", fn := fun _ => fun
  | [d1, d2] => { results := [.lit (.bool true)], args := [d1, d2] }
  | _ => none }
def opAllRow : OpenClaim := { program := "ytbhldmfnhlifpaadoor", sum := "3b5edfe1c3dd51e228c91f415fed2fd7affae2d036662c064d2d8139a0869d72", func := "vouch/vouchlaw4.OpAll", spec := "opAll", unfollowed := true, recurses := true, named := ["internal/strconv.uint64pow10", "math/bits.deBruijn32tab", "math/bits.deBruijn64tab", "vouch/op.names0", "vouch/op.names1", "vouch/op.names3", "vouch/op.names4", "vouch/op.names5", "vouch/op.namesD", "vouch/op.namesE", "vouch/op.namesF"], apart := false, laid := [("math/bits.deBruijn32tab", laid_math_bits_deBruijn32tab), ("math/bits.deBruijn64tab", laid_math_bits_deBruijn64tab), ("internal/strconv.uint64pow10", laid_internal_strconv_uint64pow10), ("vouch/op.names0", laid_vouch_op_names0), ("vouch/op.names1", laid_vouch_op_names1), ("vouch/op.names3", laid_vouch_op_names3), ("vouch/op.names4", laid_vouch_op_names4), ("vouch/op.names5", laid_vouch_op_names5), ("vouch/op.namesD", laid_vouch_op_namesD), ("vouch/op.namesE", laid_vouch_op_namesE), ("vouch/op.namesF", laid_vouch_op_namesF)] }
def OpAllSaid : Prop := opAllRow.holds Tryd.pinned (OpenSpec.ofChange opAllSpec)

/-- ITS FALSE NEIGHBOUR: 'it returns false'. Refute it at one input. -/
def opAllWrong : ChangeSpec := { name := "opAll", fn := fun _ => fun
  | [d1, d2] => { results := [.lit (.bool false)], args := [d1, d2] }
  | _ => none }
def OpAllWrongFalsely : Prop := opAllRow.holds Tryd.pinned (OpenSpec.ofChange opAllWrong)

/- THE SECOND FORM. 'bulk': how many values and letters a reading holds, each counted each time it is reached (what is shared counts as often as it is met; a slice's spare places count too). A statement '..UptoSaid' is the law's where the arguments, and the package variables that the reading takes, are together of bulk at most 1048576: NARROWER than '..Said'. Prove '..Said' where nothing that the law and all that it calls make is longer than what came in: it says more and counts as full. Else prove '..UptoSaid'. A law counts once. -/
mutual
def uptoBulk {H : Type} : DataW H → Nat
  | .lit (.string bytes) => bytes.length + 1
  | .lit _ => 1
  | .nil => 1
  | .ptr d => uptoBulk d + 1
  | .slice elems spare => uptoBulkAll elems + uptoBulkAll spare + 1
  | .agg parts => uptoBulkAll parts + 1
  | .iface _ d => uptoBulk d + 1
  | .map entries => uptoBulkEntries entries + 1
  | .held _ => 1
def uptoBulkAll {H : Type} : List (DataW H) → Nat
  | [] => 0
  | d :: r => uptoBulk d + uptoBulkAll r
def uptoBulkEntries {H : Type} : List (Lit × DataW H) → Nat
  | [] => 0
  | x :: r => uptoBulkEntry x + uptoBulkEntries r
def uptoBulkEntry {H : Type} : Lit × DataW H → Nat
  | (.string bytes, d) => bytes.length + uptoBulk d + 1
  | (_, d) => uptoBulk d + 1
 end
def uptoSmall : (H : Type) → List (DataW H) → Bool := fun _ ds => decide (uptoBulkAll ds ≤ 1048576)
def OpenSpec.upto (s : _root_.Go.ChangeSpec) : _root_.Go.OpenSpec := { _root_.Go.OpenSpec.ofChange s with cond := some uptoSmall }

/-- 'vouchlaw6.CodeOnes', WHERE WHAT IT READS IS OF BULK AT MOST 1048576: true; the input reads as it did. -/
def codeOnesUptoRow : OpenClaim := { program := "ytbhldmfnhlifpaadoor", sum := "3b5edfe1c3dd51e228c91f415fed2fd7affae2d036662c064d2d8139a0869d72", func := "vouch/vouchlaw6.CodeOnes", spec := "codeOnes", unfollowed := true, recurses := true, named := ["internal/strconv.uint64pow10", "math/bits.deBruijn32tab", "math/bits.deBruijn64tab", "vouch/op.names0", "vouch/op.names1", "vouch/op.names3", "vouch/op.names4", "vouch/op.names5", "vouch/op.namesD", "vouch/op.namesE", "vouch/op.namesF"], apart := false, laid := [("math/bits.deBruijn32tab", laid_math_bits_deBruijn32tab), ("math/bits.deBruijn64tab", laid_math_bits_deBruijn64tab), ("internal/strconv.uint64pow10", laid_internal_strconv_uint64pow10), ("vouch/op.names0", laid_vouch_op_names0), ("vouch/op.names1", laid_vouch_op_names1), ("vouch/op.names3", laid_vouch_op_names3), ("vouch/op.names4", laid_vouch_op_names4), ("vouch/op.names5", laid_vouch_op_names5), ("vouch/op.namesD", laid_vouch_op_namesD), ("vouch/op.namesE", laid_vouch_op_namesE), ("vouch/op.namesF", laid_vouch_op_namesF)], narrowed := true }
def CodeOnesUptoSaid : Prop := codeOnesUptoRow.holds Tryd.pinned (OpenSpec.upto codeOnesSpec)

/-- 'vouchlaw6.CodeLeads', WHERE WHAT IT READS IS OF BULK AT MOST 1048576: true; the input reads as it did. -/
def codeLeadsUptoRow : OpenClaim := { program := "ytbhldmfnhlifpaadoor", sum := "3b5edfe1c3dd51e228c91f415fed2fd7affae2d036662c064d2d8139a0869d72", func := "vouch/vouchlaw6.CodeLeads", spec := "codeLeads", unfollowed := true, recurses := true, named := ["internal/strconv.uint64pow10", "math/bits.deBruijn32tab", "math/bits.deBruijn64tab", "vouch/op.names0", "vouch/op.names1", "vouch/op.names3", "vouch/op.names4", "vouch/op.names5", "vouch/op.namesD", "vouch/op.namesE", "vouch/op.namesF"], apart := false, laid := [("math/bits.deBruijn32tab", laid_math_bits_deBruijn32tab), ("math/bits.deBruijn64tab", laid_math_bits_deBruijn64tab), ("internal/strconv.uint64pow10", laid_internal_strconv_uint64pow10), ("vouch/op.names0", laid_vouch_op_names0), ("vouch/op.names1", laid_vouch_op_names1), ("vouch/op.names3", laid_vouch_op_names3), ("vouch/op.names4", laid_vouch_op_names4), ("vouch/op.names5", laid_vouch_op_names5), ("vouch/op.namesD", laid_vouch_op_namesD), ("vouch/op.namesE", laid_vouch_op_namesE), ("vouch/op.namesF", laid_vouch_op_namesF)], narrowed := true }
def CodeLeadsUptoSaid : Prop := codeLeadsUptoRow.holds Tryd.pinned (OpenSpec.upto codeLeadsSpec)

/-- 'vouchlaw6.CodeChecks', WHERE WHAT IT READS IS OF BULK AT MOST 1048576: true; the input reads as it did. -/
def codeChecksUptoRow : OpenClaim := { program := "ytbhldmfnhlifpaadoor", sum := "3b5edfe1c3dd51e228c91f415fed2fd7affae2d036662c064d2d8139a0869d72", func := "vouch/vouchlaw6.CodeChecks", spec := "codeChecks", unfollowed := true, recurses := true, named := ["internal/strconv.uint64pow10", "math/bits.deBruijn32tab", "math/bits.deBruijn64tab", "vouch/op.names0", "vouch/op.names1", "vouch/op.names3", "vouch/op.names4", "vouch/op.names5", "vouch/op.namesD", "vouch/op.namesE", "vouch/op.namesF"], apart := false, laid := [("math/bits.deBruijn32tab", laid_math_bits_deBruijn32tab), ("math/bits.deBruijn64tab", laid_math_bits_deBruijn64tab), ("internal/strconv.uint64pow10", laid_internal_strconv_uint64pow10), ("vouch/op.names0", laid_vouch_op_names0), ("vouch/op.names1", laid_vouch_op_names1), ("vouch/op.names3", laid_vouch_op_names3), ("vouch/op.names4", laid_vouch_op_names4), ("vouch/op.names5", laid_vouch_op_names5), ("vouch/op.namesD", laid_vouch_op_namesD), ("vouch/op.namesE", laid_vouch_op_namesE), ("vouch/op.namesF", laid_vouch_op_namesF)], narrowed := true }
def CodeChecksUptoSaid : Prop := codeChecksUptoRow.holds Tryd.pinned (OpenSpec.upto codeChecksSpec)

/-- 'vouchlaw6.CodePlays', WHERE WHAT IT READS IS OF BULK AT MOST 1048576: true; the input reads as it did. -/
def codePlaysUptoRow : OpenClaim := { program := "ytbhldmfnhlifpaadoor", sum := "3b5edfe1c3dd51e228c91f415fed2fd7affae2d036662c064d2d8139a0869d72", func := "vouch/vouchlaw6.CodePlays", spec := "codePlays", unfollowed := true, recurses := true, named := ["internal/strconv.uint64pow10", "math/bits.deBruijn32tab", "math/bits.deBruijn64tab", "vouch/op.names0", "vouch/op.names1", "vouch/op.names3", "vouch/op.names4", "vouch/op.names5", "vouch/op.namesD", "vouch/op.namesE", "vouch/op.namesF"], apart := false, laid := [("math/bits.deBruijn32tab", laid_math_bits_deBruijn32tab), ("math/bits.deBruijn64tab", laid_math_bits_deBruijn64tab), ("internal/strconv.uint64pow10", laid_internal_strconv_uint64pow10), ("vouch/op.names0", laid_vouch_op_names0), ("vouch/op.names1", laid_vouch_op_names1), ("vouch/op.names3", laid_vouch_op_names3), ("vouch/op.names4", laid_vouch_op_names4), ("vouch/op.names5", laid_vouch_op_names5), ("vouch/op.namesD", laid_vouch_op_namesD), ("vouch/op.namesE", laid_vouch_op_namesE), ("vouch/op.namesF", laid_vouch_op_namesF)], narrowed := true }
def CodePlaysUptoSaid : Prop := codePlaysUptoRow.holds Tryd.pinned (OpenSpec.upto codePlaysSpec)

/-- 'vouchlaw6.CodeWhole', WHERE WHAT IT READS IS OF BULK AT MOST 1048576: true; the input reads as it did. -/
def codeWholeUptoRow : OpenClaim := { program := "ytbhldmfnhlifpaadoor", sum := "3b5edfe1c3dd51e228c91f415fed2fd7affae2d036662c064d2d8139a0869d72", func := "vouch/vouchlaw6.CodeWhole", spec := "codeWhole", unfollowed := true, recurses := true, named := ["internal/strconv.uint64pow10", "math/bits.deBruijn32tab", "math/bits.deBruijn64tab", "vouch/op.names0", "vouch/op.names1", "vouch/op.names3", "vouch/op.names4", "vouch/op.names5", "vouch/op.namesD", "vouch/op.namesE", "vouch/op.namesF"], apart := false, laid := [("math/bits.deBruijn32tab", laid_math_bits_deBruijn32tab), ("math/bits.deBruijn64tab", laid_math_bits_deBruijn64tab), ("internal/strconv.uint64pow10", laid_internal_strconv_uint64pow10), ("vouch/op.names0", laid_vouch_op_names0), ("vouch/op.names1", laid_vouch_op_names1), ("vouch/op.names3", laid_vouch_op_names3), ("vouch/op.names4", laid_vouch_op_names4), ("vouch/op.names5", laid_vouch_op_names5), ("vouch/op.namesD", laid_vouch_op_namesD), ("vouch/op.namesE", laid_vouch_op_namesE), ("vouch/op.namesF", laid_vouch_op_namesF)], narrowed := true }
def CodeWholeUptoSaid : Prop := codeWholeUptoRow.holds Tryd.pinned (OpenSpec.upto codeWholeSpec)

/-- 'vouchlaw6.CodeLocal', WHERE WHAT IT READS IS OF BULK AT MOST 1048576: true; the input reads as it did. -/
def codeLocalUptoRow : OpenClaim := { program := "ytbhldmfnhlifpaadoor", sum := "3b5edfe1c3dd51e228c91f415fed2fd7affae2d036662c064d2d8139a0869d72", func := "vouch/vouchlaw6.CodeLocal", spec := "codeLocal", unfollowed := true, recurses := true, named := ["internal/strconv.uint64pow10", "math/bits.deBruijn32tab", "math/bits.deBruijn64tab", "vouch/op.names0", "vouch/op.names1", "vouch/op.names3", "vouch/op.names4", "vouch/op.names5", "vouch/op.namesD", "vouch/op.namesE", "vouch/op.namesF"], apart := false, laid := [("math/bits.deBruijn32tab", laid_math_bits_deBruijn32tab), ("math/bits.deBruijn64tab", laid_math_bits_deBruijn64tab), ("internal/strconv.uint64pow10", laid_internal_strconv_uint64pow10), ("vouch/op.names0", laid_vouch_op_names0), ("vouch/op.names1", laid_vouch_op_names1), ("vouch/op.names3", laid_vouch_op_names3), ("vouch/op.names4", laid_vouch_op_names4), ("vouch/op.names5", laid_vouch_op_names5), ("vouch/op.namesD", laid_vouch_op_namesD), ("vouch/op.namesE", laid_vouch_op_namesE), ("vouch/op.namesF", laid_vouch_op_namesF)], narrowed := true }
def CodeLocalUptoSaid : Prop := codeLocalUptoRow.holds Tryd.pinned (OpenSpec.upto codeLocalSpec)

/-- 'vouchlaw6.CodeAgrees', WHERE WHAT IT READS IS OF BULK AT MOST 1048576: true; the input reads as it did. -/
def codeAgreesUptoRow : OpenClaim := { program := "ytbhldmfnhlifpaadoor", sum := "3b5edfe1c3dd51e228c91f415fed2fd7affae2d036662c064d2d8139a0869d72", func := "vouch/vouchlaw6.CodeAgrees", spec := "codeAgrees", unfollowed := true, recurses := true, named := ["internal/strconv.uint64pow10", "math/bits.deBruijn32tab", "math/bits.deBruijn64tab", "vouch/op.names0", "vouch/op.names1", "vouch/op.names3", "vouch/op.names4", "vouch/op.names5", "vouch/op.namesD", "vouch/op.namesE", "vouch/op.namesF"], apart := false, laid := [("math/bits.deBruijn32tab", laid_math_bits_deBruijn32tab), ("math/bits.deBruijn64tab", laid_math_bits_deBruijn64tab), ("internal/strconv.uint64pow10", laid_internal_strconv_uint64pow10), ("vouch/op.names0", laid_vouch_op_names0), ("vouch/op.names1", laid_vouch_op_names1), ("vouch/op.names3", laid_vouch_op_names3), ("vouch/op.names4", laid_vouch_op_names4), ("vouch/op.names5", laid_vouch_op_names5), ("vouch/op.namesD", laid_vouch_op_namesD), ("vouch/op.namesE", laid_vouch_op_namesE), ("vouch/op.namesF", laid_vouch_op_namesF)], narrowed := true }
def CodeAgreesUptoSaid : Prop := codeAgreesUptoRow.holds Tryd.pinned (OpenSpec.upto codeAgreesSpec)

/-- 'vouchlaw6.CodeTargets', WHERE WHAT IT READS IS OF BULK AT MOST 1048576: true; the input reads as it did. -/
def codeTargetsUptoRow : OpenClaim := { program := "ytbhldmfnhlifpaadoor", sum := "3b5edfe1c3dd51e228c91f415fed2fd7affae2d036662c064d2d8139a0869d72", func := "vouch/vouchlaw6.CodeTargets", spec := "codeTargets", unfollowed := true, recurses := true, named := ["internal/strconv.uint64pow10", "math/bits.deBruijn32tab", "math/bits.deBruijn64tab", "vouch/op.names0", "vouch/op.names1", "vouch/op.names3", "vouch/op.names4", "vouch/op.names5", "vouch/op.namesD", "vouch/op.namesE", "vouch/op.namesF"], apart := false, laid := [("math/bits.deBruijn32tab", laid_math_bits_deBruijn32tab), ("math/bits.deBruijn64tab", laid_math_bits_deBruijn64tab), ("internal/strconv.uint64pow10", laid_internal_strconv_uint64pow10), ("vouch/op.names0", laid_vouch_op_names0), ("vouch/op.names1", laid_vouch_op_names1), ("vouch/op.names3", laid_vouch_op_names3), ("vouch/op.names4", laid_vouch_op_names4), ("vouch/op.names5", laid_vouch_op_names5), ("vouch/op.namesD", laid_vouch_op_namesD), ("vouch/op.namesE", laid_vouch_op_namesE), ("vouch/op.namesF", laid_vouch_op_namesF)], narrowed := true }
def CodeTargetsUptoSaid : Prop := codeTargetsUptoRow.holds Tryd.pinned (OpenSpec.upto codeTargetsSpec)

/-- 'vouchlaw6.CodeJumps', WHERE WHAT IT READS IS OF BULK AT MOST 1048576: true; the input reads as it did. -/
def codeJumpsUptoRow : OpenClaim := { program := "ytbhldmfnhlifpaadoor", sum := "3b5edfe1c3dd51e228c91f415fed2fd7affae2d036662c064d2d8139a0869d72", func := "vouch/vouchlaw6.CodeJumps", spec := "codeJumps", unfollowed := true, recurses := true, named := ["internal/strconv.uint64pow10", "math/bits.deBruijn32tab", "math/bits.deBruijn64tab", "vouch/op.names0", "vouch/op.names1", "vouch/op.names3", "vouch/op.names4", "vouch/op.names5", "vouch/op.namesD", "vouch/op.namesE", "vouch/op.namesF"], apart := false, laid := [("math/bits.deBruijn32tab", laid_math_bits_deBruijn32tab), ("math/bits.deBruijn64tab", laid_math_bits_deBruijn64tab), ("internal/strconv.uint64pow10", laid_internal_strconv_uint64pow10), ("vouch/op.names0", laid_vouch_op_names0), ("vouch/op.names1", laid_vouch_op_names1), ("vouch/op.names3", laid_vouch_op_names3), ("vouch/op.names4", laid_vouch_op_names4), ("vouch/op.names5", laid_vouch_op_names5), ("vouch/op.namesD", laid_vouch_op_namesD), ("vouch/op.namesE", laid_vouch_op_namesE), ("vouch/op.namesF", laid_vouch_op_namesF)], narrowed := true }
def CodeJumpsUptoSaid : Prop := codeJumpsUptoRow.holds Tryd.pinned (OpenSpec.upto codeJumpsSpec)

/-- 'vouchlaw6.CodeWithin', WHERE WHAT IT READS IS OF BULK AT MOST 1048576: true; the input reads as it did. -/
def codeWithinUptoRow : OpenClaim := { program := "ytbhldmfnhlifpaadoor", sum := "3b5edfe1c3dd51e228c91f415fed2fd7affae2d036662c064d2d8139a0869d72", func := "vouch/vouchlaw6.CodeWithin", spec := "codeWithin", unfollowed := true, recurses := true, named := ["internal/strconv.uint64pow10", "math/bits.deBruijn32tab", "math/bits.deBruijn64tab", "vouch/op.names0", "vouch/op.names1", "vouch/op.names3", "vouch/op.names4", "vouch/op.names5", "vouch/op.namesD", "vouch/op.namesE", "vouch/op.namesF"], apart := false, laid := [("math/bits.deBruijn32tab", laid_math_bits_deBruijn32tab), ("math/bits.deBruijn64tab", laid_math_bits_deBruijn64tab), ("internal/strconv.uint64pow10", laid_internal_strconv_uint64pow10), ("vouch/op.names0", laid_vouch_op_names0), ("vouch/op.names1", laid_vouch_op_names1), ("vouch/op.names3", laid_vouch_op_names3), ("vouch/op.names4", laid_vouch_op_names4), ("vouch/op.names5", laid_vouch_op_names5), ("vouch/op.namesD", laid_vouch_op_namesD), ("vouch/op.namesE", laid_vouch_op_namesE), ("vouch/op.namesF", laid_vouch_op_namesF)], narrowed := true }
def CodeWithinUptoSaid : Prop := codeWithinUptoRow.holds Tryd.pinned (OpenSpec.upto codeWithinSpec)

/-- 'vouchlaw6.CodeOwn', WHERE WHAT IT READS IS OF BULK AT MOST 1048576: true; the input reads as it did. -/
def codeOwnUptoRow : OpenClaim := { program := "ytbhldmfnhlifpaadoor", sum := "3b5edfe1c3dd51e228c91f415fed2fd7affae2d036662c064d2d8139a0869d72", func := "vouch/vouchlaw6.CodeOwn", spec := "codeOwn", unfollowed := true, recurses := true, named := ["internal/strconv.uint64pow10", "math/bits.deBruijn32tab", "math/bits.deBruijn64tab", "vouch/op.names0", "vouch/op.names1", "vouch/op.names3", "vouch/op.names4", "vouch/op.names5", "vouch/op.namesD", "vouch/op.namesE", "vouch/op.namesF"], apart := false, laid := [("math/bits.deBruijn32tab", laid_math_bits_deBruijn32tab), ("math/bits.deBruijn64tab", laid_math_bits_deBruijn64tab), ("internal/strconv.uint64pow10", laid_internal_strconv_uint64pow10), ("vouch/op.names0", laid_vouch_op_names0), ("vouch/op.names1", laid_vouch_op_names1), ("vouch/op.names3", laid_vouch_op_names3), ("vouch/op.names4", laid_vouch_op_names4), ("vouch/op.names5", laid_vouch_op_names5), ("vouch/op.namesD", laid_vouch_op_namesD), ("vouch/op.namesE", laid_vouch_op_namesE), ("vouch/op.namesF", laid_vouch_op_namesF)], narrowed := true }
def CodeOwnUptoSaid : Prop := codeOwnUptoRow.holds Tryd.pinned (OpenSpec.upto codeOwnSpec)

/-- 'vouchlaw6.CodeLent', WHERE WHAT IT READS IS OF BULK AT MOST 1048576: true; the input reads as it did. -/
def codeLentUptoRow : OpenClaim := { program := "ytbhldmfnhlifpaadoor", sum := "3b5edfe1c3dd51e228c91f415fed2fd7affae2d036662c064d2d8139a0869d72", func := "vouch/vouchlaw6.CodeLent", spec := "codeLent", unfollowed := true, recurses := true, named := ["internal/strconv.uint64pow10", "math/bits.deBruijn32tab", "math/bits.deBruijn64tab", "vouch/op.names0", "vouch/op.names1", "vouch/op.names3", "vouch/op.names4", "vouch/op.names5", "vouch/op.namesD", "vouch/op.namesE", "vouch/op.namesF"], apart := false, laid := [("math/bits.deBruijn32tab", laid_math_bits_deBruijn32tab), ("math/bits.deBruijn64tab", laid_math_bits_deBruijn64tab), ("internal/strconv.uint64pow10", laid_internal_strconv_uint64pow10), ("vouch/op.names0", laid_vouch_op_names0), ("vouch/op.names1", laid_vouch_op_names1), ("vouch/op.names3", laid_vouch_op_names3), ("vouch/op.names4", laid_vouch_op_names4), ("vouch/op.names5", laid_vouch_op_names5), ("vouch/op.namesD", laid_vouch_op_namesD), ("vouch/op.namesE", laid_vouch_op_namesE), ("vouch/op.namesF", laid_vouch_op_namesF)], narrowed := true }
def CodeLentUptoSaid : Prop := codeLentUptoRow.holds Tryd.pinned (OpenSpec.upto codeLentSpec)

/-- 'vouchlaw7.FlowHeights', WHERE WHAT IT READS IS OF BULK AT MOST 1048576: true; the input reads as it did. -/
def flowHeightsUptoRow : OpenClaim := { program := "ytbhldmfnhlifpaadoor", sum := "3b5edfe1c3dd51e228c91f415fed2fd7affae2d036662c064d2d8139a0869d72", func := "vouch/vouchlaw7.FlowHeights", spec := "flowHeights", unfollowed := true, recurses := true, named := ["internal/strconv.uint64pow10", "math/bits.deBruijn32tab", "math/bits.deBruijn64tab", "vouch/op.names0", "vouch/op.names1", "vouch/op.names3", "vouch/op.names4", "vouch/op.names5", "vouch/op.namesD", "vouch/op.namesE", "vouch/op.namesF"], apart := false, laid := [("math/bits.deBruijn32tab", laid_math_bits_deBruijn32tab), ("math/bits.deBruijn64tab", laid_math_bits_deBruijn64tab), ("internal/strconv.uint64pow10", laid_internal_strconv_uint64pow10), ("vouch/op.names0", laid_vouch_op_names0), ("vouch/op.names1", laid_vouch_op_names1), ("vouch/op.names3", laid_vouch_op_names3), ("vouch/op.names4", laid_vouch_op_names4), ("vouch/op.names5", laid_vouch_op_names5), ("vouch/op.namesD", laid_vouch_op_namesD), ("vouch/op.namesE", laid_vouch_op_namesE), ("vouch/op.namesF", laid_vouch_op_namesF)], narrowed := true }
def FlowHeightsUptoSaid : Prop := flowHeightsUptoRow.holds Tryd.pinned (OpenSpec.upto flowHeightsSpec)

/-- 'vouchlaw7.FlowMost', WHERE WHAT IT READS IS OF BULK AT MOST 1048576: true; the input reads as it did. -/
def flowMostUptoRow : OpenClaim := { program := "ytbhldmfnhlifpaadoor", sum := "3b5edfe1c3dd51e228c91f415fed2fd7affae2d036662c064d2d8139a0869d72", func := "vouch/vouchlaw7.FlowMost", spec := "flowMost", unfollowed := true, recurses := true, named := ["internal/strconv.uint64pow10", "math/bits.deBruijn32tab", "math/bits.deBruijn64tab", "vouch/op.names0", "vouch/op.names1", "vouch/op.names3", "vouch/op.names4", "vouch/op.names5", "vouch/op.namesD", "vouch/op.namesE", "vouch/op.namesF"], apart := false, laid := [("math/bits.deBruijn32tab", laid_math_bits_deBruijn32tab), ("math/bits.deBruijn64tab", laid_math_bits_deBruijn64tab), ("internal/strconv.uint64pow10", laid_internal_strconv_uint64pow10), ("vouch/op.names0", laid_vouch_op_names0), ("vouch/op.names1", laid_vouch_op_names1), ("vouch/op.names3", laid_vouch_op_names3), ("vouch/op.names4", laid_vouch_op_names4), ("vouch/op.names5", laid_vouch_op_names5), ("vouch/op.namesD", laid_vouch_op_namesD), ("vouch/op.namesE", laid_vouch_op_namesE), ("vouch/op.namesF", laid_vouch_op_namesF)], narrowed := true }
def FlowMostUptoSaid : Prop := flowMostUptoRow.holds Tryd.pinned (OpenSpec.upto flowMostSpec)

/-- 'vouchlaw7.FlowReturns', WHERE WHAT IT READS IS OF BULK AT MOST 1048576: true; the input reads as it did. -/
def flowReturnsUptoRow : OpenClaim := { program := "ytbhldmfnhlifpaadoor", sum := "3b5edfe1c3dd51e228c91f415fed2fd7affae2d036662c064d2d8139a0869d72", func := "vouch/vouchlaw7.FlowReturns", spec := "flowReturns", unfollowed := true, recurses := true, named := ["internal/strconv.uint64pow10", "math/bits.deBruijn32tab", "math/bits.deBruijn64tab", "vouch/op.names0", "vouch/op.names1", "vouch/op.names3", "vouch/op.names4", "vouch/op.names5", "vouch/op.namesD", "vouch/op.namesE", "vouch/op.namesF"], apart := false, laid := [("math/bits.deBruijn32tab", laid_math_bits_deBruijn32tab), ("math/bits.deBruijn64tab", laid_math_bits_deBruijn64tab), ("internal/strconv.uint64pow10", laid_internal_strconv_uint64pow10), ("vouch/op.names0", laid_vouch_op_names0), ("vouch/op.names1", laid_vouch_op_names1), ("vouch/op.names3", laid_vouch_op_names3), ("vouch/op.names4", laid_vouch_op_names4), ("vouch/op.names5", laid_vouch_op_names5), ("vouch/op.namesD", laid_vouch_op_namesD), ("vouch/op.namesE", laid_vouch_op_namesE), ("vouch/op.namesF", laid_vouch_op_namesF)], narrowed := true }
def FlowReturnsUptoSaid : Prop := flowReturnsUptoRow.holds Tryd.pinned (OpenSpec.upto flowReturnsSpec)

/-- 'vouchlaw7.FlowAll', WHERE WHAT IT READS IS OF BULK AT MOST 1048576: true; the input reads as it did. -/
def flowAllUptoRow : OpenClaim := { program := "ytbhldmfnhlifpaadoor", sum := "3b5edfe1c3dd51e228c91f415fed2fd7affae2d036662c064d2d8139a0869d72", func := "vouch/vouchlaw7.FlowAll", spec := "flowAll", unfollowed := true, recurses := true, named := ["internal/strconv.uint64pow10", "math/bits.deBruijn32tab", "math/bits.deBruijn64tab", "vouch/op.names0", "vouch/op.names1", "vouch/op.names3", "vouch/op.names4", "vouch/op.names5", "vouch/op.namesD", "vouch/op.namesE", "vouch/op.namesF"], apart := false, laid := [("math/bits.deBruijn32tab", laid_math_bits_deBruijn32tab), ("math/bits.deBruijn64tab", laid_math_bits_deBruijn64tab), ("internal/strconv.uint64pow10", laid_internal_strconv_uint64pow10), ("vouch/op.names0", laid_vouch_op_names0), ("vouch/op.names1", laid_vouch_op_names1), ("vouch/op.names3", laid_vouch_op_names3), ("vouch/op.names4", laid_vouch_op_names4), ("vouch/op.names5", laid_vouch_op_names5), ("vouch/op.namesD", laid_vouch_op_namesD), ("vouch/op.namesE", laid_vouch_op_namesE), ("vouch/op.namesF", laid_vouch_op_namesF)], narrowed := true }
def FlowAllUptoSaid : Prop := flowAllUptoRow.holds Tryd.pinned (OpenSpec.upto flowAllSpec)

/-- 'vouchlaw7.FlowJudged', WHERE WHAT IT READS IS OF BULK AT MOST 1048576: true; the input reads as it did. -/
def flowJudgedUptoRow : OpenClaim := { program := "ytbhldmfnhlifpaadoor", sum := "3b5edfe1c3dd51e228c91f415fed2fd7affae2d036662c064d2d8139a0869d72", func := "vouch/vouchlaw7.FlowJudged", spec := "flowJudged", unfollowed := true, recurses := true, named := ["internal/strconv.uint64pow10", "math/bits.deBruijn32tab", "math/bits.deBruijn64tab", "vouch/op.names0", "vouch/op.names1", "vouch/op.names3", "vouch/op.names4", "vouch/op.names5", "vouch/op.namesD", "vouch/op.namesE", "vouch/op.namesF"], apart := false, laid := [("math/bits.deBruijn32tab", laid_math_bits_deBruijn32tab), ("math/bits.deBruijn64tab", laid_math_bits_deBruijn64tab), ("internal/strconv.uint64pow10", laid_internal_strconv_uint64pow10), ("vouch/op.names0", laid_vouch_op_names0), ("vouch/op.names1", laid_vouch_op_names1), ("vouch/op.names3", laid_vouch_op_names3), ("vouch/op.names4", laid_vouch_op_names4), ("vouch/op.names5", laid_vouch_op_names5), ("vouch/op.namesD", laid_vouch_op_namesD), ("vouch/op.namesE", laid_vouch_op_namesE), ("vouch/op.namesF", laid_vouch_op_namesF)], narrowed := true }
def FlowJudgedUptoSaid : Prop := flowJudgedUptoRow.holds Tryd.pinned (OpenSpec.upto flowJudgedSpec)

/-- 'vouchlaw7.FlowWalks', WHERE WHAT IT READS IS OF BULK AT MOST 1048576: true; the input reads as it did. -/
def flowWalksUptoRow : OpenClaim := { program := "ytbhldmfnhlifpaadoor", sum := "3b5edfe1c3dd51e228c91f415fed2fd7affae2d036662c064d2d8139a0869d72", func := "vouch/vouchlaw7.FlowWalks", spec := "flowWalks", unfollowed := true, recurses := true, named := ["internal/strconv.uint64pow10", "math/bits.deBruijn32tab", "math/bits.deBruijn64tab", "vouch/op.names0", "vouch/op.names1", "vouch/op.names3", "vouch/op.names4", "vouch/op.names5", "vouch/op.namesD", "vouch/op.namesE", "vouch/op.namesF"], apart := false, laid := [("math/bits.deBruijn32tab", laid_math_bits_deBruijn32tab), ("math/bits.deBruijn64tab", laid_math_bits_deBruijn64tab), ("internal/strconv.uint64pow10", laid_internal_strconv_uint64pow10), ("vouch/op.names0", laid_vouch_op_names0), ("vouch/op.names1", laid_vouch_op_names1), ("vouch/op.names3", laid_vouch_op_names3), ("vouch/op.names4", laid_vouch_op_names4), ("vouch/op.names5", laid_vouch_op_names5), ("vouch/op.namesD", laid_vouch_op_namesD), ("vouch/op.namesE", laid_vouch_op_namesE), ("vouch/op.namesF", laid_vouch_op_namesF)], narrowed := true }
def FlowWalksUptoSaid : Prop := flowWalksUptoRow.holds Tryd.pinned (OpenSpec.upto flowWalksSpec)

/-- 'vouchlaw7.FlowMet', WHERE WHAT IT READS IS OF BULK AT MOST 1048576: true; the input reads as it did. -/
def flowMetUptoRow : OpenClaim := { program := "ytbhldmfnhlifpaadoor", sum := "3b5edfe1c3dd51e228c91f415fed2fd7affae2d036662c064d2d8139a0869d72", func := "vouch/vouchlaw7.FlowMet", spec := "flowMet", unfollowed := true, recurses := true, named := ["internal/strconv.uint64pow10", "math/bits.deBruijn32tab", "math/bits.deBruijn64tab", "vouch/op.names0", "vouch/op.names1", "vouch/op.names3", "vouch/op.names4", "vouch/op.names5", "vouch/op.namesD", "vouch/op.namesE", "vouch/op.namesF"], apart := false, laid := [("math/bits.deBruijn32tab", laid_math_bits_deBruijn32tab), ("math/bits.deBruijn64tab", laid_math_bits_deBruijn64tab), ("internal/strconv.uint64pow10", laid_internal_strconv_uint64pow10), ("vouch/op.names0", laid_vouch_op_names0), ("vouch/op.names1", laid_vouch_op_names1), ("vouch/op.names3", laid_vouch_op_names3), ("vouch/op.names4", laid_vouch_op_names4), ("vouch/op.names5", laid_vouch_op_names5), ("vouch/op.namesD", laid_vouch_op_namesD), ("vouch/op.namesE", laid_vouch_op_namesE), ("vouch/op.namesF", laid_vouch_op_namesF)], narrowed := true }
def FlowMetUptoSaid : Prop := flowMetUptoRow.holds Tryd.pinned (OpenSpec.upto flowMetSpec)

/-- 'vouchlaw7.FlowMoved', WHERE WHAT IT READS IS OF BULK AT MOST 1048576: true; the input reads as it did. -/
def flowMovedUptoRow : OpenClaim := { program := "ytbhldmfnhlifpaadoor", sum := "3b5edfe1c3dd51e228c91f415fed2fd7affae2d036662c064d2d8139a0869d72", func := "vouch/vouchlaw7.FlowMoved", spec := "flowMoved", unfollowed := true, recurses := true, named := ["internal/strconv.uint64pow10", "math/bits.deBruijn32tab", "math/bits.deBruijn64tab", "vouch/op.names0", "vouch/op.names1", "vouch/op.names3", "vouch/op.names4", "vouch/op.names5", "vouch/op.namesD", "vouch/op.namesE", "vouch/op.namesF"], apart := false, laid := [("math/bits.deBruijn32tab", laid_math_bits_deBruijn32tab), ("math/bits.deBruijn64tab", laid_math_bits_deBruijn64tab), ("internal/strconv.uint64pow10", laid_internal_strconv_uint64pow10), ("vouch/op.names0", laid_vouch_op_names0), ("vouch/op.names1", laid_vouch_op_names1), ("vouch/op.names3", laid_vouch_op_names3), ("vouch/op.names4", laid_vouch_op_names4), ("vouch/op.names5", laid_vouch_op_names5), ("vouch/op.namesD", laid_vouch_op_namesD), ("vouch/op.namesE", laid_vouch_op_namesE), ("vouch/op.namesF", laid_vouch_op_namesF)], narrowed := true }
def FlowMovedUptoSaid : Prop := flowMovedUptoRow.holds Tryd.pinned (OpenSpec.upto flowMovedSpec)

/-- 'vouchlaw7.FlowNamed', WHERE WHAT IT READS IS OF BULK AT MOST 1048576: true; the input reads as it did. -/
def flowNamedUptoRow : OpenClaim := { program := "ytbhldmfnhlifpaadoor", sum := "3b5edfe1c3dd51e228c91f415fed2fd7affae2d036662c064d2d8139a0869d72", func := "vouch/vouchlaw7.FlowNamed", spec := "flowNamed", unfollowed := true, recurses := true, named := ["internal/strconv.uint64pow10", "math/bits.deBruijn32tab", "math/bits.deBruijn64tab", "vouch/op.names0", "vouch/op.names1", "vouch/op.names3", "vouch/op.names4", "vouch/op.names5", "vouch/op.namesD", "vouch/op.namesE", "vouch/op.namesF"], apart := false, laid := [("math/bits.deBruijn32tab", laid_math_bits_deBruijn32tab), ("math/bits.deBruijn64tab", laid_math_bits_deBruijn64tab), ("internal/strconv.uint64pow10", laid_internal_strconv_uint64pow10), ("vouch/op.names0", laid_vouch_op_names0), ("vouch/op.names1", laid_vouch_op_names1), ("vouch/op.names3", laid_vouch_op_names3), ("vouch/op.names4", laid_vouch_op_names4), ("vouch/op.names5", laid_vouch_op_names5), ("vouch/op.namesD", laid_vouch_op_namesD), ("vouch/op.namesE", laid_vouch_op_namesE), ("vouch/op.namesF", laid_vouch_op_namesF)], narrowed := true }
def FlowNamedUptoSaid : Prop := flowNamedUptoRow.holds Tryd.pinned (OpenSpec.upto flowNamedSpec)

/-- 'vouchlaw7.FlowStraight', WHERE WHAT IT READS IS OF BULK AT MOST 1048576: true; the input reads as it did. -/
def flowStraightUptoRow : OpenClaim := { program := "ytbhldmfnhlifpaadoor", sum := "3b5edfe1c3dd51e228c91f415fed2fd7affae2d036662c064d2d8139a0869d72", func := "vouch/vouchlaw7.FlowStraight", spec := "flowStraight", unfollowed := true, recurses := true, named := ["internal/strconv.uint64pow10", "math/bits.deBruijn32tab", "math/bits.deBruijn64tab", "vouch/op.names0", "vouch/op.names1", "vouch/op.names3", "vouch/op.names4", "vouch/op.names5", "vouch/op.namesD", "vouch/op.namesE", "vouch/op.namesF"], apart := false, laid := [("math/bits.deBruijn32tab", laid_math_bits_deBruijn32tab), ("math/bits.deBruijn64tab", laid_math_bits_deBruijn64tab), ("internal/strconv.uint64pow10", laid_internal_strconv_uint64pow10), ("vouch/op.names0", laid_vouch_op_names0), ("vouch/op.names1", laid_vouch_op_names1), ("vouch/op.names3", laid_vouch_op_names3), ("vouch/op.names4", laid_vouch_op_names4), ("vouch/op.names5", laid_vouch_op_names5), ("vouch/op.namesD", laid_vouch_op_namesD), ("vouch/op.namesE", laid_vouch_op_namesE), ("vouch/op.namesF", laid_vouch_op_namesF)], narrowed := true }
def FlowStraightUptoSaid : Prop := flowStraightUptoRow.holds Tryd.pinned (OpenSpec.upto flowStraightSpec)

/-- 'vouchlaw7.FlowFresh', WHERE WHAT IT READS IS OF BULK AT MOST 1048576: true; the input reads as it did. -/
def flowFreshUptoRow : OpenClaim := { program := "ytbhldmfnhlifpaadoor", sum := "3b5edfe1c3dd51e228c91f415fed2fd7affae2d036662c064d2d8139a0869d72", func := "vouch/vouchlaw7.FlowFresh", spec := "flowFresh", unfollowed := true, recurses := true, named := ["internal/strconv.uint64pow10", "math/bits.deBruijn32tab", "math/bits.deBruijn64tab", "vouch/op.names0", "vouch/op.names1", "vouch/op.names3", "vouch/op.names4", "vouch/op.names5", "vouch/op.namesD", "vouch/op.namesE", "vouch/op.namesF"], apart := false, laid := [("math/bits.deBruijn32tab", laid_math_bits_deBruijn32tab), ("math/bits.deBruijn64tab", laid_math_bits_deBruijn64tab), ("internal/strconv.uint64pow10", laid_internal_strconv_uint64pow10), ("vouch/op.names0", laid_vouch_op_names0), ("vouch/op.names1", laid_vouch_op_names1), ("vouch/op.names3", laid_vouch_op_names3), ("vouch/op.names4", laid_vouch_op_names4), ("vouch/op.names5", laid_vouch_op_names5), ("vouch/op.namesD", laid_vouch_op_namesD), ("vouch/op.namesE", laid_vouch_op_namesE), ("vouch/op.namesF", laid_vouch_op_namesF)], narrowed := true }
def FlowFreshUptoSaid : Prop := flowFreshUptoRow.holds Tryd.pinned (OpenSpec.upto flowFreshSpec)

/-- 'vouchlaw4.OpAll', WHERE WHAT IT READS IS OF BULK AT MOST 1048576: true; the input reads as it did. -/
def opAllUptoRow : OpenClaim := { program := "ytbhldmfnhlifpaadoor", sum := "3b5edfe1c3dd51e228c91f415fed2fd7affae2d036662c064d2d8139a0869d72", func := "vouch/vouchlaw4.OpAll", spec := "opAll", unfollowed := true, recurses := true, named := ["internal/strconv.uint64pow10", "math/bits.deBruijn32tab", "math/bits.deBruijn64tab", "vouch/op.names0", "vouch/op.names1", "vouch/op.names3", "vouch/op.names4", "vouch/op.names5", "vouch/op.namesD", "vouch/op.namesE", "vouch/op.namesF"], apart := false, laid := [("math/bits.deBruijn32tab", laid_math_bits_deBruijn32tab), ("math/bits.deBruijn64tab", laid_math_bits_deBruijn64tab), ("internal/strconv.uint64pow10", laid_internal_strconv_uint64pow10), ("vouch/op.names0", laid_vouch_op_names0), ("vouch/op.names1", laid_vouch_op_names1), ("vouch/op.names3", laid_vouch_op_names3), ("vouch/op.names4", laid_vouch_op_names4), ("vouch/op.names5", laid_vouch_op_names5), ("vouch/op.namesD", laid_vouch_op_namesD), ("vouch/op.namesE", laid_vouch_op_namesE), ("vouch/op.namesF", laid_vouch_op_namesF)], narrowed := true }
def OpAllUptoSaid : Prop := opAllUptoRow.holds Tryd.pinned (OpenSpec.upto opAllSpec)

end Rows
end Go.Proofs.YtbhldmfnhlifpaaDoor
