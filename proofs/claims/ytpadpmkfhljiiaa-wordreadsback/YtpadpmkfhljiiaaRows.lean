/-
  No cell of these rows narrows 'for every input' (looked for: loops, veiled, ifaces, maps, wideKeys, modest, calm, conditions, laid).
  DERIVED. THE GIVEN ROWS OF THIS SEAT. 14 by the template 'for every input the law returns true; each argument reads behind the call as it read before'; 0 by the template 'total and deterministic' (their statements: YtpadpmkfhljiiaaTotals.lean).
  GIVEN WITH THE SEED: the statements are not yours to turn. If you find one false, say at which input.
  Laid BY PROGRAM, IN A SANDBOX (cutbox-rows.mjs): the forced cells as the released guide's own fill.sh prints them over the translation 66f2e4bfc1cb41c1… (all of the seat's roots in one cut). By AI agents, Wed Nov 11 2026. No macro, syntax, notation, axiom, sorry.
-/
import Derived.Test.YtpadpmkfhljiiaaChecked
import GoSem.Claim
import GoSem.ClaimJoined
import GoSem.ClaimMapViews
import Derived.JoinedTies
import Derived.KernelRfl
namespace Go.Proofs.Ytpadpmkfhljiiaa
/- THE CELL 'sum', in the pinned program and in every row, IS THE sha256 OF THE DUMP (.gsa) THAT YtpadpmkfhljiiaaProg.lean LOADS. Nothing in Lean hashes anything: it is a label: what it is worth is what the hold of that sum in a sandbox is worth. -/
noncomputable def Try.pinned : Pinned := { name := "ytpadpmkfhljiiaa", sum := "66f2e4bfc1cb41c1071356a224a11d80899323f68f86955b8d3efe4153ee149c", checked := Try.checked }
namespace Rows
def none {H : Type} : Left H := { results := [], args := [] }

/-- 'vouchlaw1.WordExps': WHATEVER THE INPUT: true; the input reads as it did. -/
def wordExpsSpec : ChangeSpec := { name := "wordExps", fn := fun _ => fun
  | [d1, d2] => { results := [.lit (.bool true)], args := [d1, d2] }
  | _ => none }
def wordExpsRow : OpenClaim := { program := "ytpadpmkfhljiiaa", sum := "66f2e4bfc1cb41c1071356a224a11d80899323f68f86955b8d3efe4153ee149c", func := "vouch/vouchlaw1.WordExps", spec := "wordExps", inPlace := ["math/bits.Add64", "math/bits.Sub64"], unfollowed := true, recurses := true, named := ["math/bits.divideError", "math/bits.overflowError"], apart := false }
def WordExpsSaid : Prop := wordExpsRow.holds Try.pinned (OpenSpec.ofChange wordExpsSpec)

/-- ITS FALSE NEIGHBOUR: 'it returns false'. Refute it at one input. -/
def wordExpsWrong : ChangeSpec := { name := "wordExps", fn := fun _ => fun
  | [d1, d2] => { results := [.lit (.bool false)], args := [d1, d2] }
  | _ => none }
def WordExpsWrongFalsely : Prop := wordExpsRow.holds Try.pinned (OpenSpec.ofChange wordExpsWrong)

/-- 'vouchlaw1.WordCompares': WHATEVER THE INPUT: true; the input reads as it did. -/
def wordComparesSpec : ChangeSpec := { name := "wordCompares", fn := fun _ => fun
  | [d1, d2] => { results := [.lit (.bool true)], args := [d1, d2] }
  | _ => none }
def wordComparesRow : OpenClaim := { program := "ytpadpmkfhljiiaa", sum := "66f2e4bfc1cb41c1071356a224a11d80899323f68f86955b8d3efe4153ee149c", func := "vouch/vouchlaw1.WordCompares", spec := "wordCompares", inPlace := ["math/bits.Add64", "math/bits.Sub64"], unfollowed := true, recurses := true, named := ["math/bits.divideError", "math/bits.overflowError"], apart := false }
def WordComparesSaid : Prop := wordComparesRow.holds Try.pinned (OpenSpec.ofChange wordComparesSpec)

/-- ITS FALSE NEIGHBOUR: 'it returns false'. Refute it at one input. -/
def wordComparesWrong : ChangeSpec := { name := "wordCompares", fn := fun _ => fun
  | [d1, d2] => { results := [.lit (.bool false)], args := [d1, d2] }
  | _ => none }
def WordComparesWrongFalsely : Prop := wordComparesRow.holds Try.pinned (OpenSpec.ofChange wordComparesWrong)

/-- 'vouchlaw1.WordSums': WHATEVER THE INPUT: true; the input reads as it did. -/
def wordSumsSpec : ChangeSpec := { name := "wordSums", fn := fun _ => fun
  | [d] => { results := [.lit (.bool true)], args := [d] }
  | _ => none }
def wordSumsRow : OpenClaim := { program := "ytpadpmkfhljiiaa", sum := "66f2e4bfc1cb41c1071356a224a11d80899323f68f86955b8d3efe4153ee149c", func := "vouch/vouchlaw1.WordSums", spec := "wordSums", inPlace := ["math/bits.Add64", "math/bits.Sub64"], unfollowed := true, recurses := true, named := ["math/bits.divideError", "math/bits.overflowError"], apart := false }
def WordSumsSaid : Prop := wordSumsRow.holds Try.pinned (OpenSpec.ofChange wordSumsSpec)

/-- ITS FALSE NEIGHBOUR: 'it returns false'. Refute it at one input. -/
def wordSumsWrong : ChangeSpec := { name := "wordSums", fn := fun _ => fun
  | [d] => { results := [.lit (.bool false)], args := [d] }
  | _ => none }
def WordSumsWrongFalsely : Prop := wordSumsRow.holds Try.pinned (OpenSpec.ofChange wordSumsWrong)

/-- 'vouchlaw1.WordRing': WHATEVER THE INPUT: true; the input reads as it did. -/
def wordRingSpec : ChangeSpec := { name := "wordRing", fn := fun _ => fun
  | [d1, d2, d3] => { results := [.lit (.bool true)], args := [d1, d2, d3] }
  | _ => none }
def wordRingRow : OpenClaim := { program := "ytpadpmkfhljiiaa", sum := "66f2e4bfc1cb41c1071356a224a11d80899323f68f86955b8d3efe4153ee149c", func := "vouch/vouchlaw1.WordRing", spec := "wordRing", inPlace := ["math/bits.Add64", "math/bits.Sub64"], unfollowed := true, recurses := true, named := ["math/bits.divideError", "math/bits.overflowError"], apart := false }
def WordRingSaid : Prop := wordRingRow.holds Try.pinned (OpenSpec.ofChange wordRingSpec)

/-- ITS FALSE NEIGHBOUR: 'it returns false'. Refute it at one input. -/
def wordRingWrong : ChangeSpec := { name := "wordRing", fn := fun _ => fun
  | [d1, d2, d3] => { results := [.lit (.bool false)], args := [d1, d2, d3] }
  | _ => none }
def WordRingWrongFalsely : Prop := wordRingRow.holds Try.pinned (OpenSpec.ofChange wordRingWrong)

/-- 'vouchlaw1.WordDivides': WHATEVER THE INPUT: true; the input reads as it did. -/
def wordDividesSpec : ChangeSpec := { name := "wordDivides", fn := fun _ => fun
  | [d1, d2] => { results := [.lit (.bool true)], args := [d1, d2] }
  | _ => none }
def wordDividesRow : OpenClaim := { program := "ytpadpmkfhljiiaa", sum := "66f2e4bfc1cb41c1071356a224a11d80899323f68f86955b8d3efe4153ee149c", func := "vouch/vouchlaw1.WordDivides", spec := "wordDivides", inPlace := ["math/bits.Add64", "math/bits.Sub64"], unfollowed := true, recurses := true, named := ["math/bits.divideError", "math/bits.overflowError"], apart := false }
def WordDividesSaid : Prop := wordDividesRow.holds Try.pinned (OpenSpec.ofChange wordDividesSpec)

/-- ITS FALSE NEIGHBOUR: 'it returns false'. Refute it at one input. -/
def wordDividesWrong : ChangeSpec := { name := "wordDivides", fn := fun _ => fun
  | [d1, d2] => { results := [.lit (.bool false)], args := [d1, d2] }
  | _ => none }
def WordDividesWrongFalsely : Prop := wordDividesRow.holds Try.pinned (OpenSpec.ofChange wordDividesWrong)

/-- 'vouchlaw1.WordSignedDivides': WHATEVER THE INPUT: true; the input reads as it did. -/
def wordSignedDividesSpec : ChangeSpec := { name := "wordSignedDivides", fn := fun _ => fun
  | [d1, d2] => { results := [.lit (.bool true)], args := [d1, d2] }
  | _ => none }
def wordSignedDividesRow : OpenClaim := { program := "ytpadpmkfhljiiaa", sum := "66f2e4bfc1cb41c1071356a224a11d80899323f68f86955b8d3efe4153ee149c", func := "vouch/vouchlaw1.WordSignedDivides", spec := "wordSignedDivides", inPlace := ["math/bits.Sub64", "math/bits.Add64"], unfollowed := true, recurses := true, named := ["math/bits.divideError", "math/bits.overflowError"], apart := false }
def WordSignedDividesSaid : Prop := wordSignedDividesRow.holds Try.pinned (OpenSpec.ofChange wordSignedDividesSpec)

/-- ITS FALSE NEIGHBOUR: 'it returns false'. Refute it at one input. -/
def wordSignedDividesWrong : ChangeSpec := { name := "wordSignedDivides", fn := fun _ => fun
  | [d1, d2] => { results := [.lit (.bool false)], args := [d1, d2] }
  | _ => none }
def WordSignedDividesWrongFalsely : Prop := wordSignedDividesRow.holds Try.pinned (OpenSpec.ofChange wordSignedDividesWrong)

/-- 'vouchlaw1.WordResidues': WHATEVER THE INPUT: true; the input reads as it did. -/
def wordResiduesSpec : ChangeSpec := { name := "wordResidues", fn := fun _ => fun
  | [d1, d2, d3] => { results := [.lit (.bool true)], args := [d1, d2, d3] }
  | _ => none }
def wordResiduesRow : OpenClaim := { program := "ytpadpmkfhljiiaa", sum := "66f2e4bfc1cb41c1071356a224a11d80899323f68f86955b8d3efe4153ee149c", func := "vouch/vouchlaw1.WordResidues", spec := "wordResidues", inPlace := ["math/bits.Add64", "math/bits.Sub64"], unfollowed := true, recurses := true, named := ["math/bits.divideError", "math/bits.overflowError"], apart := false }
def WordResiduesSaid : Prop := wordResiduesRow.holds Try.pinned (OpenSpec.ofChange wordResiduesSpec)

/-- ITS FALSE NEIGHBOUR: 'it returns false'. Refute it at one input. -/
def wordResiduesWrong : ChangeSpec := { name := "wordResidues", fn := fun _ => fun
  | [d1, d2, d3] => { results := [.lit (.bool false)], args := [d1, d2, d3] }
  | _ => none }
def WordResiduesWrongFalsely : Prop := wordResiduesRow.holds Try.pinned (OpenSpec.ofChange wordResiduesWrong)

/-- 'vouchlaw1.WordPowers': WHATEVER THE INPUT: true; the input reads as it did. -/
def wordPowersSpec : ChangeSpec := { name := "wordPowers", fn := fun _ => fun
  | [d1, d2, d3] => { results := [.lit (.bool true)], args := [d1, d2, d3] }
  | _ => none }
def wordPowersRow : OpenClaim := { program := "ytpadpmkfhljiiaa", sum := "66f2e4bfc1cb41c1071356a224a11d80899323f68f86955b8d3efe4153ee149c", func := "vouch/vouchlaw1.WordPowers", spec := "wordPowers", inPlace := ["math/bits.Add64", "math/bits.Sub64"], unfollowed := true, recurses := true, named := ["math/bits.divideError", "math/bits.overflowError"], apart := false }
def WordPowersSaid : Prop := wordPowersRow.holds Try.pinned (OpenSpec.ofChange wordPowersSpec)

/-- ITS FALSE NEIGHBOUR: 'it returns false'. Refute it at one input. -/
def wordPowersWrong : ChangeSpec := { name := "wordPowers", fn := fun _ => fun
  | [d1, d2, d3] => { results := [.lit (.bool false)], args := [d1, d2, d3] }
  | _ => none }
def WordPowersWrongFalsely : Prop := wordPowersRow.holds Try.pinned (OpenSpec.ofChange wordPowersWrong)

/-- 'vouchlaw1.WordShifts': WHATEVER THE INPUT: true; the input reads as it did. -/
def wordShiftsSpec : ChangeSpec := { name := "wordShifts", fn := fun _ => fun
  | [d1, d2] => { results := [.lit (.bool true)], args := [d1, d2] }
  | _ => none }
def wordShiftsRow : OpenClaim := { program := "ytpadpmkfhljiiaa", sum := "66f2e4bfc1cb41c1071356a224a11d80899323f68f86955b8d3efe4153ee149c", func := "vouch/vouchlaw1.WordShifts", spec := "wordShifts", inPlace := ["math/bits.Add64", "math/bits.Sub64"], unfollowed := true, recurses := true, named := ["math/bits.divideError", "math/bits.overflowError"], apart := false }
def WordShiftsSaid : Prop := wordShiftsRow.holds Try.pinned (OpenSpec.ofChange wordShiftsSpec)

/-- ITS FALSE NEIGHBOUR: 'it returns false'. Refute it at one input. -/
def wordShiftsWrong : ChangeSpec := { name := "wordShifts", fn := fun _ => fun
  | [d1, d2] => { results := [.lit (.bool false)], args := [d1, d2] }
  | _ => none }
def WordShiftsWrongFalsely : Prop := wordShiftsRow.holds Try.pinned (OpenSpec.ofChange wordShiftsWrong)

/-- 'vouchlaw1.WordExtends': WHATEVER THE INPUT: true; the input reads as it did. -/
def wordExtendsSpec : ChangeSpec := { name := "wordExtends", fn := fun _ => fun
  | [d1, d2] => { results := [.lit (.bool true)], args := [d1, d2] }
  | _ => none }
def wordExtendsRow : OpenClaim := { program := "ytpadpmkfhljiiaa", sum := "66f2e4bfc1cb41c1071356a224a11d80899323f68f86955b8d3efe4153ee149c", func := "vouch/vouchlaw1.WordExtends", spec := "wordExtends", inPlace := ["math/bits.Add64", "math/bits.Sub64"], unfollowed := true, recurses := true, named := ["math/bits.divideError", "math/bits.overflowError"], apart := false }
def WordExtendsSaid : Prop := wordExtendsRow.holds Try.pinned (OpenSpec.ofChange wordExtendsSpec)

/-- ITS FALSE NEIGHBOUR: 'it returns false'. Refute it at one input. -/
def wordExtendsWrong : ChangeSpec := { name := "wordExtends", fn := fun _ => fun
  | [d1, d2] => { results := [.lit (.bool false)], args := [d1, d2] }
  | _ => none }
def WordExtendsWrongFalsely : Prop := wordExtendsRow.holds Try.pinned (OpenSpec.ofChange wordExtendsWrong)

/-- 'vouchlaw1.WordBytes': WHATEVER THE INPUT: true; the input reads as it did. -/
def wordBytesSpec : ChangeSpec := { name := "wordBytes", fn := fun _ => fun
  | [d] => { results := [.lit (.bool true)], args := [d] }
  | _ => none }
def wordBytesRow : OpenClaim := { program := "ytpadpmkfhljiiaa", sum := "66f2e4bfc1cb41c1071356a224a11d80899323f68f86955b8d3efe4153ee149c", func := "vouch/vouchlaw1.WordBytes", spec := "wordBytes", inPlace := ["math/bits.Add64", "math/bits.Sub64"], unfollowed := true, recurses := true, named := ["math/bits.divideError", "math/bits.overflowError"], apart := false }
def WordBytesSaid : Prop := wordBytesRow.holds Try.pinned (OpenSpec.ofChange wordBytesSpec)

/-- ITS FALSE NEIGHBOUR: 'it returns false'. Refute it at one input. -/
def wordBytesWrong : ChangeSpec := { name := "wordBytes", fn := fun _ => fun
  | [d] => { results := [.lit (.bool false)], args := [d] }
  | _ => none }
def WordBytesWrongFalsely : Prop := wordBytesRow.holds Try.pinned (OpenSpec.ofChange wordBytesWrong)

/-- 'vouchlaw1.WordOrders': WHATEVER THE INPUT: true; the input reads as it did. -/
def wordOrdersSpec : ChangeSpec := { name := "wordOrders", fn := fun _ => fun
  | [d1, d2, d3] => { results := [.lit (.bool true)], args := [d1, d2, d3] }
  | _ => none }
def wordOrdersRow : OpenClaim := { program := "ytpadpmkfhljiiaa", sum := "66f2e4bfc1cb41c1071356a224a11d80899323f68f86955b8d3efe4153ee149c", func := "vouch/vouchlaw1.WordOrders", spec := "wordOrders", inPlace := ["math/bits.Add64", "math/bits.Sub64"], unfollowed := true, recurses := true, named := ["math/bits.divideError", "math/bits.overflowError"], apart := false }
def WordOrdersSaid : Prop := wordOrdersRow.holds Try.pinned (OpenSpec.ofChange wordOrdersSpec)

/-- ITS FALSE NEIGHBOUR: 'it returns false'. Refute it at one input. -/
def wordOrdersWrong : ChangeSpec := { name := "wordOrders", fn := fun _ => fun
  | [d1, d2, d3] => { results := [.lit (.bool false)], args := [d1, d2, d3] }
  | _ => none }
def WordOrdersWrongFalsely : Prop := wordOrdersRow.holds Try.pinned (OpenSpec.ofChange wordOrdersWrong)

/-- 'vouchlaw1.WordReadsBack': WHATEVER THE INPUT: true; the input reads as it did. -/
def wordReadsBackSpec : ChangeSpec := { name := "wordReadsBack", fn := fun _ => fun
  | [d1, d2] => { results := [.lit (.bool true)], args := [d1, d2] }
  | _ => none }
def wordReadsBackRow : OpenClaim := { program := "ytpadpmkfhljiiaa", sum := "66f2e4bfc1cb41c1071356a224a11d80899323f68f86955b8d3efe4153ee149c", func := "vouch/vouchlaw1.WordReadsBack", spec := "wordReadsBack", inPlace := ["math/bits.Add64", "math/bits.Sub64"], unfollowed := true, recurses := true, named := ["math/bits.divideError", "math/bits.overflowError"], apart := false }
def WordReadsBackSaid : Prop := wordReadsBackRow.holds Try.pinned (OpenSpec.ofChange wordReadsBackSpec)

/-- ITS FALSE NEIGHBOUR: 'it returns false'. Refute it at one input. -/
def wordReadsBackWrong : ChangeSpec := { name := "wordReadsBack", fn := fun _ => fun
  | [d1, d2] => { results := [.lit (.bool false)], args := [d1, d2] }
  | _ => none }
def WordReadsBackWrongFalsely : Prop := wordReadsBackRow.holds Try.pinned (OpenSpec.ofChange wordReadsBackWrong)

/-- 'vouchlaw1.WordPlainSums': WHATEVER THE INPUT: true; the input reads as it did. -/
def wordPlainSumsSpec : ChangeSpec := { name := "wordPlainSums", fn := fun _ => fun
  | [d] => { results := [.lit (.bool true)], args := [d] }
  | _ => none }
def wordPlainSumsRow : OpenClaim := { program := "ytpadpmkfhljiiaa", sum := "66f2e4bfc1cb41c1071356a224a11d80899323f68f86955b8d3efe4153ee149c", func := "vouch/vouchlaw1.WordPlainSums", spec := "wordPlainSums", inPlace := ["math/bits.Add64", "math/bits.Sub64"], unfollowed := true, recurses := true, named := ["math/bits.divideError", "math/bits.overflowError"], apart := false }
def WordPlainSumsSaid : Prop := wordPlainSumsRow.holds Try.pinned (OpenSpec.ofChange wordPlainSumsSpec)

/-- ITS FALSE NEIGHBOUR: 'it returns false'. Refute it at one input. -/
def wordPlainSumsWrong : ChangeSpec := { name := "wordPlainSums", fn := fun _ => fun
  | [d] => { results := [.lit (.bool false)], args := [d] }
  | _ => none }
def WordPlainSumsWrongFalsely : Prop := wordPlainSumsRow.holds Try.pinned (OpenSpec.ofChange wordPlainSumsWrong)

/- THE SECOND FORM. 'bulk': how many values and letters a reading holds, each counted each time it is reached (what is shared counts as often as it is met; a slice's spare places count too). A statement '..UptoSaid' is the law's where the arguments, and the package variables that the reading takes, are together of bulk at most 1048576: NARROWER than '..Said'. Prove '..Said' where nothing that the law and all that it calls make is longer than what came in: it says more and counts as full. Else prove '..UptoSaid'. A law counts once. -/
mutual
def uptoBulk {H : Type} : DataW H → Nat
  | .lit (.string bytes) => bytes.length + 1
  | .lit _ => 1
  | .nil => 1
  | .ptr d => uptoBulk d + 1
  | .slice elems spare => uptoBulkAll elems + uptoBulkAll spare + 1
  | .agg parts => uptoBulkAll parts + 1
  | .iface _ d => uptoBulk d + 1
  | .map entries => uptoBulkEntries entries + 1
  | .held _ => 1
def uptoBulkAll {H : Type} : List (DataW H) → Nat
  | [] => 0
  | d :: r => uptoBulk d + uptoBulkAll r
def uptoBulkEntries {H : Type} : List (Lit × DataW H) → Nat
  | [] => 0
  | x :: r => uptoBulkEntry x + uptoBulkEntries r
def uptoBulkEntry {H : Type} : Lit × DataW H → Nat
  | (.string bytes, d) => bytes.length + uptoBulk d + 1
  | (_, d) => uptoBulk d + 1
 end
def uptoSmall : (H : Type) → List (DataW H) → Bool := fun _ ds => decide (uptoBulkAll ds ≤ 1048576)
def OpenSpec.upto (s : _root_.Go.ChangeSpec) : _root_.Go.OpenSpec := { _root_.Go.OpenSpec.ofChange s with cond := some uptoSmall }

/-- 'vouchlaw1.WordExps', WHERE WHAT IT READS IS OF BULK AT MOST 1048576: true; the input reads as it did. -/
def wordExpsUptoRow : OpenClaim := { program := "ytpadpmkfhljiiaa", sum := "66f2e4bfc1cb41c1071356a224a11d80899323f68f86955b8d3efe4153ee149c", func := "vouch/vouchlaw1.WordExps", spec := "wordExps", inPlace := ["math/bits.Add64", "math/bits.Sub64"], unfollowed := true, recurses := true, named := ["math/bits.divideError", "math/bits.overflowError"], apart := false, narrowed := true }
def WordExpsUptoSaid : Prop := wordExpsUptoRow.holds Try.pinned (OpenSpec.upto wordExpsSpec)

/-- 'vouchlaw1.WordCompares', WHERE WHAT IT READS IS OF BULK AT MOST 1048576: true; the input reads as it did. -/
def wordComparesUptoRow : OpenClaim := { program := "ytpadpmkfhljiiaa", sum := "66f2e4bfc1cb41c1071356a224a11d80899323f68f86955b8d3efe4153ee149c", func := "vouch/vouchlaw1.WordCompares", spec := "wordCompares", inPlace := ["math/bits.Add64", "math/bits.Sub64"], unfollowed := true, recurses := true, named := ["math/bits.divideError", "math/bits.overflowError"], apart := false, narrowed := true }
def WordComparesUptoSaid : Prop := wordComparesUptoRow.holds Try.pinned (OpenSpec.upto wordComparesSpec)

/-- 'vouchlaw1.WordSums', WHERE WHAT IT READS IS OF BULK AT MOST 1048576: true; the input reads as it did. -/
def wordSumsUptoRow : OpenClaim := { program := "ytpadpmkfhljiiaa", sum := "66f2e4bfc1cb41c1071356a224a11d80899323f68f86955b8d3efe4153ee149c", func := "vouch/vouchlaw1.WordSums", spec := "wordSums", inPlace := ["math/bits.Add64", "math/bits.Sub64"], unfollowed := true, recurses := true, named := ["math/bits.divideError", "math/bits.overflowError"], apart := false, narrowed := true }
def WordSumsUptoSaid : Prop := wordSumsUptoRow.holds Try.pinned (OpenSpec.upto wordSumsSpec)

/-- 'vouchlaw1.WordRing', WHERE WHAT IT READS IS OF BULK AT MOST 1048576: true; the input reads as it did. -/
def wordRingUptoRow : OpenClaim := { program := "ytpadpmkfhljiiaa", sum := "66f2e4bfc1cb41c1071356a224a11d80899323f68f86955b8d3efe4153ee149c", func := "vouch/vouchlaw1.WordRing", spec := "wordRing", inPlace := ["math/bits.Add64", "math/bits.Sub64"], unfollowed := true, recurses := true, named := ["math/bits.divideError", "math/bits.overflowError"], apart := false, narrowed := true }
def WordRingUptoSaid : Prop := wordRingUptoRow.holds Try.pinned (OpenSpec.upto wordRingSpec)

/-- 'vouchlaw1.WordDivides', WHERE WHAT IT READS IS OF BULK AT MOST 1048576: true; the input reads as it did. -/
def wordDividesUptoRow : OpenClaim := { program := "ytpadpmkfhljiiaa", sum := "66f2e4bfc1cb41c1071356a224a11d80899323f68f86955b8d3efe4153ee149c", func := "vouch/vouchlaw1.WordDivides", spec := "wordDivides", inPlace := ["math/bits.Add64", "math/bits.Sub64"], unfollowed := true, recurses := true, named := ["math/bits.divideError", "math/bits.overflowError"], apart := false, narrowed := true }
def WordDividesUptoSaid : Prop := wordDividesUptoRow.holds Try.pinned (OpenSpec.upto wordDividesSpec)

/-- 'vouchlaw1.WordSignedDivides', WHERE WHAT IT READS IS OF BULK AT MOST 1048576: true; the input reads as it did. -/
def wordSignedDividesUptoRow : OpenClaim := { program := "ytpadpmkfhljiiaa", sum := "66f2e4bfc1cb41c1071356a224a11d80899323f68f86955b8d3efe4153ee149c", func := "vouch/vouchlaw1.WordSignedDivides", spec := "wordSignedDivides", inPlace := ["math/bits.Sub64", "math/bits.Add64"], unfollowed := true, recurses := true, named := ["math/bits.divideError", "math/bits.overflowError"], apart := false, narrowed := true }
def WordSignedDividesUptoSaid : Prop := wordSignedDividesUptoRow.holds Try.pinned (OpenSpec.upto wordSignedDividesSpec)

/-- 'vouchlaw1.WordResidues', WHERE WHAT IT READS IS OF BULK AT MOST 1048576: true; the input reads as it did. -/
def wordResiduesUptoRow : OpenClaim := { program := "ytpadpmkfhljiiaa", sum := "66f2e4bfc1cb41c1071356a224a11d80899323f68f86955b8d3efe4153ee149c", func := "vouch/vouchlaw1.WordResidues", spec := "wordResidues", inPlace := ["math/bits.Add64", "math/bits.Sub64"], unfollowed := true, recurses := true, named := ["math/bits.divideError", "math/bits.overflowError"], apart := false, narrowed := true }
def WordResiduesUptoSaid : Prop := wordResiduesUptoRow.holds Try.pinned (OpenSpec.upto wordResiduesSpec)

/-- 'vouchlaw1.WordPowers', WHERE WHAT IT READS IS OF BULK AT MOST 1048576: true; the input reads as it did. -/
def wordPowersUptoRow : OpenClaim := { program := "ytpadpmkfhljiiaa", sum := "66f2e4bfc1cb41c1071356a224a11d80899323f68f86955b8d3efe4153ee149c", func := "vouch/vouchlaw1.WordPowers", spec := "wordPowers", inPlace := ["math/bits.Add64", "math/bits.Sub64"], unfollowed := true, recurses := true, named := ["math/bits.divideError", "math/bits.overflowError"], apart := false, narrowed := true }
def WordPowersUptoSaid : Prop := wordPowersUptoRow.holds Try.pinned (OpenSpec.upto wordPowersSpec)

/-- 'vouchlaw1.WordShifts', WHERE WHAT IT READS IS OF BULK AT MOST 1048576: true; the input reads as it did. -/
def wordShiftsUptoRow : OpenClaim := { program := "ytpadpmkfhljiiaa", sum := "66f2e4bfc1cb41c1071356a224a11d80899323f68f86955b8d3efe4153ee149c", func := "vouch/vouchlaw1.WordShifts", spec := "wordShifts", inPlace := ["math/bits.Add64", "math/bits.Sub64"], unfollowed := true, recurses := true, named := ["math/bits.divideError", "math/bits.overflowError"], apart := false, narrowed := true }
def WordShiftsUptoSaid : Prop := wordShiftsUptoRow.holds Try.pinned (OpenSpec.upto wordShiftsSpec)

/-- 'vouchlaw1.WordExtends', WHERE WHAT IT READS IS OF BULK AT MOST 1048576: true; the input reads as it did. -/
def wordExtendsUptoRow : OpenClaim := { program := "ytpadpmkfhljiiaa", sum := "66f2e4bfc1cb41c1071356a224a11d80899323f68f86955b8d3efe4153ee149c", func := "vouch/vouchlaw1.WordExtends", spec := "wordExtends", inPlace := ["math/bits.Add64", "math/bits.Sub64"], unfollowed := true, recurses := true, named := ["math/bits.divideError", "math/bits.overflowError"], apart := false, narrowed := true }
def WordExtendsUptoSaid : Prop := wordExtendsUptoRow.holds Try.pinned (OpenSpec.upto wordExtendsSpec)

/-- 'vouchlaw1.WordBytes', WHERE WHAT IT READS IS OF BULK AT MOST 1048576: true; the input reads as it did. -/
def wordBytesUptoRow : OpenClaim := { program := "ytpadpmkfhljiiaa", sum := "66f2e4bfc1cb41c1071356a224a11d80899323f68f86955b8d3efe4153ee149c", func := "vouch/vouchlaw1.WordBytes", spec := "wordBytes", inPlace := ["math/bits.Add64", "math/bits.Sub64"], unfollowed := true, recurses := true, named := ["math/bits.divideError", "math/bits.overflowError"], apart := false, narrowed := true }
def WordBytesUptoSaid : Prop := wordBytesUptoRow.holds Try.pinned (OpenSpec.upto wordBytesSpec)

/-- 'vouchlaw1.WordOrders', WHERE WHAT IT READS IS OF BULK AT MOST 1048576: true; the input reads as it did. -/
def wordOrdersUptoRow : OpenClaim := { program := "ytpadpmkfhljiiaa", sum := "66f2e4bfc1cb41c1071356a224a11d80899323f68f86955b8d3efe4153ee149c", func := "vouch/vouchlaw1.WordOrders", spec := "wordOrders", inPlace := ["math/bits.Add64", "math/bits.Sub64"], unfollowed := true, recurses := true, named := ["math/bits.divideError", "math/bits.overflowError"], apart := false, narrowed := true }
def WordOrdersUptoSaid : Prop := wordOrdersUptoRow.holds Try.pinned (OpenSpec.upto wordOrdersSpec)

/-- 'vouchlaw1.WordReadsBack', WHERE WHAT IT READS IS OF BULK AT MOST 1048576: true; the input reads as it did. -/
def wordReadsBackUptoRow : OpenClaim := { program := "ytpadpmkfhljiiaa", sum := "66f2e4bfc1cb41c1071356a224a11d80899323f68f86955b8d3efe4153ee149c", func := "vouch/vouchlaw1.WordReadsBack", spec := "wordReadsBack", inPlace := ["math/bits.Add64", "math/bits.Sub64"], unfollowed := true, recurses := true, named := ["math/bits.divideError", "math/bits.overflowError"], apart := false, narrowed := true }
def WordReadsBackUptoSaid : Prop := wordReadsBackUptoRow.holds Try.pinned (OpenSpec.upto wordReadsBackSpec)

/-- 'vouchlaw1.WordPlainSums', WHERE WHAT IT READS IS OF BULK AT MOST 1048576: true; the input reads as it did. -/
def wordPlainSumsUptoRow : OpenClaim := { program := "ytpadpmkfhljiiaa", sum := "66f2e4bfc1cb41c1071356a224a11d80899323f68f86955b8d3efe4153ee149c", func := "vouch/vouchlaw1.WordPlainSums", spec := "wordPlainSums", inPlace := ["math/bits.Add64", "math/bits.Sub64"], unfollowed := true, recurses := true, named := ["math/bits.divideError", "math/bits.overflowError"], apart := false, narrowed := true }
def WordPlainSumsUptoSaid : Prop := wordPlainSumsUptoRow.holds Try.pinned (OpenSpec.upto wordPlainSumsSpec)

end Rows
end Go.Proofs.Ytpadpmkfhljiiaa
