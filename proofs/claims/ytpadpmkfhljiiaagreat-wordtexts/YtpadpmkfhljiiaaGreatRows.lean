/-
  No cell of these rows narrows 'for every input' (looked for: loops, veiled, ifaces, maps, wideKeys, modest, calm, conditions, laid).
  DERIVED. THE GIVEN ROWS OF THIS SEAT. 8 by the template 'for every input the law returns true; each argument reads behind the call as it read before'; 0 by the template 'total and deterministic' (their statements: YtpadpmkfhljiiaaGreatTotals.lean).
  GIVEN WITH THE SEED: the statements are not yours to turn. If you find one false, say at which input.
  Laid BY PROGRAM, IN A SANDBOX (cutbox-rows.mjs): the forced cells as the released guide's own fill.sh prints them over the translation fe6b9d777d1d2331… (all of the seat's roots in one cut). By AI agents, Wed Nov 11 2026. No macro, syntax, notation, axiom, sorry.
-/
import Derived.Test.YtpadpmkfhljiiaaGreatChecked
import GoSem.Claim
import GoSem.ClaimJoined
import GoSem.ClaimMapViews
import Derived.JoinedTies
import Derived.KernelRfl
namespace Go.Proofs.YtpadpmkfhljiiaaGreat
/- THE CELL 'sum', in the pinned program and in every row, IS THE sha256 OF THE DUMP (.gsa) THAT YtpadpmkfhljiiaaGreatProg.lean LOADS. Nothing in Lean hashes anything: it is a label: what it is worth is what the hold of that sum in a sandbox is worth. -/
noncomputable def Tryz.pinned : Pinned := { name := "ytpadpmkfhljiiaagreat", sum := "fe6b9d777d1d2331092a2ecd16ccb57f20a9b804b3bc016b17d03e082214b763", checked := Tryz.checked }
namespace Rows
def none {H : Type} : Left H := { results := [], args := [] }

/-- 'vouchlaw1.WordReckons': WHATEVER THE INPUT: true; the input reads as it did. -/
def wordReckonsSpec : ChangeSpec := { name := "wordReckons", fn := fun _ => fun
  | [d1, d2] => { results := [.lit (.bool true)], args := [d1, d2] }
  | _ => none }
def wordReckonsRow : OpenClaim := { program := "ytpadpmkfhljiiaagreat", sum := "fe6b9d777d1d2331092a2ecd16ccb57f20a9b804b3bc016b17d03e082214b763", func := "vouch/vouchlaw1.WordReckons", spec := "wordReckons", inPlace := ["math/bits.Add64", "math/bits.Sub64"], unfollowed := true, recurses := true, named := ["math/bits.divideError", "math/bits.overflowError"], apart := false }
def WordReckonsSaid : Prop := wordReckonsRow.holds Tryz.pinned (OpenSpec.ofChange wordReckonsSpec)

/-- ITS FALSE NEIGHBOUR: 'it returns false'. Refute it at one input. -/
def wordReckonsWrong : ChangeSpec := { name := "wordReckons", fn := fun _ => fun
  | [d1, d2] => { results := [.lit (.bool false)], args := [d1, d2] }
  | _ => none }
def WordReckonsWrongFalsely : Prop := wordReckonsRow.holds Tryz.pinned (OpenSpec.ofChange wordReckonsWrong)

/-- 'vouchlaw1.WordSigns': WHATEVER THE INPUT: true; the input reads as it did. -/
def wordSignsSpec : ChangeSpec := { name := "wordSigns", fn := fun _ => fun
  | [d1, d2] => { results := [.lit (.bool true)], args := [d1, d2] }
  | _ => none }
def wordSignsRow : OpenClaim := { program := "ytpadpmkfhljiiaagreat", sum := "fe6b9d777d1d2331092a2ecd16ccb57f20a9b804b3bc016b17d03e082214b763", func := "vouch/vouchlaw1.WordSigns", spec := "wordSigns", inPlace := ["math/bits.Sub64", "math/bits.Add64"], unfollowed := true, recurses := true, named := ["math/bits.divideError", "math/bits.overflowError"], apart := false }
def WordSignsSaid : Prop := wordSignsRow.holds Tryz.pinned (OpenSpec.ofChange wordSignsSpec)

/-- ITS FALSE NEIGHBOUR: 'it returns false'. Refute it at one input. -/
def wordSignsWrong : ChangeSpec := { name := "wordSigns", fn := fun _ => fun
  | [d1, d2] => { results := [.lit (.bool false)], args := [d1, d2] }
  | _ => none }
def WordSignsWrongFalsely : Prop := wordSignsRow.holds Tryz.pinned (OpenSpec.ofChange wordSignsWrong)

/-- 'vouchlaw1.WordModulos': WHATEVER THE INPUT: true; the input reads as it did. -/
def wordModulosSpec : ChangeSpec := { name := "wordModulos", fn := fun _ => fun
  | [d1, d2, d3] => { results := [.lit (.bool true)], args := [d1, d2, d3] }
  | _ => none }
def wordModulosRow : OpenClaim := { program := "ytpadpmkfhljiiaagreat", sum := "fe6b9d777d1d2331092a2ecd16ccb57f20a9b804b3bc016b17d03e082214b763", func := "vouch/vouchlaw1.WordModulos", spec := "wordModulos", inPlace := ["math/bits.Add64", "math/bits.Sub64"], unfollowed := true, recurses := true, named := ["math/bits.divideError", "math/bits.overflowError"], apart := false }
def WordModulosSaid : Prop := wordModulosRow.holds Tryz.pinned (OpenSpec.ofChange wordModulosSpec)

/-- ITS FALSE NEIGHBOUR: 'it returns false'. Refute it at one input. -/
def wordModulosWrong : ChangeSpec := { name := "wordModulos", fn := fun _ => fun
  | [d1, d2, d3] => { results := [.lit (.bool false)], args := [d1, d2, d3] }
  | _ => none }
def WordModulosWrongFalsely : Prop := wordModulosRow.holds Tryz.pinned (OpenSpec.ofChange wordModulosWrong)

/-- 'vouchlaw1.WordBits': WHATEVER THE INPUT: true; the input reads as it did. -/
def wordBitsSpec : ChangeSpec := { name := "wordBits", fn := fun _ => fun
  | [d1, d2] => { results := [.lit (.bool true)], args := [d1, d2] }
  | _ => none }
def wordBitsRow : OpenClaim := { program := "ytpadpmkfhljiiaagreat", sum := "fe6b9d777d1d2331092a2ecd16ccb57f20a9b804b3bc016b17d03e082214b763", func := "vouch/vouchlaw1.WordBits", spec := "wordBits", inPlace := ["math/bits.Add64", "math/bits.Sub64"], unfollowed := true, recurses := true, named := ["math/bits.divideError", "math/bits.overflowError"], apart := false }
def WordBitsSaid : Prop := wordBitsRow.holds Tryz.pinned (OpenSpec.ofChange wordBitsSpec)

/-- ITS FALSE NEIGHBOUR: 'it returns false'. Refute it at one input. -/
def wordBitsWrong : ChangeSpec := { name := "wordBits", fn := fun _ => fun
  | [d1, d2] => { results := [.lit (.bool false)], args := [d1, d2] }
  | _ => none }
def WordBitsWrongFalsely : Prop := wordBitsRow.holds Tryz.pinned (OpenSpec.ofChange wordBitsWrong)

/-- 'vouchlaw1.WordDoes': WHATEVER THE INPUT: true; the input reads as it did. -/
def wordDoesSpec : ChangeSpec := { name := "wordDoes", fn := fun _ => fun
  | [d1, d2, d3, d4] => { results := [.lit (.bool true)], args := [d1, d2, d3, d4] }
  | _ => none }
def wordDoesRow : OpenClaim := { program := "ytpadpmkfhljiiaagreat", sum := "fe6b9d777d1d2331092a2ecd16ccb57f20a9b804b3bc016b17d03e082214b763", func := "vouch/vouchlaw1.WordDoes", spec := "wordDoes", inPlace := ["math/bits.Add64", "math/bits.Sub64"], unfollowed := true, recurses := true, named := ["math/bits.divideError", "math/bits.overflowError"], apart := false }
def WordDoesSaid : Prop := wordDoesRow.holds Tryz.pinned (OpenSpec.ofChange wordDoesSpec)

/-- ITS FALSE NEIGHBOUR: 'it returns false'. Refute it at one input. -/
def wordDoesWrong : ChangeSpec := { name := "wordDoes", fn := fun _ => fun
  | [d1, d2, d3, d4] => { results := [.lit (.bool false)], args := [d1, d2, d3, d4] }
  | _ => none }
def WordDoesWrongFalsely : Prop := wordDoesRow.holds Tryz.pinned (OpenSpec.ofChange wordDoesWrong)

/-- 'vouchlaw1.WordForms': WHATEVER THE INPUT: true; the input reads as it did. -/
def wordFormsSpec : ChangeSpec := { name := "wordForms", fn := fun _ => fun
  | [d1, d2, d3, d4] => { results := [.lit (.bool true)], args := [d1, d2, d3, d4] }
  | _ => none }
def wordFormsRow : OpenClaim := { program := "ytpadpmkfhljiiaagreat", sum := "fe6b9d777d1d2331092a2ecd16ccb57f20a9b804b3bc016b17d03e082214b763", func := "vouch/vouchlaw1.WordForms", spec := "wordForms", inPlace := ["math/bits.Add64", "math/bits.Sub64"], unfollowed := true, recurses := true, named := ["math/bits.divideError", "math/bits.overflowError"], apart := false }
def WordFormsSaid : Prop := wordFormsRow.holds Tryz.pinned (OpenSpec.ofChange wordFormsSpec)

/-- ITS FALSE NEIGHBOUR: 'it returns false'. Refute it at one input. -/
def wordFormsWrong : ChangeSpec := { name := "wordForms", fn := fun _ => fun
  | [d1, d2, d3, d4] => { results := [.lit (.bool false)], args := [d1, d2, d3, d4] }
  | _ => none }
def WordFormsWrongFalsely : Prop := wordFormsRow.holds Tryz.pinned (OpenSpec.ofChange wordFormsWrong)

/-- 'vouchlaw1.WordTexts': WHATEVER THE INPUT: true; the input reads as it did. -/
def wordTextsSpec : ChangeSpec := { name := "wordTexts", fn := fun _ => fun
  | [d1, d2] => { results := [.lit (.bool true)], args := [d1, d2] }
  | _ => none }
def wordTextsRow : OpenClaim := { program := "ytpadpmkfhljiiaagreat", sum := "fe6b9d777d1d2331092a2ecd16ccb57f20a9b804b3bc016b17d03e082214b763", func := "vouch/vouchlaw1.WordTexts", spec := "wordTexts", inPlace := ["math/bits.Add64", "math/bits.Sub64"], unfollowed := true, recurses := true, named := ["math/bits.divideError", "math/bits.overflowError"], apart := false }
def WordTextsSaid : Prop := wordTextsRow.holds Tryz.pinned (OpenSpec.ofChange wordTextsSpec)

/-- ITS FALSE NEIGHBOUR: 'it returns false'. Refute it at one input. -/
def wordTextsWrong : ChangeSpec := { name := "wordTexts", fn := fun _ => fun
  | [d1, d2] => { results := [.lit (.bool false)], args := [d1, d2] }
  | _ => none }
def WordTextsWrongFalsely : Prop := wordTextsRow.holds Tryz.pinned (OpenSpec.ofChange wordTextsWrong)

/-- 'vouchlaw1.WordPlays': WHATEVER THE INPUT: true; the input reads as it did. -/
def wordPlaysSpec : ChangeSpec := { name := "wordPlays", fn := fun _ => fun
  | [d] => { results := [.lit (.bool true)], args := [d] }
  | _ => none }
def wordPlaysRow : OpenClaim := { program := "ytpadpmkfhljiiaagreat", sum := "fe6b9d777d1d2331092a2ecd16ccb57f20a9b804b3bc016b17d03e082214b763", func := "vouch/vouchlaw1.WordPlays", spec := "wordPlays", inPlace := ["math/bits.Add64", "math/bits.Sub64"], unfollowed := true, recurses := true, named := ["math/bits.divideError", "math/bits.overflowError"], apart := false }
def WordPlaysSaid : Prop := wordPlaysRow.holds Tryz.pinned (OpenSpec.ofChange wordPlaysSpec)

/-- ITS FALSE NEIGHBOUR: 'it returns false'. Refute it at one input. -/
def wordPlaysWrong : ChangeSpec := { name := "wordPlays", fn := fun _ => fun
  | [d] => { results := [.lit (.bool false)], args := [d] }
  | _ => none }
def WordPlaysWrongFalsely : Prop := wordPlaysRow.holds Tryz.pinned (OpenSpec.ofChange wordPlaysWrong)

/- THE SECOND FORM. 'bulk': how many values and letters a reading holds, each counted each time it is reached (what is shared counts as often as it is met; a slice's spare places count too). A statement '..UptoSaid' is the law's where the arguments, and the package variables that the reading takes, are together of bulk at most 1048576: NARROWER than '..Said'. Prove '..Said' where nothing that the law and all that it calls make is longer than what came in: it says more and counts as full. Else prove '..UptoSaid'. A law counts once. -/
mutual
def uptoBulk {H : Type} : DataW H → Nat
  | .lit (.string bytes) => bytes.length + 1
  | .lit _ => 1
  | .nil => 1
  | .ptr d => uptoBulk d + 1
  | .slice elems spare => uptoBulkAll elems + uptoBulkAll spare + 1
  | .agg parts => uptoBulkAll parts + 1
  | .iface _ d => uptoBulk d + 1
  | .map entries => uptoBulkEntries entries + 1
  | .held _ => 1
def uptoBulkAll {H : Type} : List (DataW H) → Nat
  | [] => 0
  | d :: r => uptoBulk d + uptoBulkAll r
def uptoBulkEntries {H : Type} : List (Lit × DataW H) → Nat
  | [] => 0
  | x :: r => uptoBulkEntry x + uptoBulkEntries r
def uptoBulkEntry {H : Type} : Lit × DataW H → Nat
  | (.string bytes, d) => bytes.length + uptoBulk d + 1
  | (_, d) => uptoBulk d + 1
 end
def uptoSmall : (H : Type) → List (DataW H) → Bool := fun _ ds => decide (uptoBulkAll ds ≤ 1048576)
def OpenSpec.upto (s : _root_.Go.ChangeSpec) : _root_.Go.OpenSpec := { _root_.Go.OpenSpec.ofChange s with cond := some uptoSmall }

/-- 'vouchlaw1.WordReckons', WHERE WHAT IT READS IS OF BULK AT MOST 1048576: true; the input reads as it did. -/
def wordReckonsUptoRow : OpenClaim := { program := "ytpadpmkfhljiiaagreat", sum := "fe6b9d777d1d2331092a2ecd16ccb57f20a9b804b3bc016b17d03e082214b763", func := "vouch/vouchlaw1.WordReckons", spec := "wordReckons", inPlace := ["math/bits.Add64", "math/bits.Sub64"], unfollowed := true, recurses := true, named := ["math/bits.divideError", "math/bits.overflowError"], apart := false, narrowed := true }
def WordReckonsUptoSaid : Prop := wordReckonsUptoRow.holds Tryz.pinned (OpenSpec.upto wordReckonsSpec)

/-- 'vouchlaw1.WordSigns', WHERE WHAT IT READS IS OF BULK AT MOST 1048576: true; the input reads as it did. -/
def wordSignsUptoRow : OpenClaim := { program := "ytpadpmkfhljiiaagreat", sum := "fe6b9d777d1d2331092a2ecd16ccb57f20a9b804b3bc016b17d03e082214b763", func := "vouch/vouchlaw1.WordSigns", spec := "wordSigns", inPlace := ["math/bits.Sub64", "math/bits.Add64"], unfollowed := true, recurses := true, named := ["math/bits.divideError", "math/bits.overflowError"], apart := false, narrowed := true }
def WordSignsUptoSaid : Prop := wordSignsUptoRow.holds Tryz.pinned (OpenSpec.upto wordSignsSpec)

/-- 'vouchlaw1.WordModulos', WHERE WHAT IT READS IS OF BULK AT MOST 1048576: true; the input reads as it did. -/
def wordModulosUptoRow : OpenClaim := { program := "ytpadpmkfhljiiaagreat", sum := "fe6b9d777d1d2331092a2ecd16ccb57f20a9b804b3bc016b17d03e082214b763", func := "vouch/vouchlaw1.WordModulos", spec := "wordModulos", inPlace := ["math/bits.Add64", "math/bits.Sub64"], unfollowed := true, recurses := true, named := ["math/bits.divideError", "math/bits.overflowError"], apart := false, narrowed := true }
def WordModulosUptoSaid : Prop := wordModulosUptoRow.holds Tryz.pinned (OpenSpec.upto wordModulosSpec)

/-- 'vouchlaw1.WordBits', WHERE WHAT IT READS IS OF BULK AT MOST 1048576: true; the input reads as it did. -/
def wordBitsUptoRow : OpenClaim := { program := "ytpadpmkfhljiiaagreat", sum := "fe6b9d777d1d2331092a2ecd16ccb57f20a9b804b3bc016b17d03e082214b763", func := "vouch/vouchlaw1.WordBits", spec := "wordBits", inPlace := ["math/bits.Add64", "math/bits.Sub64"], unfollowed := true, recurses := true, named := ["math/bits.divideError", "math/bits.overflowError"], apart := false, narrowed := true }
def WordBitsUptoSaid : Prop := wordBitsUptoRow.holds Tryz.pinned (OpenSpec.upto wordBitsSpec)

/-- 'vouchlaw1.WordDoes', WHERE WHAT IT READS IS OF BULK AT MOST 1048576: true; the input reads as it did. -/
def wordDoesUptoRow : OpenClaim := { program := "ytpadpmkfhljiiaagreat", sum := "fe6b9d777d1d2331092a2ecd16ccb57f20a9b804b3bc016b17d03e082214b763", func := "vouch/vouchlaw1.WordDoes", spec := "wordDoes", inPlace := ["math/bits.Add64", "math/bits.Sub64"], unfollowed := true, recurses := true, named := ["math/bits.divideError", "math/bits.overflowError"], apart := false, narrowed := true }
def WordDoesUptoSaid : Prop := wordDoesUptoRow.holds Tryz.pinned (OpenSpec.upto wordDoesSpec)

/-- 'vouchlaw1.WordForms', WHERE WHAT IT READS IS OF BULK AT MOST 1048576: true; the input reads as it did. -/
def wordFormsUptoRow : OpenClaim := { program := "ytpadpmkfhljiiaagreat", sum := "fe6b9d777d1d2331092a2ecd16ccb57f20a9b804b3bc016b17d03e082214b763", func := "vouch/vouchlaw1.WordForms", spec := "wordForms", inPlace := ["math/bits.Add64", "math/bits.Sub64"], unfollowed := true, recurses := true, named := ["math/bits.divideError", "math/bits.overflowError"], apart := false, narrowed := true }
def WordFormsUptoSaid : Prop := wordFormsUptoRow.holds Tryz.pinned (OpenSpec.upto wordFormsSpec)

/-- 'vouchlaw1.WordTexts', WHERE WHAT IT READS IS OF BULK AT MOST 1048576: true; the input reads as it did. -/
def wordTextsUptoRow : OpenClaim := { program := "ytpadpmkfhljiiaagreat", sum := "fe6b9d777d1d2331092a2ecd16ccb57f20a9b804b3bc016b17d03e082214b763", func := "vouch/vouchlaw1.WordTexts", spec := "wordTexts", inPlace := ["math/bits.Add64", "math/bits.Sub64"], unfollowed := true, recurses := true, named := ["math/bits.divideError", "math/bits.overflowError"], apart := false, narrowed := true }
def WordTextsUptoSaid : Prop := wordTextsUptoRow.holds Tryz.pinned (OpenSpec.upto wordTextsSpec)

/-- 'vouchlaw1.WordPlays', WHERE WHAT IT READS IS OF BULK AT MOST 1048576: true; the input reads as it did. -/
def wordPlaysUptoRow : OpenClaim := { program := "ytpadpmkfhljiiaagreat", sum := "fe6b9d777d1d2331092a2ecd16ccb57f20a9b804b3bc016b17d03e082214b763", func := "vouch/vouchlaw1.WordPlays", spec := "wordPlays", inPlace := ["math/bits.Add64", "math/bits.Sub64"], unfollowed := true, recurses := true, named := ["math/bits.divideError", "math/bits.overflowError"], apart := false, narrowed := true }
def WordPlaysUptoSaid : Prop := wordPlaysUptoRow.holds Tryz.pinned (OpenSpec.upto wordPlaysSpec)

end Rows
end Go.Proofs.YtpadpmkfhljiiaaGreat
