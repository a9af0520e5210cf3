/-
  No cell of these rows narrows 'for every input' (looked for: loops, veiled, ifaces, maps, wideKeys, modest, calm, conditions, laid).
  DERIVED. THE GIVEN ROWS OF THIS SEAT. 6 by the template 'for every input the law returns true; each argument reads behind the call as it read before'; 0 by the template 'total and deterministic' (their statements: YtdddmebihkdkjaaTotals.lean).
  GIVEN WITH THE SEED: the statements are not yours to turn. If you find one false, say at which input.
  Laid BY PROGRAM, IN A SANDBOX (cutbox-rows.mjs): the forced cells as the released guide's own fill.sh prints them over the translation e3a167f9fe5dcc9e… (all of the seat's roots in one cut). By AI agents, Wed Nov 11 2026. No macro, syntax, notation, axiom, sorry.
-/
import Derived.Test.YtdddmebihkdkjaaChecked
import GoSem.Claim
import GoSem.ClaimJoined
import GoSem.ClaimMapViews
import Derived.JoinedTies
import Derived.KernelRfl
namespace Go.Proofs.Ytdddmebihkdkjaa
/- THE CELL 'sum', in the pinned program and in every row, IS THE sha256 OF THE DUMP (.gsa) THAT YtdddmebihkdkjaaProg.lean LOADS. Nothing in Lean hashes anything: it is a label: what it is worth is what the hold of that sum in a sandbox is worth. -/
noncomputable def Try.pinned : Pinned := { name := "ytdddmebihkdkjaa", sum := "e3a167f9fe5dcc9eaa235911fa1c0bacc3b119408fa0cb78df81d8c3a46357b7", checked := Try.checked }
namespace Rows
def none {H : Type} : Left H := { results := [], args := [] }

/-- 'vouchlaw9.MachStacks': WHATEVER THE INPUT: true; the input reads as it did. -/
def machStacksSpec : ChangeSpec := { name := "machStacks", fn := fun _ => fun
  | [d] => { results := [.lit (.bool true)], args := [d] }
  | _ => none }
def machStacksRow : OpenClaim := { program := "ytdddmebihkdkjaa", sum := "e3a167f9fe5dcc9eaa235911fa1c0bacc3b119408fa0cb78df81d8c3a46357b7", func := "vouch/vouchlaw9.MachStacks", spec := "machStacks", apart := false }
def MachStacksSaid : Prop := machStacksRow.holds Try.pinned (OpenSpec.ofChange machStacksSpec)

/-- ITS FALSE NEIGHBOUR: 'it returns false'. Refute it at one input. -/
def machStacksWrong : ChangeSpec := { name := "machStacks", fn := fun _ => fun
  | [d] => { results := [.lit (.bool false)], args := [d] }
  | _ => none }
def MachStacksWrongFalsely : Prop := machStacksRow.holds Try.pinned (OpenSpec.ofChange machStacksWrong)

/-- 'vouchlaw9.MachReturns': WHATEVER THE INPUT: true; the input reads as it did. -/
def machReturnsSpec : ChangeSpec := { name := "machReturns", fn := fun _ => fun
  | [d] => { results := [.lit (.bool true)], args := [d] }
  | _ => none }
def machReturnsRow : OpenClaim := { program := "ytdddmebihkdkjaa", sum := "e3a167f9fe5dcc9eaa235911fa1c0bacc3b119408fa0cb78df81d8c3a46357b7", func := "vouch/vouchlaw9.MachReturns", spec := "machReturns", apart := false }
def MachReturnsSaid : Prop := machReturnsRow.holds Try.pinned (OpenSpec.ofChange machReturnsSpec)

/-- ITS FALSE NEIGHBOUR: 'it returns false'. Refute it at one input. -/
def machReturnsWrong : ChangeSpec := { name := "machReturns", fn := fun _ => fun
  | [d] => { results := [.lit (.bool false)], args := [d] }
  | _ => none }
def MachReturnsWrongFalsely : Prop := machReturnsRow.holds Try.pinned (OpenSpec.ofChange machReturnsWrong)

/-- 'vouchlaw9.MachLifo': WHATEVER THE INPUT: true; the input reads as it did. -/
def machLifoSpec : ChangeSpec := { name := "machLifo", fn := fun _ => fun
  | [d] => { results := [.lit (.bool true)], args := [d] }
  | _ => none }
def machLifoRow : OpenClaim := { program := "ytdddmebihkdkjaa", sum := "e3a167f9fe5dcc9eaa235911fa1c0bacc3b119408fa0cb78df81d8c3a46357b7", func := "vouch/vouchlaw9.MachLifo", spec := "machLifo", apart := false }
def MachLifoSaid : Prop := machLifoRow.holds Try.pinned (OpenSpec.ofChange machLifoSpec)

/-- ITS FALSE NEIGHBOUR: 'it returns false'. Refute it at one input. -/
def machLifoWrong : ChangeSpec := { name := "machLifo", fn := fun _ => fun
  | [d] => { results := [.lit (.bool false)], args := [d] }
  | _ => none }
def MachLifoWrongFalsely : Prop := machLifoRow.holds Try.pinned (OpenSpec.ofChange machLifoWrong)

/-- 'vouchlaw9.MachTurns': WHATEVER THE INPUT: true; the input reads as it did. -/
def machTurnsSpec : ChangeSpec := { name := "machTurns", fn := fun _ => fun
  | [d1, d2, d3] => { results := [.lit (.bool true)], args := [d1, d2, d3] }
  | _ => none }
def machTurnsRow : OpenClaim := { program := "ytdddmebihkdkjaa", sum := "e3a167f9fe5dcc9eaa235911fa1c0bacc3b119408fa0cb78df81d8c3a46357b7", func := "vouch/vouchlaw9.MachTurns", spec := "machTurns", apart := false }
def MachTurnsSaid : Prop := machTurnsRow.holds Try.pinned (OpenSpec.ofChange machTurnsSpec)

/-- ITS FALSE NEIGHBOUR: 'it returns false'. Refute it at one input. -/
def machTurnsWrong : ChangeSpec := { name := "machTurns", fn := fun _ => fun
  | [d1, d2, d3] => { results := [.lit (.bool false)], args := [d1, d2, d3] }
  | _ => none }
def MachTurnsWrongFalsely : Prop := machTurnsRow.holds Try.pinned (OpenSpec.ofChange machTurnsWrong)

/-- 'vouchlaw9.MachAlike': WHATEVER THE INPUT: true; the input reads as it did. -/
def machAlikeSpec : ChangeSpec := { name := "machAlike", fn := fun _ => fun
  | [d] => { results := [.lit (.bool true)], args := [d] }
  | _ => none }
def machAlikeRow : OpenClaim := { program := "ytdddmebihkdkjaa", sum := "e3a167f9fe5dcc9eaa235911fa1c0bacc3b119408fa0cb78df81d8c3a46357b7", func := "vouch/vouchlaw9.MachAlike", spec := "machAlike", apart := false }
def MachAlikeSaid : Prop := machAlikeRow.holds Try.pinned (OpenSpec.ofChange machAlikeSpec)

/-- ITS FALSE NEIGHBOUR: 'it returns false'. Refute it at one input. -/
def machAlikeWrong : ChangeSpec := { name := "machAlike", fn := fun _ => fun
  | [d] => { results := [.lit (.bool false)], args := [d] }
  | _ => none }
def MachAlikeWrongFalsely : Prop := machAlikeRow.holds Try.pinned (OpenSpec.ofChange machAlikeWrong)

/-- 'vouchlaw9.MachRing': WHATEVER THE INPUT: true; the input reads as it did. -/
def machRingSpec : ChangeSpec := { name := "machRing", fn := fun _ => fun
  | [d1, d2, d3, d4, d5] => { results := [.lit (.bool true)], args := [d1, d2, d3, d4, d5] }
  | _ => none }
def machRingRow : OpenClaim := { program := "ytdddmebihkdkjaa", sum := "e3a167f9fe5dcc9eaa235911fa1c0bacc3b119408fa0cb78df81d8c3a46357b7", func := "vouch/vouchlaw9.MachRing", spec := "machRing", apart := false }
def MachRingSaid : Prop := machRingRow.holds Try.pinned (OpenSpec.ofChange machRingSpec)

/-- ITS FALSE NEIGHBOUR: 'it returns false'. Refute it at one input. -/
def machRingWrong : ChangeSpec := { name := "machRing", fn := fun _ => fun
  | [d1, d2, d3, d4, d5] => { results := [.lit (.bool false)], args := [d1, d2, d3, d4, d5] }
  | _ => none }
def MachRingWrongFalsely : Prop := machRingRow.holds Try.pinned (OpenSpec.ofChange machRingWrong)

/- THE SECOND FORM. 'bulk': how many values and letters a reading holds, each counted each time it is reached (what is shared counts as often as it is met; a slice's spare places count too). A statement '..UptoSaid' is the law's where the arguments, and the package variables that the reading takes, are together of bulk at most 1048576: NARROWER than '..Said'. Prove '..Said' where nothing that the law and all that it calls make is longer than what came in: it says more and counts as full. Else prove '..UptoSaid'. A law counts once. -/
mutual
def uptoBulk {H : Type} : DataW H → Nat
  | .lit (.string bytes) => bytes.length + 1
  | .lit _ => 1
  | .nil => 1
  | .ptr d => uptoBulk d + 1
  | .slice elems spare => uptoBulkAll elems + uptoBulkAll spare + 1
  | .agg parts => uptoBulkAll parts + 1
  | .iface _ d => uptoBulk d + 1
  | .map entries => uptoBulkEntries entries + 1
  | .held _ => 1
def uptoBulkAll {H : Type} : List (DataW H) → Nat
  | [] => 0
  | d :: r => uptoBulk d + uptoBulkAll r
def uptoBulkEntries {H : Type} : List (Lit × DataW H) → Nat
  | [] => 0
  | x :: r => uptoBulkEntry x + uptoBulkEntries r
def uptoBulkEntry {H : Type} : Lit × DataW H → Nat
  | (.string bytes, d) => bytes.length + uptoBulk d + 1
  | (_, d) => uptoBulk d + 1
 end
def uptoSmall : (H : Type) → List (DataW H) → Bool := fun _ ds => decide (uptoBulkAll ds ≤ 1048576)
def OpenSpec.upto (s : _root_.Go.ChangeSpec) : _root_.Go.OpenSpec := { _root_.Go.OpenSpec.ofChange s with cond := some uptoSmall }

/-- 'vouchlaw9.MachStacks', WHERE WHAT IT READS IS OF BULK AT MOST 1048576: true; the input reads as it did. -/
def machStacksUptoRow : OpenClaim := { program := "ytdddmebihkdkjaa", sum := "e3a167f9fe5dcc9eaa235911fa1c0bacc3b119408fa0cb78df81d8c3a46357b7", func := "vouch/vouchlaw9.MachStacks", spec := "machStacks", apart := false, narrowed := true }
def MachStacksUptoSaid : Prop := machStacksUptoRow.holds Try.pinned (OpenSpec.upto machStacksSpec)

/-- 'vouchlaw9.MachReturns', WHERE WHAT IT READS IS OF BULK AT MOST 1048576: true; the input reads as it did. -/
def machReturnsUptoRow : OpenClaim := { program := "ytdddmebihkdkjaa", sum := "e3a167f9fe5dcc9eaa235911fa1c0bacc3b119408fa0cb78df81d8c3a46357b7", func := "vouch/vouchlaw9.MachReturns", spec := "machReturns", apart := false, narrowed := true }
def MachReturnsUptoSaid : Prop := machReturnsUptoRow.holds Try.pinned (OpenSpec.upto machReturnsSpec)

/-- 'vouchlaw9.MachLifo', WHERE WHAT IT READS IS OF BULK AT MOST 1048576: true; the input reads as it did. -/
def machLifoUptoRow : OpenClaim := { program := "ytdddmebihkdkjaa", sum := "e3a167f9fe5dcc9eaa235911fa1c0bacc3b119408fa0cb78df81d8c3a46357b7", func := "vouch/vouchlaw9.MachLifo", spec := "machLifo", apart := false, narrowed := true }
def MachLifoUptoSaid : Prop := machLifoUptoRow.holds Try.pinned (OpenSpec.upto machLifoSpec)

/-- 'vouchlaw9.MachTurns', WHERE WHAT IT READS IS OF BULK AT MOST 1048576: true; the input reads as it did. -/
def machTurnsUptoRow : OpenClaim := { program := "ytdddmebihkdkjaa", sum := "e3a167f9fe5dcc9eaa235911fa1c0bacc3b119408fa0cb78df81d8c3a46357b7", func := "vouch/vouchlaw9.MachTurns", spec := "machTurns", apart := false, narrowed := true }
def MachTurnsUptoSaid : Prop := machTurnsUptoRow.holds Try.pinned (OpenSpec.upto machTurnsSpec)

/-- 'vouchlaw9.MachAlike', WHERE WHAT IT READS IS OF BULK AT MOST 1048576: true; the input reads as it did. -/
def machAlikeUptoRow : OpenClaim := { program := "ytdddmebihkdkjaa", sum := "e3a167f9fe5dcc9eaa235911fa1c0bacc3b119408fa0cb78df81d8c3a46357b7", func := "vouch/vouchlaw9.MachAlike", spec := "machAlike", apart := false, narrowed := true }
def MachAlikeUptoSaid : Prop := machAlikeUptoRow.holds Try.pinned (OpenSpec.upto machAlikeSpec)

/-- 'vouchlaw9.MachRing', WHERE WHAT IT READS IS OF BULK AT MOST 1048576: true; the input reads as it did. -/
def machRingUptoRow : OpenClaim := { program := "ytdddmebihkdkjaa", sum := "e3a167f9fe5dcc9eaa235911fa1c0bacc3b119408fa0cb78df81d8c3a46357b7", func := "vouch/vouchlaw9.MachRing", spec := "machRing", apart := false, narrowed := true }
def MachRingUptoSaid : Prop := machRingUptoRow.holds Try.pinned (OpenSpec.upto machRingSpec)

end Rows
end Go.Proofs.Ytdddmebihkdkjaa
