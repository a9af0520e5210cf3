/-
  No cell of these rows narrows 'for every input' (looked for: loops, veiled, ifaces, maps, wideKeys, modest, calm, conditions, laid).
  DERIVED. THE GIVEN ROWS OF THIS SEAT. 7 by the template 'for every input the law returns true; each argument reads behind the call as it read before'; 0 by the template 'total and deterministic' (their statements: YtlemnjhdnciddaaTotals.lean).
  GIVEN WITH THE SEED: the statements are not yours to turn. If you find one false, say at which input.
  Laid BY PROGRAM, IN A SANDBOX (cutbox-rows.mjs): the forced cells as the released guide's own fill.sh prints them over the translation 9cedc50dc4131fe1… (all of the seat's roots in one cut). By AI agents, Wed Nov 11 2026. No macro, syntax, notation, axiom, sorry.
-/
import Derived.Test.YtlemnjhdnciddaaChecked
import GoSem.Claim
import GoSem.ClaimJoined
import GoSem.ClaimMapViews
import Derived.JoinedTies
import Derived.KernelRfl
namespace Go.Proofs.Ytlemnjhdnciddaa
/- THE CELL 'sum', in the pinned program and in every row, IS THE sha256 OF THE DUMP (.gsa) THAT YtlemnjhdnciddaaProg.lean LOADS. Nothing in Lean hashes anything: it is a label: what it is worth is what the hold of that sum in a sandbox is worth. -/
noncomputable def Try.pinned : Pinned := { name := "ytlemnjhdnciddaa", sum := "9cedc50dc4131fe1f603b03fcf3af31dfc1b13c1c74b0e9b26bef06dcf0f8d6a", checked := Try.checked }
namespace Rows
def none {H : Type} : Left H := { results := [], args := [] }

/-- 'vouchlaw9.MachMemories': WHATEVER THE INPUT: true; the input reads as it did. -/
def machMemoriesSpec : ChangeSpec := { name := "machMemories", fn := fun _ => fun
  | [d] => { results := [.lit (.bool true)], args := [d] }
  | _ => none }
def machMemoriesRow : OpenClaim := { program := "ytlemnjhdnciddaa", sum := "9cedc50dc4131fe1f603b03fcf3af31dfc1b13c1c74b0e9b26bef06dcf0f8d6a", func := "vouch/vouchlaw9.MachMemories", spec := "machMemories", apart := false }
def MachMemoriesSaid : Prop := machMemoriesRow.holds Try.pinned (OpenSpec.ofChange machMemoriesSpec)

/-- ITS FALSE NEIGHBOUR: 'it returns false'. Refute it at one input. -/
def machMemoriesWrong : ChangeSpec := { name := "machMemories", fn := fun _ => fun
  | [d] => { results := [.lit (.bool false)], args := [d] }
  | _ => none }
def MachMemoriesWrongFalsely : Prop := machMemoriesRow.holds Try.pinned (OpenSpec.ofChange machMemoriesWrong)

/-- 'vouchlaw9.MachRows': WHATEVER THE INPUT: true; the input reads as it did. -/
def machRowsSpec : ChangeSpec := { name := "machRows", fn := fun _ => fun
  | [d1, d2, d3] => { results := [.lit (.bool true)], args := [d1, d2, d3] }
  | _ => none }
def machRowsRow : OpenClaim := { program := "ytlemnjhdnciddaa", sum := "9cedc50dc4131fe1f603b03fcf3af31dfc1b13c1c74b0e9b26bef06dcf0f8d6a", func := "vouch/vouchlaw9.MachRows", spec := "machRows", apart := false }
def MachRowsSaid : Prop := machRowsRow.holds Try.pinned (OpenSpec.ofChange machRowsSpec)

/-- ITS FALSE NEIGHBOUR: 'it returns false'. Refute it at one input. -/
def machRowsWrong : ChangeSpec := { name := "machRows", fn := fun _ => fun
  | [d1, d2, d3] => { results := [.lit (.bool false)], args := [d1, d2, d3] }
  | _ => none }
def MachRowsWrongFalsely : Prop := machRowsRow.holds Try.pinned (OpenSpec.ofChange machRowsWrong)

/-- 'vouchlaw9.MachKeeps': WHATEVER THE INPUT: true; the input reads as it did. -/
def machKeepsSpec : ChangeSpec := { name := "machKeeps", fn := fun _ => fun
  | [d] => { results := [.lit (.bool true)], args := [d] }
  | _ => none }
def machKeepsRow : OpenClaim := { program := "ytlemnjhdnciddaa", sum := "9cedc50dc4131fe1f603b03fcf3af31dfc1b13c1c74b0e9b26bef06dcf0f8d6a", func := "vouch/vouchlaw9.MachKeeps", spec := "machKeeps", apart := false }
def MachKeepsSaid : Prop := machKeepsRow.holds Try.pinned (OpenSpec.ofChange machKeepsSpec)

/-- ITS FALSE NEIGHBOUR: 'it returns false'. Refute it at one input. -/
def machKeepsWrong : ChangeSpec := { name := "machKeeps", fn := fun _ => fun
  | [d] => { results := [.lit (.bool false)], args := [d] }
  | _ => none }
def MachKeepsWrongFalsely : Prop := machKeepsRow.holds Try.pinned (OpenSpec.ofChange machKeepsWrong)

/-- 'vouchlaw9.MachPieces': WHATEVER THE INPUT: true; the input reads as it did. -/
def machPiecesSpec : ChangeSpec := { name := "machPieces", fn := fun _ => fun
  | [d1, d2, d3, d4] => { results := [.lit (.bool true)], args := [d1, d2, d3, d4] }
  | _ => none }
def machPiecesRow : OpenClaim := { program := "ytlemnjhdnciddaa", sum := "9cedc50dc4131fe1f603b03fcf3af31dfc1b13c1c74b0e9b26bef06dcf0f8d6a", func := "vouch/vouchlaw9.MachPieces", spec := "machPieces", apart := false }
def MachPiecesSaid : Prop := machPiecesRow.holds Try.pinned (OpenSpec.ofChange machPiecesSpec)

/-- ITS FALSE NEIGHBOUR: 'it returns false'. Refute it at one input. -/
def machPiecesWrong : ChangeSpec := { name := "machPieces", fn := fun _ => fun
  | [d1, d2, d3, d4] => { results := [.lit (.bool false)], args := [d1, d2, d3, d4] }
  | _ => none }
def MachPiecesWrongFalsely : Prop := machPiecesRow.holds Try.pinned (OpenSpec.ofChange machPiecesWrong)

/-- 'vouchlaw9.MachReaches': WHATEVER THE INPUT: true; the input reads as it did. -/
def machReachesSpec : ChangeSpec := { name := "machReaches", fn := fun _ => fun
  | [d1, d2, d3] => { results := [.lit (.bool true)], args := [d1, d2, d3] }
  | _ => none }
def machReachesRow : OpenClaim := { program := "ytlemnjhdnciddaa", sum := "9cedc50dc4131fe1f603b03fcf3af31dfc1b13c1c74b0e9b26bef06dcf0f8d6a", func := "vouch/vouchlaw9.MachReaches", spec := "machReaches", inPlace := ["math/bits.Add64"], apart := false }
def MachReachesSaid : Prop := machReachesRow.holds Try.pinned (OpenSpec.ofChange machReachesSpec)

/-- ITS FALSE NEIGHBOUR: 'it returns false'. Refute it at one input. -/
def machReachesWrong : ChangeSpec := { name := "machReaches", fn := fun _ => fun
  | [d1, d2, d3] => { results := [.lit (.bool false)], args := [d1, d2, d3] }
  | _ => none }
def MachReachesWrongFalsely : Prop := machReachesRow.holds Try.pinned (OpenSpec.ofChange machReachesWrong)

/-- 'vouchlaw9.MachRowed': WHATEVER THE INPUT: true; the input reads as it did. -/
def machRowedSpec : ChangeSpec := { name := "machRowed", fn := fun _ => fun
  | [d1, d2, d3] => { results := [.lit (.bool true)], args := [d1, d2, d3] }
  | _ => none }
def machRowedRow : OpenClaim := { program := "ytlemnjhdnciddaa", sum := "9cedc50dc4131fe1f603b03fcf3af31dfc1b13c1c74b0e9b26bef06dcf0f8d6a", func := "vouch/vouchlaw9.MachRowed", spec := "machRowed", apart := false }
def MachRowedSaid : Prop := machRowedRow.holds Try.pinned (OpenSpec.ofChange machRowedSpec)

/-- ITS FALSE NEIGHBOUR: 'it returns false'. Refute it at one input. -/
def machRowedWrong : ChangeSpec := { name := "machRowed", fn := fun _ => fun
  | [d1, d2, d3] => { results := [.lit (.bool false)], args := [d1, d2, d3] }
  | _ => none }
def MachRowedWrongFalsely : Prop := machRowedRow.holds Try.pinned (OpenSpec.ofChange machRowedWrong)

/-- 'vouchlaw9.MachOwn': WHATEVER THE INPUT: true; the input reads as it did. -/
def machOwnSpec : ChangeSpec := { name := "machOwn", fn := fun _ => fun
  | [d1, d2, d3] => { results := [.lit (.bool true)], args := [d1, d2, d3] }
  | _ => none }
def machOwnRow : OpenClaim := { program := "ytlemnjhdnciddaa", sum := "9cedc50dc4131fe1f603b03fcf3af31dfc1b13c1c74b0e9b26bef06dcf0f8d6a", func := "vouch/vouchlaw9.MachOwn", spec := "machOwn", apart := false }
def MachOwnSaid : Prop := machOwnRow.holds Try.pinned (OpenSpec.ofChange machOwnSpec)

/-- ITS FALSE NEIGHBOUR: 'it returns false'. Refute it at one input. -/
def machOwnWrong : ChangeSpec := { name := "machOwn", fn := fun _ => fun
  | [d1, d2, d3] => { results := [.lit (.bool false)], args := [d1, d2, d3] }
  | _ => none }
def MachOwnWrongFalsely : Prop := machOwnRow.holds Try.pinned (OpenSpec.ofChange machOwnWrong)

/- THE SECOND FORM. 'bulk': how many values and letters a reading holds, each counted each time it is reached (what is shared counts as often as it is met; a slice's spare places count too). A statement '..UptoSaid' is the law's where the arguments, and the package variables that the reading takes, are together of bulk at most 1048576: NARROWER than '..Said'. Prove '..Said' where nothing that the law and all that it calls make is longer than what came in: it says more and counts as full. Else prove '..UptoSaid'. A law counts once. -/
mutual
def uptoBulk {H : Type} : DataW H → Nat
  | .lit (.string bytes) => bytes.length + 1
  | .lit _ => 1
  | .nil => 1
  | .ptr d => uptoBulk d + 1
  | .slice elems spare => uptoBulkAll elems + uptoBulkAll spare + 1
  | .agg parts => uptoBulkAll parts + 1
  | .iface _ d => uptoBulk d + 1
  | .map entries => uptoBulkEntries entries + 1
  | .held _ => 1
def uptoBulkAll {H : Type} : List (DataW H) → Nat
  | [] => 0
  | d :: r => uptoBulk d + uptoBulkAll r
def uptoBulkEntries {H : Type} : List (Lit × DataW H) → Nat
  | [] => 0
  | x :: r => uptoBulkEntry x + uptoBulkEntries r
def uptoBulkEntry {H : Type} : Lit × DataW H → Nat
  | (.string bytes, d) => bytes.length + uptoBulk d + 1
  | (_, d) => uptoBulk d + 1
 end
def uptoSmall : (H : Type) → List (DataW H) → Bool := fun _ ds => decide (uptoBulkAll ds ≤ 1048576)
def OpenSpec.upto (s : _root_.Go.ChangeSpec) : _root_.Go.OpenSpec := { _root_.Go.OpenSpec.ofChange s with cond := some uptoSmall }

/-- 'vouchlaw9.MachMemories', WHERE WHAT IT READS IS OF BULK AT MOST 1048576: true; the input reads as it did. -/
def machMemoriesUptoRow : OpenClaim := { program := "ytlemnjhdnciddaa", sum := "9cedc50dc4131fe1f603b03fcf3af31dfc1b13c1c74b0e9b26bef06dcf0f8d6a", func := "vouch/vouchlaw9.MachMemories", spec := "machMemories", apart := false, narrowed := true }
def MachMemoriesUptoSaid : Prop := machMemoriesUptoRow.holds Try.pinned (OpenSpec.upto machMemoriesSpec)

/-- 'vouchlaw9.MachRows', WHERE WHAT IT READS IS OF BULK AT MOST 1048576: true; the input reads as it did. -/
def machRowsUptoRow : OpenClaim := { program := "ytlemnjhdnciddaa", sum := "9cedc50dc4131fe1f603b03fcf3af31dfc1b13c1c74b0e9b26bef06dcf0f8d6a", func := "vouch/vouchlaw9.MachRows", spec := "machRows", apart := false, narrowed := true }
def MachRowsUptoSaid : Prop := machRowsUptoRow.holds Try.pinned (OpenSpec.upto machRowsSpec)

/-- 'vouchlaw9.MachKeeps', WHERE WHAT IT READS IS OF BULK AT MOST 1048576: true; the input reads as it did. -/
def machKeepsUptoRow : OpenClaim := { program := "ytlemnjhdnciddaa", sum := "9cedc50dc4131fe1f603b03fcf3af31dfc1b13c1c74b0e9b26bef06dcf0f8d6a", func := "vouch/vouchlaw9.MachKeeps", spec := "machKeeps", apart := false, narrowed := true }
def MachKeepsUptoSaid : Prop := machKeepsUptoRow.holds Try.pinned (OpenSpec.upto machKeepsSpec)

/-- 'vouchlaw9.MachPieces', WHERE WHAT IT READS IS OF BULK AT MOST 1048576: true; the input reads as it did. -/
def machPiecesUptoRow : OpenClaim := { program := "ytlemnjhdnciddaa", sum := "9cedc50dc4131fe1f603b03fcf3af31dfc1b13c1c74b0e9b26bef06dcf0f8d6a", func := "vouch/vouchlaw9.MachPieces", spec := "machPieces", apart := false, narrowed := true }
def MachPiecesUptoSaid : Prop := machPiecesUptoRow.holds Try.pinned (OpenSpec.upto machPiecesSpec)

/-- 'vouchlaw9.MachReaches', WHERE WHAT IT READS IS OF BULK AT MOST 1048576: true; the input reads as it did. -/
def machReachesUptoRow : OpenClaim := { program := "ytlemnjhdnciddaa", sum := "9cedc50dc4131fe1f603b03fcf3af31dfc1b13c1c74b0e9b26bef06dcf0f8d6a", func := "vouch/vouchlaw9.MachReaches", spec := "machReaches", inPlace := ["math/bits.Add64"], apart := false, narrowed := true }
def MachReachesUptoSaid : Prop := machReachesUptoRow.holds Try.pinned (OpenSpec.upto machReachesSpec)

/-- 'vouchlaw9.MachRowed', WHERE WHAT IT READS IS OF BULK AT MOST 1048576: true; the input reads as it did. -/
def machRowedUptoRow : OpenClaim := { program := "ytlemnjhdnciddaa", sum := "9cedc50dc4131fe1f603b03fcf3af31dfc1b13c1c74b0e9b26bef06dcf0f8d6a", func := "vouch/vouchlaw9.MachRowed", spec := "machRowed", apart := false, narrowed := true }
def MachRowedUptoSaid : Prop := machRowedUptoRow.holds Try.pinned (OpenSpec.upto machRowedSpec)

/-- 'vouchlaw9.MachOwn', WHERE WHAT IT READS IS OF BULK AT MOST 1048576: true; the input reads as it did. -/
def machOwnUptoRow : OpenClaim := { program := "ytlemnjhdnciddaa", sum := "9cedc50dc4131fe1f603b03fcf3af31dfc1b13c1c74b0e9b26bef06dcf0f8d6a", func := "vouch/vouchlaw9.MachOwn", spec := "machOwn", apart := false, narrowed := true }
def MachOwnUptoSaid : Prop := machOwnUptoRow.holds Try.pinned (OpenSpec.upto machOwnSpec)

end Rows
end Go.Proofs.Ytlemnjhdnciddaa
