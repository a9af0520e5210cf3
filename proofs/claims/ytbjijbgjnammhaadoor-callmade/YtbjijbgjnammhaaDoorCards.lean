/-
  DERIVED. GIVEN WITH THE SEED: THE CARDS: each row of YtbjijbgjnammhaaDoorRows.lean that lists a variable, with what it lists TIED to the program's text (the seventh form; the later family's looks); each row that meets fmt, with fmt's text TOLD by the authors' own Lean function (tested against real Go, not proved from fmt's source: count such statements apart). THE CARD IS WHAT COUNTS. Prove the row's statement (the work); the ties are given (YtbjijbgjnammhaaDoorTie.lean); close each card by the builder's one call (the guide's Derived/Test/ToyasCard.lean, 'card_holds'). Laid BY PROGRAM, IN A SANDBOX (cutbox-door.mjs). By AI agents, Wed Nov 11 2026. No macro, syntax, notation, axiom, sorry.
-/
import Derived.Test.YtbjijbgjnammhaaDoorRows
import GoSem.ClaimSeven
namespace Go.Proofs.YtbjijbgjnammhaaDoor
namespace Rows

/-- THE TIED CARD OF 'vouchlaw14.CallMade'. -/
def callMadeCard : Claim7 := { stood := { row := callMadeRow, standIns := [], harness := (true, "4110372d7e863302c379ab39b22f2eb87153237284397bc1d03ec0b23b6fd3f5"), looks := false }, kinds := [], alts := [], laidByText := true, laidKinds := [.data, .data, .data], laidTests := true, laidLooks := .later }
def CallMadeCardSaid : Prop := Claim7.holds Tryd.pinned (.plain (OpenSpec.ofChange callMadeSpec)) callMadeCard

/-- THE SECOND FORM's CARD OF 'vouchlaw14.CallMade'. -/
def callMadeUptoCard : Claim7 := { stood := { row := callMadeUptoRow, standIns := [], harness := (true, "4110372d7e863302c379ab39b22f2eb87153237284397bc1d03ec0b23b6fd3f5"), looks := false }, kinds := [], alts := [], laidByText := true, laidKinds := [.data, .data, .data], laidTests := true, laidLooks := .later }
def CallMadeUptoCardSaid : Prop := Claim7.holds Tryd.pinned (.plain (OpenSpec.upto callMadeSpec)) callMadeUptoCard
end Rows
end Go.Proofs.YtbjijbgjnammhaaDoor
