/-
  DERIVED. GIVEN WITH THE SEED: THE CARDS: each row of YtbhldmfnhlifpaaDoorRows.lean that lists a variable, with what it lists TIED to the program's text (the seventh form; the later family's looks); each row that meets fmt, with fmt's text TOLD by the authors' own Lean function (tested against real Go, not proved from fmt's source: count such statements apart). THE CARD IS WHAT COUNTS. Prove the row's statement (the work); the ties are given (YtbhldmfnhlifpaaDoorTie.lean); close each card by the builder's one call (the guide's Derived/Test/ToyasCard.lean, 'card_holds'). Laid BY PROGRAM, IN A SANDBOX (cutbox-door.mjs). By AI agents, Wed Nov 11 2026. No macro, syntax, notation, axiom, sorry.
-/
import Derived.Test.YtbhldmfnhlifpaaDoorRows
import GoSem.ClaimSeven
namespace Go.Proofs.YtbhldmfnhlifpaaDoor
namespace Rows

/-- THE TIED CARD OF 'vouchlaw6.CodeOnes'. -/
def codeOnesCard : Claim7 := { stood := { row := codeOnesRow, standIns := [], harness := (true, "93ee754c12ca7ffad98bdd674fcd2a87e04ef1a615fc2e8ab3699855e99ce39c"), looks := false }, kinds := [], alts := [], laidByText := true, laidKinds := [.data, .data, .data, .data, .data, .data, .data, .data, .data, .data, .data], laidTests := true, laidLooks := .later }
def CodeOnesCardSaid : Prop := Claim7.holds Tryd.pinned (.plain (OpenSpec.ofChange codeOnesSpec)) codeOnesCard

/-- THE TIED CARD OF 'vouchlaw6.CodeLeads'. -/
def codeLeadsCard : Claim7 := { stood := { row := codeLeadsRow, standIns := [], harness := (true, "93ee754c12ca7ffad98bdd674fcd2a87e04ef1a615fc2e8ab3699855e99ce39c"), looks := false }, kinds := [], alts := [], laidByText := true, laidKinds := [.data, .data, .data, .data, .data, .data, .data, .data, .data, .data, .data], laidTests := true, laidLooks := .later }
def CodeLeadsCardSaid : Prop := Claim7.holds Tryd.pinned (.plain (OpenSpec.ofChange codeLeadsSpec)) codeLeadsCard

/-- THE TIED CARD OF 'vouchlaw6.CodeChecks'. -/
def codeChecksCard : Claim7 := { stood := { row := codeChecksRow, standIns := [], harness := (true, "93ee754c12ca7ffad98bdd674fcd2a87e04ef1a615fc2e8ab3699855e99ce39c"), looks := false }, kinds := [], alts := [], laidByText := true, laidKinds := [.data, .data, .data, .data, .data, .data, .data, .data, .data, .data, .data], laidTests := true, laidLooks := .later }
def CodeChecksCardSaid : Prop := Claim7.holds Tryd.pinned (.plain (OpenSpec.ofChange codeChecksSpec)) codeChecksCard

/-- THE TIED CARD OF 'vouchlaw6.CodePlays'. -/
def codePlaysCard : Claim7 := { stood := { row := codePlaysRow, standIns := [], harness := (true, "93ee754c12ca7ffad98bdd674fcd2a87e04ef1a615fc2e8ab3699855e99ce39c"), looks := false }, kinds := [], alts := [], laidByText := true, laidKinds := [.data, .data, .data, .data, .data, .data, .data, .data, .data, .data, .data], laidTests := true, laidLooks := .later }
def CodePlaysCardSaid : Prop := Claim7.holds Tryd.pinned (.plain (OpenSpec.ofChange codePlaysSpec)) codePlaysCard

/-- THE TIED CARD OF 'vouchlaw6.CodeWhole'. -/
def codeWholeCard : Claim7 := { stood := { row := codeWholeRow, standIns := [], harness := (true, "93ee754c12ca7ffad98bdd674fcd2a87e04ef1a615fc2e8ab3699855e99ce39c"), looks := false }, kinds := [], alts := [], laidByText := true, laidKinds := [.data, .data, .data, .data, .data, .data, .data, .data, .data, .data, .data], laidTests := true, laidLooks := .later }
def CodeWholeCardSaid : Prop := Claim7.holds Tryd.pinned (.plain (OpenSpec.ofChange codeWholeSpec)) codeWholeCard

/-- THE TIED CARD OF 'vouchlaw6.CodeLocal'. -/
def codeLocalCard : Claim7 := { stood := { row := codeLocalRow, standIns := [], harness := (true, "93ee754c12ca7ffad98bdd674fcd2a87e04ef1a615fc2e8ab3699855e99ce39c"), looks := false }, kinds := [], alts := [], laidByText := true, laidKinds := [.data, .data, .data, .data, .data, .data, .data, .data, .data, .data, .data], laidTests := true, laidLooks := .later }
def CodeLocalCardSaid : Prop := Claim7.holds Tryd.pinned (.plain (OpenSpec.ofChange codeLocalSpec)) codeLocalCard

/-- THE TIED CARD OF 'vouchlaw6.CodeAgrees'. -/
def codeAgreesCard : Claim7 := { stood := { row := codeAgreesRow, standIns := [], harness := (true, "93ee754c12ca7ffad98bdd674fcd2a87e04ef1a615fc2e8ab3699855e99ce39c"), looks := false }, kinds := [], alts := [], laidByText := true, laidKinds := [.data, .data, .data, .data, .data, .data, .data, .data, .data, .data, .data], laidTests := true, laidLooks := .later }
def CodeAgreesCardSaid : Prop := Claim7.holds Tryd.pinned (.plain (OpenSpec.ofChange codeAgreesSpec)) codeAgreesCard

/-- THE TIED CARD OF 'vouchlaw6.CodeTargets'. -/
def codeTargetsCard : Claim7 := { stood := { row := codeTargetsRow, standIns := [], harness := (true, "93ee754c12ca7ffad98bdd674fcd2a87e04ef1a615fc2e8ab3699855e99ce39c"), looks := false }, kinds := [], alts := [], laidByText := true, laidKinds := [.data, .data, .data, .data, .data, .data, .data, .data, .data, .data, .data], laidTests := true, laidLooks := .later }
def CodeTargetsCardSaid : Prop := Claim7.holds Tryd.pinned (.plain (OpenSpec.ofChange codeTargetsSpec)) codeTargetsCard

/-- THE TIED CARD OF 'vouchlaw6.CodeJumps'. -/
def codeJumpsCard : Claim7 := { stood := { row := codeJumpsRow, standIns := [], harness := (true, "93ee754c12ca7ffad98bdd674fcd2a87e04ef1a615fc2e8ab3699855e99ce39c"), looks := false }, kinds := [], alts := [], laidByText := true, laidKinds := [.data, .data, .data, .data, .data, .data, .data, .data, .data, .data, .data], laidTests := true, laidLooks := .later }
def CodeJumpsCardSaid : Prop := Claim7.holds Tryd.pinned (.plain (OpenSpec.ofChange codeJumpsSpec)) codeJumpsCard

/-- THE TIED CARD OF 'vouchlaw6.CodeWithin'. -/
def codeWithinCard : Claim7 := { stood := { row := codeWithinRow, standIns := [], harness := (true, "93ee754c12ca7ffad98bdd674fcd2a87e04ef1a615fc2e8ab3699855e99ce39c"), looks := false }, kinds := [], alts := [], laidByText := true, laidKinds := [.data, .data, .data, .data, .data, .data, .data, .data, .data, .data, .data], laidTests := true, laidLooks := .later }
def CodeWithinCardSaid : Prop := Claim7.holds Tryd.pinned (.plain (OpenSpec.ofChange codeWithinSpec)) codeWithinCard

/-- THE TIED CARD OF 'vouchlaw6.CodeOwn'. -/
def codeOwnCard : Claim7 := { stood := { row := codeOwnRow, standIns := [], harness := (true, "93ee754c12ca7ffad98bdd674fcd2a87e04ef1a615fc2e8ab3699855e99ce39c"), looks := false }, kinds := [], alts := [], laidByText := true, laidKinds := [.data, .data, .data, .data, .data, .data, .data, .data, .data, .data, .data], laidTests := true, laidLooks := .later }
def CodeOwnCardSaid : Prop := Claim7.holds Tryd.pinned (.plain (OpenSpec.ofChange codeOwnSpec)) codeOwnCard

/-- THE TIED CARD OF 'vouchlaw6.CodeLent'. -/
def codeLentCard : Claim7 := { stood := { row := codeLentRow, standIns := [], harness := (true, "93ee754c12ca7ffad98bdd674fcd2a87e04ef1a615fc2e8ab3699855e99ce39c"), looks := false }, kinds := [], alts := [], laidByText := true, laidKinds := [.data, .data, .data, .data, .data, .data, .data, .data, .data, .data, .data], laidTests := true, laidLooks := .later }
def CodeLentCardSaid : Prop := Claim7.holds Tryd.pinned (.plain (OpenSpec.ofChange codeLentSpec)) codeLentCard

/-- THE TIED CARD OF 'vouchlaw7.FlowHeights'. -/
def flowHeightsCard : Claim7 := { stood := { row := flowHeightsRow, standIns := [], harness := (true, "93ee754c12ca7ffad98bdd674fcd2a87e04ef1a615fc2e8ab3699855e99ce39c"), looks := false }, kinds := [], alts := [], laidByText := true, laidKinds := [.data, .data, .data, .data, .data, .data, .data, .data, .data, .data, .data], laidTests := true, laidLooks := .later }
def FlowHeightsCardSaid : Prop := Claim7.holds Tryd.pinned (.plain (OpenSpec.ofChange flowHeightsSpec)) flowHeightsCard

/-- THE TIED CARD OF 'vouchlaw7.FlowMost'. -/
def flowMostCard : Claim7 := { stood := { row := flowMostRow, standIns := [], harness := (true, "93ee754c12ca7ffad98bdd674fcd2a87e04ef1a615fc2e8ab3699855e99ce39c"), looks := false }, kinds := [], alts := [], laidByText := true, laidKinds := [.data, .data, .data, .data, .data, .data, .data, .data, .data, .data, .data], laidTests := true, laidLooks := .later }
def FlowMostCardSaid : Prop := Claim7.holds Tryd.pinned (.plain (OpenSpec.ofChange flowMostSpec)) flowMostCard

/-- THE TIED CARD OF 'vouchlaw7.FlowReturns'. -/
def flowReturnsCard : Claim7 := { stood := { row := flowReturnsRow, standIns := [], harness := (true, "93ee754c12ca7ffad98bdd674fcd2a87e04ef1a615fc2e8ab3699855e99ce39c"), looks := false }, kinds := [], alts := [], laidByText := true, laidKinds := [.data, .data, .data, .data, .data, .data, .data, .data, .data, .data, .data], laidTests := true, laidLooks := .later }
def FlowReturnsCardSaid : Prop := Claim7.holds Tryd.pinned (.plain (OpenSpec.ofChange flowReturnsSpec)) flowReturnsCard

/-- THE TIED CARD OF 'vouchlaw7.FlowAll'. -/
def flowAllCard : Claim7 := { stood := { row := flowAllRow, standIns := [], harness := (true, "93ee754c12ca7ffad98bdd674fcd2a87e04ef1a615fc2e8ab3699855e99ce39c"), looks := false }, kinds := [], alts := [], laidByText := true, laidKinds := [.data, .data, .data, .data, .data, .data, .data, .data, .data, .data, .data], laidTests := true, laidLooks := .later }
def FlowAllCardSaid : Prop := Claim7.holds Tryd.pinned (.plain (OpenSpec.ofChange flowAllSpec)) flowAllCard

/-- THE TIED CARD OF 'vouchlaw7.FlowJudged'. -/
def flowJudgedCard : Claim7 := { stood := { row := flowJudgedRow, standIns := [], harness := (true, "93ee754c12ca7ffad98bdd674fcd2a87e04ef1a615fc2e8ab3699855e99ce39c"), looks := false }, kinds := [], alts := [], laidByText := true, laidKinds := [.data, .data, .data, .data, .data, .data, .data, .data, .data, .data, .data], laidTests := true, laidLooks := .later }
def FlowJudgedCardSaid : Prop := Claim7.holds Tryd.pinned (.plain (OpenSpec.ofChange flowJudgedSpec)) flowJudgedCard

/-- THE TIED CARD OF 'vouchlaw7.FlowWalks'. -/
def flowWalksCard : Claim7 := { stood := { row := flowWalksRow, standIns := [], harness := (true, "93ee754c12ca7ffad98bdd674fcd2a87e04ef1a615fc2e8ab3699855e99ce39c"), looks := false }, kinds := [], alts := [], laidByText := true, laidKinds := [.data, .data, .data, .data, .data, .data, .data, .data, .data, .data, .data], laidTests := true, laidLooks := .later }
def FlowWalksCardSaid : Prop := Claim7.holds Tryd.pinned (.plain (OpenSpec.ofChange flowWalksSpec)) flowWalksCard

/-- THE TIED CARD OF 'vouchlaw7.FlowMet'. -/
def flowMetCard : Claim7 := { stood := { row := flowMetRow, standIns := [], harness := (true, "93ee754c12ca7ffad98bdd674fcd2a87e04ef1a615fc2e8ab3699855e99ce39c"), looks := false }, kinds := [], alts := [], laidByText := true, laidKinds := [.data, .data, .data, .data, .data, .data, .data, .data, .data, .data, .data], laidTests := true, laidLooks := .later }
def FlowMetCardSaid : Prop := Claim7.holds Tryd.pinned (.plain (OpenSpec.ofChange flowMetSpec)) flowMetCard

/-- THE TIED CARD OF 'vouchlaw7.FlowMoved'. -/
def flowMovedCard : Claim7 := { stood := { row := flowMovedRow, standIns := [], harness := (true, "93ee754c12ca7ffad98bdd674fcd2a87e04ef1a615fc2e8ab3699855e99ce39c"), looks := false }, kinds := [], alts := [], laidByText := true, laidKinds := [.data, .data, .data, .data, .data, .data, .data, .data, .data, .data, .data], laidTests := true, laidLooks := .later }
def FlowMovedCardSaid : Prop := Claim7.holds Tryd.pinned (.plain (OpenSpec.ofChange flowMovedSpec)) flowMovedCard

/-- THE TIED CARD OF 'vouchlaw7.FlowNamed'. -/
def flowNamedCard : Claim7 := { stood := { row := flowNamedRow, standIns := [], harness := (true, "93ee754c12ca7ffad98bdd674fcd2a87e04ef1a615fc2e8ab3699855e99ce39c"), looks := false }, kinds := [], alts := [], laidByText := true, laidKinds := [.data, .data, .data, .data, .data, .data, .data, .data, .data, .data, .data], laidTests := true, laidLooks := .later }
def FlowNamedCardSaid : Prop := Claim7.holds Tryd.pinned (.plain (OpenSpec.ofChange flowNamedSpec)) flowNamedCard

/-- THE TIED CARD OF 'vouchlaw7.FlowStraight'. -/
def flowStraightCard : Claim7 := { stood := { row := flowStraightRow, standIns := [], harness := (true, "93ee754c12ca7ffad98bdd674fcd2a87e04ef1a615fc2e8ab3699855e99ce39c"), looks := false }, kinds := [], alts := [], laidByText := true, laidKinds := [.data, .data, .data, .data, .data, .data, .data, .data, .data, .data, .data], laidTests := true, laidLooks := .later }
def FlowStraightCardSaid : Prop := Claim7.holds Tryd.pinned (.plain (OpenSpec.ofChange flowStraightSpec)) flowStraightCard

/-- THE TIED CARD OF 'vouchlaw7.FlowFresh'. -/
def flowFreshCard : Claim7 := { stood := { row := flowFreshRow, standIns := [], harness := (true, "93ee754c12ca7ffad98bdd674fcd2a87e04ef1a615fc2e8ab3699855e99ce39c"), looks := false }, kinds := [], alts := [], laidByText := true, laidKinds := [.data, .data, .data, .data, .data, .data, .data, .data, .data, .data, .data], laidTests := true, laidLooks := .later }
def FlowFreshCardSaid : Prop := Claim7.holds Tryd.pinned (.plain (OpenSpec.ofChange flowFreshSpec)) flowFreshCard

/-- THE TIED CARD OF 'vouchlaw4.OpAll'. -/
def opAllCard : Claim7 := { stood := { row := opAllRow, standIns := [], harness := (true, "93ee754c12ca7ffad98bdd674fcd2a87e04ef1a615fc2e8ab3699855e99ce39c"), looks := false }, kinds := [], alts := [], laidByText := true, laidKinds := [.data, .data, .data, .data, .data, .data, .data, .data, .data, .data, .data], laidTests := true, laidLooks := .later }
def OpAllCardSaid : Prop := Claim7.holds Tryd.pinned (.plain (OpenSpec.ofChange opAllSpec)) opAllCard

/-- THE SECOND FORM's CARD OF 'vouchlaw6.CodeOnes'. -/
def codeOnesUptoCard : Claim7 := { stood := { row := codeOnesUptoRow, standIns := [], harness := (true, "93ee754c12ca7ffad98bdd674fcd2a87e04ef1a615fc2e8ab3699855e99ce39c"), looks := false }, kinds := [], alts := [], laidByText := true, laidKinds := [.data, .data, .data, .data, .data, .data, .data, .data, .data, .data, .data], laidTests := true, laidLooks := .later }
def CodeOnesUptoCardSaid : Prop := Claim7.holds Tryd.pinned (.plain (OpenSpec.upto codeOnesSpec)) codeOnesUptoCard

/-- THE SECOND FORM's CARD OF 'vouchlaw6.CodeLeads'. -/
def codeLeadsUptoCard : Claim7 := { stood := { row := codeLeadsUptoRow, standIns := [], harness := (true, "93ee754c12ca7ffad98bdd674fcd2a87e04ef1a615fc2e8ab3699855e99ce39c"), looks := false }, kinds := [], alts := [], laidByText := true, laidKinds := [.data, .data, .data, .data, .data, .data, .data, .data, .data, .data, .data], laidTests := true, laidLooks := .later }
def CodeLeadsUptoCardSaid : Prop := Claim7.holds Tryd.pinned (.plain (OpenSpec.upto codeLeadsSpec)) codeLeadsUptoCard

/-- THE SECOND FORM's CARD OF 'vouchlaw6.CodeChecks'. -/
def codeChecksUptoCard : Claim7 := { stood := { row := codeChecksUptoRow, standIns := [], harness := (true, "93ee754c12ca7ffad98bdd674fcd2a87e04ef1a615fc2e8ab3699855e99ce39c"), looks := false }, kinds := [], alts := [], laidByText := true, laidKinds := [.data, .data, .data, .data, .data, .data, .data, .data, .data, .data, .data], laidTests := true, laidLooks := .later }
def CodeChecksUptoCardSaid : Prop := Claim7.holds Tryd.pinned (.plain (OpenSpec.upto codeChecksSpec)) codeChecksUptoCard

/-- THE SECOND FORM's CARD OF 'vouchlaw6.CodePlays'. -/
def codePlaysUptoCard : Claim7 := { stood := { row := codePlaysUptoRow, standIns := [], harness := (true, "93ee754c12ca7ffad98bdd674fcd2a87e04ef1a615fc2e8ab3699855e99ce39c"), looks := false }, kinds := [], alts := [], laidByText := true, laidKinds := [.data, .data, .data, .data, .data, .data, .data, .data, .data, .data, .data], laidTests := true, laidLooks := .later }
def CodePlaysUptoCardSaid : Prop := Claim7.holds Tryd.pinned (.plain (OpenSpec.upto codePlaysSpec)) codePlaysUptoCard

/-- THE SECOND FORM's CARD OF 'vouchlaw6.CodeWhole'. -/
def codeWholeUptoCard : Claim7 := { stood := { row := codeWholeUptoRow, standIns := [], harness := (true, "93ee754c12ca7ffad98bdd674fcd2a87e04ef1a615fc2e8ab3699855e99ce39c"), looks := false }, kinds := [], alts := [], laidByText := true, laidKinds := [.data, .data, .data, .data, .data, .data, .data, .data, .data, .data, .data], laidTests := true, laidLooks := .later }
def CodeWholeUptoCardSaid : Prop := Claim7.holds Tryd.pinned (.plain (OpenSpec.upto codeWholeSpec)) codeWholeUptoCard

/-- THE SECOND FORM's CARD OF 'vouchlaw6.CodeLocal'. -/
def codeLocalUptoCard : Claim7 := { stood := { row := codeLocalUptoRow, standIns := [], harness := (true, "93ee754c12ca7ffad98bdd674fcd2a87e04ef1a615fc2e8ab3699855e99ce39c"), looks := false }, kinds := [], alts := [], laidByText := true, laidKinds := [.data, .data, .data, .data, .data, .data, .data, .data, .data, .data, .data], laidTests := true, laidLooks := .later }
def CodeLocalUptoCardSaid : Prop := Claim7.holds Tryd.pinned (.plain (OpenSpec.upto codeLocalSpec)) codeLocalUptoCard

/-- THE SECOND FORM's CARD OF 'vouchlaw6.CodeAgrees'. -/
def codeAgreesUptoCard : Claim7 := { stood := { row := codeAgreesUptoRow, standIns := [], harness := (true, "93ee754c12ca7ffad98bdd674fcd2a87e04ef1a615fc2e8ab3699855e99ce39c"), looks := false }, kinds := [], alts := [], laidByText := true, laidKinds := [.data, .data, .data, .data, .data, .data, .data, .data, .data, .data, .data], laidTests := true, laidLooks := .later }
def CodeAgreesUptoCardSaid : Prop := Claim7.holds Tryd.pinned (.plain (OpenSpec.upto codeAgreesSpec)) codeAgreesUptoCard

/-- THE SECOND FORM's CARD OF 'vouchlaw6.CodeTargets'. -/
def codeTargetsUptoCard : Claim7 := { stood := { row := codeTargetsUptoRow, standIns := [], harness := (true, "93ee754c12ca7ffad98bdd674fcd2a87e04ef1a615fc2e8ab3699855e99ce39c"), looks := false }, kinds := [], alts := [], laidByText := true, laidKinds := [.data, .data, .data, .data, .data, .data, .data, .data, .data, .data, .data], laidTests := true, laidLooks := .later }
def CodeTargetsUptoCardSaid : Prop := Claim7.holds Tryd.pinned (.plain (OpenSpec.upto codeTargetsSpec)) codeTargetsUptoCard

/-- THE SECOND FORM's CARD OF 'vouchlaw6.CodeJumps'. -/
def codeJumpsUptoCard : Claim7 := { stood := { row := codeJumpsUptoRow, standIns := [], harness := (true, "93ee754c12ca7ffad98bdd674fcd2a87e04ef1a615fc2e8ab3699855e99ce39c"), looks := false }, kinds := [], alts := [], laidByText := true, laidKinds := [.data, .data, .data, .data, .data, .data, .data, .data, .data, .data, .data], laidTests := true, laidLooks := .later }
def CodeJumpsUptoCardSaid : Prop := Claim7.holds Tryd.pinned (.plain (OpenSpec.upto codeJumpsSpec)) codeJumpsUptoCard

/-- THE SECOND FORM's CARD OF 'vouchlaw6.CodeWithin'. -/
def codeWithinUptoCard : Claim7 := { stood := { row := codeWithinUptoRow, standIns := [], harness := (true, "93ee754c12ca7ffad98bdd674fcd2a87e04ef1a615fc2e8ab3699855e99ce39c"), looks := false }, kinds := [], alts := [], laidByText := true, laidKinds := [.data, .data, .data, .data, .data, .data, .data, .data, .data, .data, .data], laidTests := true, laidLooks := .later }
def CodeWithinUptoCardSaid : Prop := Claim7.holds Tryd.pinned (.plain (OpenSpec.upto codeWithinSpec)) codeWithinUptoCard

/-- THE SECOND FORM's CARD OF 'vouchlaw6.CodeOwn'. -/
def codeOwnUptoCard : Claim7 := { stood := { row := codeOwnUptoRow, standIns := [], harness := (true, "93ee754c12ca7ffad98bdd674fcd2a87e04ef1a615fc2e8ab3699855e99ce39c"), looks := false }, kinds := [], alts := [], laidByText := true, laidKinds := [.data, .data, .data, .data, .data, .data, .data, .data, .data, .data, .data], laidTests := true, laidLooks := .later }
def CodeOwnUptoCardSaid : Prop := Claim7.holds Tryd.pinned (.plain (OpenSpec.upto codeOwnSpec)) codeOwnUptoCard

/-- THE SECOND FORM's CARD OF 'vouchlaw6.CodeLent'. -/
def codeLentUptoCard : Claim7 := { stood := { row := codeLentUptoRow, standIns := [], harness := (true, "93ee754c12ca7ffad98bdd674fcd2a87e04ef1a615fc2e8ab3699855e99ce39c"), looks := false }, kinds := [], alts := [], laidByText := true, laidKinds := [.data, .data, .data, .data, .data, .data, .data, .data, .data, .data, .data], laidTests := true, laidLooks := .later }
def CodeLentUptoCardSaid : Prop := Claim7.holds Tryd.pinned (.plain (OpenSpec.upto codeLentSpec)) codeLentUptoCard

/-- THE SECOND FORM's CARD OF 'vouchlaw7.FlowHeights'. -/
def flowHeightsUptoCard : Claim7 := { stood := { row := flowHeightsUptoRow, standIns := [], harness := (true, "93ee754c12ca7ffad98bdd674fcd2a87e04ef1a615fc2e8ab3699855e99ce39c"), looks := false }, kinds := [], alts := [], laidByText := true, laidKinds := [.data, .data, .data, .data, .data, .data, .data, .data, .data, .data, .data], laidTests := true, laidLooks := .later }
def FlowHeightsUptoCardSaid : Prop := Claim7.holds Tryd.pinned (.plain (OpenSpec.upto flowHeightsSpec)) flowHeightsUptoCard

/-- THE SECOND FORM's CARD OF 'vouchlaw7.FlowMost'. -/
def flowMostUptoCard : Claim7 := { stood := { row := flowMostUptoRow, standIns := [], harness := (true, "93ee754c12ca7ffad98bdd674fcd2a87e04ef1a615fc2e8ab3699855e99ce39c"), looks := false }, kinds := [], alts := [], laidByText := true, laidKinds := [.data, .data, .data, .data, .data, .data, .data, .data, .data, .data, .data], laidTests := true, laidLooks := .later }
def FlowMostUptoCardSaid : Prop := Claim7.holds Tryd.pinned (.plain (OpenSpec.upto flowMostSpec)) flowMostUptoCard

/-- THE SECOND FORM's CARD OF 'vouchlaw7.FlowReturns'. -/
def flowReturnsUptoCard : Claim7 := { stood := { row := flowReturnsUptoRow, standIns := [], harness := (true, "93ee754c12ca7ffad98bdd674fcd2a87e04ef1a615fc2e8ab3699855e99ce39c"), looks := false }, kinds := [], alts := [], laidByText := true, laidKinds := [.data, .data, .data, .data, .data, .data, .data, .data, .data, .data, .data], laidTests := true, laidLooks := .later }
def FlowReturnsUptoCardSaid : Prop := Claim7.holds Tryd.pinned (.plain (OpenSpec.upto flowReturnsSpec)) flowReturnsUptoCard

/-- THE SECOND FORM's CARD OF 'vouchlaw7.FlowAll'. -/
def flowAllUptoCard : Claim7 := { stood := { row := flowAllUptoRow, standIns := [], harness := (true, "93ee754c12ca7ffad98bdd674fcd2a87e04ef1a615fc2e8ab3699855e99ce39c"), looks := false }, kinds := [], alts := [], laidByText := true, laidKinds := [.data, .data, .data, .data, .data, .data, .data, .data, .data, .data, .data], laidTests := true, laidLooks := .later }
def FlowAllUptoCardSaid : Prop := Claim7.holds Tryd.pinned (.plain (OpenSpec.upto flowAllSpec)) flowAllUptoCard

/-- THE SECOND FORM's CARD OF 'vouchlaw7.FlowJudged'. -/
def flowJudgedUptoCard : Claim7 := { stood := { row := flowJudgedUptoRow, standIns := [], harness := (true, "93ee754c12ca7ffad98bdd674fcd2a87e04ef1a615fc2e8ab3699855e99ce39c"), looks := false }, kinds := [], alts := [], laidByText := true, laidKinds := [.data, .data, .data, .data, .data, .data, .data, .data, .data, .data, .data], laidTests := true, laidLooks := .later }
def FlowJudgedUptoCardSaid : Prop := Claim7.holds Tryd.pinned (.plain (OpenSpec.upto flowJudgedSpec)) flowJudgedUptoCard

/-- THE SECOND FORM's CARD OF 'vouchlaw7.FlowWalks'. -/
def flowWalksUptoCard : Claim7 := { stood := { row := flowWalksUptoRow, standIns := [], harness := (true, "93ee754c12ca7ffad98bdd674fcd2a87e04ef1a615fc2e8ab3699855e99ce39c"), looks := false }, kinds := [], alts := [], laidByText := true, laidKinds := [.data, .data, .data, .data, .data, .data, .data, .data, .data, .data, .data], laidTests := true, laidLooks := .later }
def FlowWalksUptoCardSaid : Prop := Claim7.holds Tryd.pinned (.plain (OpenSpec.upto flowWalksSpec)) flowWalksUptoCard

/-- THE SECOND FORM's CARD OF 'vouchlaw7.FlowMet'. -/
def flowMetUptoCard : Claim7 := { stood := { row := flowMetUptoRow, standIns := [], harness := (true, "93ee754c12ca7ffad98bdd674fcd2a87e04ef1a615fc2e8ab3699855e99ce39c"), looks := false }, kinds := [], alts := [], laidByText := true, laidKinds := [.data, .data, .data, .data, .data, .data, .data, .data, .data, .data, .data], laidTests := true, laidLooks := .later }
def FlowMetUptoCardSaid : Prop := Claim7.holds Tryd.pinned (.plain (OpenSpec.upto flowMetSpec)) flowMetUptoCard

/-- THE SECOND FORM's CARD OF 'vouchlaw7.FlowMoved'. -/
def flowMovedUptoCard : Claim7 := { stood := { row := flowMovedUptoRow, standIns := [], harness := (true, "93ee754c12ca7ffad98bdd674fcd2a87e04ef1a615fc2e8ab3699855e99ce39c"), looks := false }, kinds := [], alts := [], laidByText := true, laidKinds := [.data, .data, .data, .data, .data, .data, .data, .data, .data, .data, .data], laidTests := true, laidLooks := .later }
def FlowMovedUptoCardSaid : Prop := Claim7.holds Tryd.pinned (.plain (OpenSpec.upto flowMovedSpec)) flowMovedUptoCard

/-- THE SECOND FORM's CARD OF 'vouchlaw7.FlowNamed'. -/
def flowNamedUptoCard : Claim7 := { stood := { row := flowNamedUptoRow, standIns := [], harness := (true, "93ee754c12ca7ffad98bdd674fcd2a87e04ef1a615fc2e8ab3699855e99ce39c"), looks := false }, kinds := [], alts := [], laidByText := true, laidKinds := [.data, .data, .data, .data, .data, .data, .data, .data, .data, .data, .data], laidTests := true, laidLooks := .later }
def FlowNamedUptoCardSaid : Prop := Claim7.holds Tryd.pinned (.plain (OpenSpec.upto flowNamedSpec)) flowNamedUptoCard

/-- THE SECOND FORM's CARD OF 'vouchlaw7.FlowStraight'. -/
def flowStraightUptoCard : Claim7 := { stood := { row := flowStraightUptoRow, standIns := [], harness := (true, "93ee754c12ca7ffad98bdd674fcd2a87e04ef1a615fc2e8ab3699855e99ce39c"), looks := false }, kinds := [], alts := [], laidByText := true, laidKinds := [.data, .data, .data, .data, .data, .data, .data, .data, .data, .data, .data], laidTests := true, laidLooks := .later }
def FlowStraightUptoCardSaid : Prop := Claim7.holds Tryd.pinned (.plain (OpenSpec.upto flowStraightSpec)) flowStraightUptoCard

/-- THE SECOND FORM's CARD OF 'vouchlaw7.FlowFresh'. -/
def flowFreshUptoCard : Claim7 := { stood := { row := flowFreshUptoRow, standIns := [], harness := (true, "93ee754c12ca7ffad98bdd674fcd2a87e04ef1a615fc2e8ab3699855e99ce39c"), looks := false }, kinds := [], alts := [], laidByText := true, laidKinds := [.data, .data, .data, .data, .data, .data, .data, .data, .data, .data, .data], laidTests := true, laidLooks := .later }
def FlowFreshUptoCardSaid : Prop := Claim7.holds Tryd.pinned (.plain (OpenSpec.upto flowFreshSpec)) flowFreshUptoCard

/-- THE SECOND FORM's CARD OF 'vouchlaw4.OpAll'. -/
def opAllUptoCard : Claim7 := { stood := { row := opAllUptoRow, standIns := [], harness := (true, "93ee754c12ca7ffad98bdd674fcd2a87e04ef1a615fc2e8ab3699855e99ce39c"), looks := false }, kinds := [], alts := [], laidByText := true, laidKinds := [.data, .data, .data, .data, .data, .data, .data, .data, .data, .data, .data], laidTests := true, laidLooks := .later }
def OpAllUptoCardSaid : Prop := Claim7.holds Tryd.pinned (.plain (OpenSpec.upto opAllSpec)) opAllUptoCard
end Rows
end Go.Proofs.YtbhldmfnhlifpaaDoor
