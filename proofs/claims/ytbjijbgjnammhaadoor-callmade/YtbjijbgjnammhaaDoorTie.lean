/-
  DERIVED. GIVEN WITH THE SEED: THE PROGRAM's TIES (one call each: nine closed facts by the kernel) AND EACH ROW's TIE, after the 31st guide's Derived/Test/Toyas{Tie, Card}.lean. No idea stands in it: it is a product of the set-up. Laid BY PROGRAM, IN A SANDBOX (cutbox-door.mjs). By AI agents, Wed Nov 11 2026. No macro, syntax, notation, axiom, sorry.
-/
import Derived.Test.YtbjijbgjnammhaaDoorRows
import Derived.LaidByTextLater
import Derived.SevenTiedAt
import Derived.LaidSub
import Derived.LaidOnce
namespace Go.Proofs.YtbjijbgjnammhaaDoor
open Go
set_option maxRecDepth 100000
theorem seatTie1 : Tryd.prog.laidByTextLater [("vouch/sponge.constants", Rows.laid_vouch_sponge_constants), ("vouch/sponge.turns", Rows.laid_vouch_sponge_turns), ("vouch/sponge.moves", Rows.laid_vouch_sponge_moves)] [.data, .data, .data] true :=
  Program.laidByTextLater_by_one 24 8 26 (by kernel_rfl) (by kernel_rfl) (by kernel_rfl) (by kernel_rfl) (by kernel_rfl) (by kernel_rfl) (fun _ _ => by kernel_rfl)
theorem noOwnUnsafe : Tryd.pinned.checked.prog.headLifts.contains "ownunsafe" = false := by kernel_rfl
theorem tie : Tryd.prog.laidByTextLater [("vouch/sponge.constants", Rows.laid_vouch_sponge_constants), ("vouch/sponge.turns", Rows.laid_vouch_sponge_turns), ("vouch/sponge.moves", Rows.laid_vouch_sponge_moves)] [.data, .data, .data] true :=
  Program.laidByTextLater.sub seatTie1 ["vouch/sponge.constants", "vouch/sponge.turns", "vouch/sponge.moves"] (by kernel_rfl) (by kernel_rfl)
theorem callMade_row_tie : Rows.callMadeRow.laidByTextAt .later Tryd.pinned [.data, .data, .data] true :=
  OpenClaim.laidByTextAt_later rfl rfl tie noOwnUnsafe
theorem callMadeUpto_row_tie : Rows.callMadeUptoRow.laidByTextAt .later Tryd.pinned [.data, .data, .data] true :=
  OpenClaim.laidByTextAt_later rfl rfl tie noOwnUnsafe
end Go.Proofs.YtbjijbgjnammhaaDoor
