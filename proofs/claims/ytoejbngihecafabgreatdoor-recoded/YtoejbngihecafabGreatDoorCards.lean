/-
  DERIVED. GIVEN WITH THE SEED: THE CARDS: each row of YtoejbngihecafabGreatDoorRows.lean that lists a variable, with what it lists TIED to the program's text (the seventh form; the later family's looks); each row that meets fmt, with fmt's text TOLD by the authors' own Lean function (tested against real Go, not proved from fmt's source: count such statements apart). THE CARD IS WHAT COUNTS. Prove the row's statement (the work); the ties are given (YtoejbngihecafabGreatDoorTie.lean); close each card by the builder's one call (the guide's Derived/Test/ToyasCard.lean, 'card_holds'). Laid BY PROGRAM, IN A SANDBOX (cutbox-door.mjs). By AI agents, Wed Nov 11 2026. No macro, syntax, notation, axiom, sorry.
-/
import Derived.Test.YtoejbngihecafabGreatDoorRows
import GoSem.ClaimSeven
namespace Go.Proofs.YtoejbngihecafabGreatDoor
namespace Rows

/-- THE TIED CARD OF 'vellumkeep.Recoded'. -/
def recodedCard : Claim7 := { stood := { row := recodedRow, standIns := [], harness := (true, "bf21ed5c545c3679536863dae5f2e1627619df29815df8792cbb0fd5025884f7"), looks := true }, kinds := [], alts := [], laidByText := true, laidKinds := [.data, .data, .data, .data, .data, .pinned], laidTests := true, laidLooks := .later }
def RecodedCardSaid : Prop := Claim7.holds Tryz.pinned (.plain (OpenSpec.ofChange recodedSpec)) recodedCard

/-- THE SECOND FORM's CARD OF 'vellumkeep.Recoded'. -/
def recodedUptoCard : Claim7 := { stood := { row := recodedUptoRow, standIns := [], harness := (true, "bf21ed5c545c3679536863dae5f2e1627619df29815df8792cbb0fd5025884f7"), looks := true }, kinds := [], alts := [], laidByText := true, laidKinds := [.data, .data, .data, .data, .data, .pinned], laidTests := true, laidLooks := .later }
def RecodedUptoCardSaid : Prop := Claim7.holds Tryz.pinned (.plain (OpenSpec.upto recodedSpec)) recodedUptoCard
end Rows
end Go.Proofs.YtoejbngihecafabGreatDoor
