/-
  DERIVED. GIVEN WITH THE SEED: THE CARDS: each row of YtoejbngihecafaaGreatDoorRows.lean that lists a variable, with what it lists TIED to the program's text (the seventh form; the later family's looks); each row that meets fmt, with fmt's text TOLD by the authors' own Lean function (tested against real Go, not proved from fmt's source: count such statements apart). THE CARD IS WHAT COUNTS. Prove the row's statement (the work); the ties are given (YtoejbngihecafaaGreatDoorTie.lean); close each card by the builder's one call (the guide's Derived/Test/ToyasCard.lean, 'card_holds'). Laid BY PROGRAM, IN A SANDBOX (cutbox-door.mjs). By AI agents, Wed Nov 11 2026. No macro, syntax, notation, axiom, sorry.
-/
import Derived.Test.YtoejbngihecafaaGreatDoorRows
import GoSem.ClaimSeven
namespace Go.Proofs.YtoejbngihecafaaGreatDoor
namespace Rows

/-- THE TIED CARD OF 'vellumlaw.Pieces'. -/
def piecesCard : Claim7 := { stood := { row := piecesRow, standIns := [], harness := (true, "476ce103ca9bcc29d3316d6e66357a6afa3c8964348a1574e4a4b358017f3410"), looks := true }, kinds := [], alts := [], laidByText := true, laidKinds := [.data, .data, .data], laidTests := true, laidLooks := .later }
def PiecesCardSaid : Prop := Claim7.holds Tryz.pinned (.plain (OpenSpec.ofChange piecesSpec)) piecesCard

/-- THE TIED CARD OF 'vellumlaw.Edits'. -/
def editsCard : Claim7 := { stood := { row := editsRow, standIns := [], harness := (true, "476ce103ca9bcc29d3316d6e66357a6afa3c8964348a1574e4a4b358017f3410"), looks := true }, kinds := [], alts := [], laidByText := true, laidKinds := [.data, .data, .data, .data, .data, .pinned], laidTests := true, laidLooks := .later }
def EditsCardSaid : Prop := Claim7.holds Tryz.pinned (.plain (OpenSpec.ofChange editsSpec)) editsCard

/-- THE TIED CARD OF 'vellumlaw.Scripts'. -/
def scriptsCard : Claim7 := { stood := { row := scriptsRow, standIns := [], harness := (true, "476ce103ca9bcc29d3316d6e66357a6afa3c8964348a1574e4a4b358017f3410"), looks := true }, kinds := [], alts := [], laidByText := true, laidKinds := [.data, .data, .data, .data, .data, .pinned], laidTests := true, laidLooks := .later }
def ScriptsCardSaid : Prop := Claim7.holds Tryz.pinned (.plain (OpenSpec.ofChange scriptsSpec)) scriptsCard

/-- THE TIED CARD OF 'vellumlaw.All'. -/
def allCard : Claim7 := { stood := { row := allRow, standIns := [], harness := (true, "476ce103ca9bcc29d3316d6e66357a6afa3c8964348a1574e4a4b358017f3410"), looks := true }, kinds := [], alts := [], laidByText := true, laidKinds := [.data, .data, .data, .data, .data, .pinned], laidTests := true, laidLooks := .later }
def AllCardSaid : Prop := Claim7.holds Tryz.pinned (.plain (OpenSpec.ofChange allSpec)) allCard

/-- THE TIED CARD OF 'vellumkeep.Spliced'. -/
def splicedCard : Claim7 := { stood := { row := splicedRow, standIns := [], harness := (true, "476ce103ca9bcc29d3316d6e66357a6afa3c8964348a1574e4a4b358017f3410"), looks := true }, kinds := [], alts := [], laidByText := true, laidKinds := [.data, .data, .data, .data, .data, .pinned], laidTests := true, laidLooks := .later }
def SplicedCardSaid : Prop := Claim7.holds Tryz.pinned (.plain (OpenSpec.ofChange splicedSpec)) splicedCard

/-- THE TIED CARD OF 'vellumkeep.Undone'. -/
def undoneCard : Claim7 := { stood := { row := undoneRow, standIns := [], harness := (true, "476ce103ca9bcc29d3316d6e66357a6afa3c8964348a1574e4a4b358017f3410"), looks := true }, kinds := [], alts := [], laidByText := true, laidKinds := [.data, .data, .data, .data, .data, .pinned], laidTests := true, laidLooks := .later }
def UndoneCardSaid : Prop := Claim7.holds Tryz.pinned (.plain (OpenSpec.ofChange undoneSpec)) undoneCard

/-- THE TIED CARD OF 'vellumkeep.Reread'. -/
def rereadCard : Claim7 := { stood := { row := rereadRow, standIns := [], harness := (true, "476ce103ca9bcc29d3316d6e66357a6afa3c8964348a1574e4a4b358017f3410"), looks := true }, kinds := [], alts := [], laidByText := true, laidKinds := [.data, .data, .data, .data, .data, .pinned], laidTests := true, laidLooks := .later }
def RereadCardSaid : Prop := Claim7.holds Tryz.pinned (.plain (OpenSpec.ofChange rereadSpec)) rereadCard

/-- THE SECOND FORM's CARD OF 'vellumlaw.Pieces'. -/
def piecesUptoCard : Claim7 := { stood := { row := piecesUptoRow, standIns := [], harness := (true, "476ce103ca9bcc29d3316d6e66357a6afa3c8964348a1574e4a4b358017f3410"), looks := true }, kinds := [], alts := [], laidByText := true, laidKinds := [.data, .data, .data], laidTests := true, laidLooks := .later }
def PiecesUptoCardSaid : Prop := Claim7.holds Tryz.pinned (.plain (OpenSpec.upto piecesSpec)) piecesUptoCard

/-- THE SECOND FORM's CARD OF 'vellumlaw.Edits'. -/
def editsUptoCard : Claim7 := { stood := { row := editsUptoRow, standIns := [], harness := (true, "476ce103ca9bcc29d3316d6e66357a6afa3c8964348a1574e4a4b358017f3410"), looks := true }, kinds := [], alts := [], laidByText := true, laidKinds := [.data, .data, .data, .data, .data, .pinned], laidTests := true, laidLooks := .later }
def EditsUptoCardSaid : Prop := Claim7.holds Tryz.pinned (.plain (OpenSpec.upto editsSpec)) editsUptoCard

/-- THE SECOND FORM's CARD OF 'vellumlaw.Scripts'. -/
def scriptsUptoCard : Claim7 := { stood := { row := scriptsUptoRow, standIns := [], harness := (true, "476ce103ca9bcc29d3316d6e66357a6afa3c8964348a1574e4a4b358017f3410"), looks := true }, kinds := [], alts := [], laidByText := true, laidKinds := [.data, .data, .data, .data, .data, .pinned], laidTests := true, laidLooks := .later }
def ScriptsUptoCardSaid : Prop := Claim7.holds Tryz.pinned (.plain (OpenSpec.upto scriptsSpec)) scriptsUptoCard

/-- THE SECOND FORM's CARD OF 'vellumlaw.All'. -/
def allUptoCard : Claim7 := { stood := { row := allUptoRow, standIns := [], harness := (true, "476ce103ca9bcc29d3316d6e66357a6afa3c8964348a1574e4a4b358017f3410"), looks := true }, kinds := [], alts := [], laidByText := true, laidKinds := [.data, .data, .data, .data, .data, .pinned], laidTests := true, laidLooks := .later }
def AllUptoCardSaid : Prop := Claim7.holds Tryz.pinned (.plain (OpenSpec.upto allSpec)) allUptoCard

/-- THE SECOND FORM's CARD OF 'vellumkeep.Spliced'. -/
def splicedUptoCard : Claim7 := { stood := { row := splicedUptoRow, standIns := [], harness := (true, "476ce103ca9bcc29d3316d6e66357a6afa3c8964348a1574e4a4b358017f3410"), looks := true }, kinds := [], alts := [], laidByText := true, laidKinds := [.data, .data, .data, .data, .data, .pinned], laidTests := true, laidLooks := .later }
def SplicedUptoCardSaid : Prop := Claim7.holds Tryz.pinned (.plain (OpenSpec.upto splicedSpec)) splicedUptoCard

/-- THE SECOND FORM's CARD OF 'vellumkeep.Undone'. -/
def undoneUptoCard : Claim7 := { stood := { row := undoneUptoRow, standIns := [], harness := (true, "476ce103ca9bcc29d3316d6e66357a6afa3c8964348a1574e4a4b358017f3410"), looks := true }, kinds := [], alts := [], laidByText := true, laidKinds := [.data, .data, .data, .data, .data, .pinned], laidTests := true, laidLooks := .later }
def UndoneUptoCardSaid : Prop := Claim7.holds Tryz.pinned (.plain (OpenSpec.upto undoneSpec)) undoneUptoCard

/-- THE SECOND FORM's CARD OF 'vellumkeep.Reread'. -/
def rereadUptoCard : Claim7 := { stood := { row := rereadUptoRow, standIns := [], harness := (true, "476ce103ca9bcc29d3316d6e66357a6afa3c8964348a1574e4a4b358017f3410"), looks := true }, kinds := [], alts := [], laidByText := true, laidKinds := [.data, .data, .data, .data, .data, .pinned], laidTests := true, laidLooks := .later }
def RereadUptoCardSaid : Prop := Claim7.holds Tryz.pinned (.plain (OpenSpec.upto rereadSpec)) rereadUptoCard
end Rows
end Go.Proofs.YtoejbngihecafaaGreatDoor
