/-
  NARROWER THAN 'FOR EVERY INPUT', by the rows' own cells (each row's printed sentence says how): Recoded: laid.
  DERIVED. THE GIVEN ROWS OF THIS SEAT. 1 by the template 'for every input the law returns true; each argument reads behind the call as it read before'; 0 by the template 'total and deterministic' (their statements: YtoejbngihecafabGreatDoorTotals.lean).
  GIVEN WITH THE SEED: the statements are not yours to turn. If you find one false, say at which input.
  Laid BY PROGRAM, IN A SANDBOX (cutbox-rows.mjs): the forced cells as the released guide's own fill.sh prints them over the translation cc231d1211f90621… (all of the seat's roots in one cut). By AI agents, Wed Nov 11 2026. No macro, syntax, notation, axiom, sorry.
-/
import Derived.Test.YtoejbngihecafabGreatDoorChecked
import GoSem.PinnedTables
import GoSem.Claim
import GoSem.ClaimJoined
import GoSem.ClaimMapViews
import Derived.JoinedTies
import Derived.KernelRfl
namespace Go.Proofs.YtoejbngihecafabGreatDoor
/- THE CELL 'sum', in the pinned program and in every row, IS THE sha256 OF THE DUMP (.gsa) THAT YtoejbngihecafabGreatDoorProg.lean LOADS. Nothing in Lean hashes anything: it is a label: what it is worth is what the hold of that sum in a sandbox is worth. -/
noncomputable def Tryz.pinned : Pinned := { name := "ytoejbngihecafabgreatdoor", sum := "cc231d1211f90621ec7e22ca3ea74b881231ee12c27bed645152bd8493e62a28", checked := Tryz.checked }
namespace Rows
def none {H : Type} : Left H := { results := [], args := [] }

/- WHAT THE LISTED PACKAGE-LEVEL VARIABLES READ AS WHEN THE CALL BEGINS. Each datum BY PROGRAM (the guide's laid-datum.mjs) off the statement by which the dump's own 'gosem.cut.vars' lays the variable. In a bare row this is a premise. The card (YtoejbngihecafabGreatDoorCards.lean) ties it to the program's text. -/
def laid_unicode_utf8_acceptRanges {H : Type} : DataW H := .agg [.agg [.lit (.int .u8 128), .lit (.int .u8 191)], .agg [.lit (.int .u8 160), .lit (.int .u8 191)], .agg [.lit (.int .u8 128), .lit (.int .u8 159)], .agg [.lit (.int .u8 144), .lit (.int .u8 191)], .agg [.lit (.int .u8 128), .lit (.int .u8 143)], .agg [.lit (.int .u8 0), .lit (.int .u8 0)], .agg [.lit (.int .u8 0), .lit (.int .u8 0)], .agg [.lit (.int .u8 0), .lit (.int .u8 0)], .agg [.lit (.int .u8 0), .lit (.int .u8 0)], .agg [.lit (.int .u8 0), .lit (.int .u8 0)], .agg [.lit (.int .u8 0), .lit (.int .u8 0)], .agg [.lit (.int .u8 0), .lit (.int .u8 0)], .agg [.lit (.int .u8 0), .lit (.int .u8 0)], .agg [.lit (.int .u8 0), .lit (.int .u8 0)], .agg [.lit (.int .u8 0), .lit (.int .u8 0)], .agg [.lit (.int .u8 0), .lit (.int .u8 0)]]
def laid_vellum_code_encodings {H : Type} : DataW H := .agg [.agg [.lit (.string [239, 187, 191]), .lit (.int .i32 1114111), .lit (.int .i64 0), .lit (.int .i64 0)], .agg [.lit (.string [255, 254]), .lit (.int .i32 1114111), .lit (.int .i64 0), .lit (.int .i64 1)], .agg [.lit (.string [254, 255]), .lit (.int .i32 1114111), .lit (.int .i64 1), .lit (.int .i64 0)], .agg [.lit (.string []), .lit (.int .i32 255), .lit (.int .i64 0), .lit (.int .i64 0)]]
def laid_vellum_code_sequences {H : Type} : DataW H := .agg [.agg [.lit (.int .u8 127), .lit (.int .i64 1), .lit (.int .u8 127), .lit (.int .u8 0), .lit (.int .u8 0)], .agg [.lit (.int .u8 193), .lit (.int .i64 2), .lit (.int .u8 0), .lit (.int .u8 255), .lit (.int .u8 0)], .agg [.lit (.int .u8 223), .lit (.int .i64 2), .lit (.int .u8 31), .lit (.int .u8 128), .lit (.int .u8 191)], .agg [.lit (.int .u8 224), .lit (.int .i64 3), .lit (.int .u8 15), .lit (.int .u8 160), .lit (.int .u8 191)], .agg [.lit (.int .u8 236), .lit (.int .i64 3), .lit (.int .u8 15), .lit (.int .u8 128), .lit (.int .u8 191)], .agg [.lit (.int .u8 237), .lit (.int .i64 3), .lit (.int .u8 15), .lit (.int .u8 128), .lit (.int .u8 159)], .agg [.lit (.int .u8 239), .lit (.int .i64 3), .lit (.int .u8 15), .lit (.int .u8 128), .lit (.int .u8 191)], .agg [.lit (.int .u8 240), .lit (.int .i64 4), .lit (.int .u8 7), .lit (.int .u8 144), .lit (.int .u8 191)], .agg [.lit (.int .u8 243), .lit (.int .i64 4), .lit (.int .u8 7), .lit (.int .u8 128), .lit (.int .u8 191)], .agg [.lit (.int .u8 244), .lit (.int .i64 4), .lit (.int .u8 7), .lit (.int .u8 128), .lit (.int .u8 143)], .agg [.lit (.int .u8 255), .lit (.int .i64 2), .lit (.int .u8 0), .lit (.int .u8 255), .lit (.int .u8 0)]]
def laid_vellum_code_halves {H : Type} : DataW H := .agg [.agg [.lit (.int .i32 55296), .lit (.int .i32 56319)], .agg [.lit (.int .i32 56320), .lit (.int .i32 57343)]]
def laid_vellum_code_ends {H : Type} : DataW H := .agg [.lit (.string [10]), .lit (.string [13, 10]), .lit (.string [13])]
/-- One of Go's own tables, pinned by name: the form's constant. -/
def laid_unicode_utf8_first : DataW Unit := Go.Pinned.utf8First

/-- 'vellumkeep.Recoded': WHATEVER THE INPUT: true; the input reads as it did. -/
def recodedSpec : ChangeSpec := { name := "recoded", fn := fun _ => fun
  | [d1, d2, d3, d4] => { results := [.lit (.bool true)], args := [d1, d2, d3, d4] }
  | _ => none }
def recodedRow : OpenClaim := { program := "ytoejbngihecafabgreatdoor", sum := "cc231d1211f90621ec7e22ca3ea74b881231ee12c27bed645152bd8493e62a28", func := "vellum/vellumkeep.Recoded", spec := "recoded", inPlace := ["internal/abi.NoEscape", "internal/bytealg.MakeNoZero"], unfollowed := true, recurses := true, named := ["vellum/code.encodings", "vellum/code.sequences", "vellum/code.halves", "unicode/utf8.first", "unicode/utf8.acceptRanges", "vellum/code.ends"], apart := false, laid := [("unicode/utf8.acceptRanges", laid_unicode_utf8_acceptRanges), ("vellum/code.encodings", laid_vellum_code_encodings), ("vellum/code.sequences", laid_vellum_code_sequences), ("vellum/code.halves", laid_vellum_code_halves), ("vellum/code.ends", laid_vellum_code_ends), ("unicode/utf8.first", laid_unicode_utf8_first)] }
def RecodedSaid : Prop := recodedRow.holds Tryz.pinned (OpenSpec.ofChange recodedSpec)

/-- ITS FALSE NEIGHBOUR: 'it returns false'. Refute it at one input. -/
def recodedWrong : ChangeSpec := { name := "recoded", fn := fun _ => fun
  | [d1, d2, d3, d4] => { results := [.lit (.bool false)], args := [d1, d2, d3, d4] }
  | _ => none }
def RecodedWrongFalsely : Prop := recodedRow.holds Tryz.pinned (OpenSpec.ofChange recodedWrong)

/- THE SECOND FORM. 'bulk': how many values and letters a reading holds, each counted each time it is reached (what is shared counts as often as it is met; a slice's spare places count too). A statement '..UptoSaid' is the law's where the arguments, and the package variables that the reading takes, are together of bulk at most 1048576: NARROWER than '..Said'. Prove '..Said' where nothing that the law and all that it calls make is longer than what came in: it says more and counts as full. Else prove '..UptoSaid'. A law counts once. -/
mutual
def uptoBulk {H : Type} : DataW H → Nat
  | .lit (.string bytes) => bytes.length + 1
  | .lit _ => 1
  | .nil => 1
  | .ptr d => uptoBulk d + 1
  | .slice elems spare => uptoBulkAll elems + uptoBulkAll spare + 1
  | .agg parts => uptoBulkAll parts + 1
  | .iface _ d => uptoBulk d + 1
  | .map entries => uptoBulkEntries entries + 1
  | .held _ => 1
def uptoBulkAll {H : Type} : List (DataW H) → Nat
  | [] => 0
  | d :: r => uptoBulk d + uptoBulkAll r
def uptoBulkEntries {H : Type} : List (Lit × DataW H) → Nat
  | [] => 0
  | x :: r => uptoBulkEntry x + uptoBulkEntries r
def uptoBulkEntry {H : Type} : Lit × DataW H → Nat
  | (.string bytes, d) => bytes.length + uptoBulk d + 1
  | (_, d) => uptoBulk d + 1
 end
def uptoSmall : (H : Type) → List (DataW H) → Bool := fun _ ds => decide (uptoBulkAll ds ≤ 1048576)
def OpenSpec.upto (s : _root_.Go.ChangeSpec) : _root_.Go.OpenSpec := { _root_.Go.OpenSpec.ofChange s with cond := some uptoSmall }

/-- 'vellumkeep.Recoded', WHERE WHAT IT READS IS OF BULK AT MOST 1048576: true; the input reads as it did. -/
def recodedUptoRow : OpenClaim := { program := "ytoejbngihecafabgreatdoor", sum := "cc231d1211f90621ec7e22ca3ea74b881231ee12c27bed645152bd8493e62a28", func := "vellum/vellumkeep.Recoded", spec := "recoded", inPlace := ["internal/abi.NoEscape", "internal/bytealg.MakeNoZero"], unfollowed := true, recurses := true, named := ["vellum/code.encodings", "vellum/code.sequences", "vellum/code.halves", "unicode/utf8.first", "unicode/utf8.acceptRanges", "vellum/code.ends"], apart := false, laid := [("unicode/utf8.acceptRanges", laid_unicode_utf8_acceptRanges), ("vellum/code.encodings", laid_vellum_code_encodings), ("vellum/code.sequences", laid_vellum_code_sequences), ("vellum/code.halves", laid_vellum_code_halves), ("vellum/code.ends", laid_vellum_code_ends), ("unicode/utf8.first", laid_unicode_utf8_first)], narrowed := true }
def RecodedUptoSaid : Prop := recodedUptoRow.holds Tryz.pinned (OpenSpec.upto recodedSpec)

end Rows
end Go.Proofs.YtoejbngihecafabGreatDoor
