/-
  NARROWER THAN 'FOR EVERY INPUT', by the rows' own cells (each row's printed sentence says how): Pieces: laid · Edits: laid · Scripts: laid · All: laid · Spliced: laid · Undone: laid · Reread: laid.
  DERIVED. THE GIVEN ROWS OF THIS SEAT. 7 by the template 'for every input the law returns true; each argument reads behind the call as it read before'; 0 by the template 'total and deterministic' (their statements: YtoejbngihecafaaGreatDoorTotals.lean).
  GIVEN WITH THE SEED: the statements are not yours to turn. If you find one false, say at which input.
  Laid BY PROGRAM, IN A SANDBOX (cutbox-rows.mjs): the forced cells as the released guide's own fill.sh prints them over the translation 1bd809a2ae7c7982… (all of the seat's roots in one cut). By AI agents, Wed Nov 11 2026. No macro, syntax, notation, axiom, sorry.
-/
import Derived.Test.YtoejbngihecafaaGreatDoorChecked
import GoSem.PinnedTables
import GoSem.Claim
import GoSem.ClaimJoined
import GoSem.ClaimMapViews
import Derived.JoinedTies
import Derived.KernelRfl
namespace Go.Proofs.YtoejbngihecafaaGreatDoor
/- THE CELL 'sum', in the pinned program and in every row, IS THE sha256 OF THE DUMP (.gsa) THAT YtoejbngihecafaaGreatDoorProg.lean LOADS. Nothing in Lean hashes anything: it is a label: what it is worth is what the hold of that sum in a sandbox is worth. -/
noncomputable def Tryz.pinned : Pinned := { name := "ytoejbngihecafaagreatdoor", sum := "1bd809a2ae7c7982abf99556612ac63da4e33f205f443353d26beb7330da418a", checked := Tryz.checked }
namespace Rows
def none {H : Type} : Left H := { results := [], args := [] }

/- WHAT THE LISTED PACKAGE-LEVEL VARIABLES READ AS WHEN THE CALL BEGINS. Each datum BY PROGRAM (the guide's laid-datum.mjs) off the statement by which the dump's own 'gosem.cut.vars' lays the variable. In a bare row this is a premise. The card (YtoejbngihecafaaGreatDoorCards.lean) ties it to the program's text. -/
def laid_vellum_code_encodings {H : Type} : DataW H := .agg [.agg [.lit (.string [239, 187, 191]), .lit (.int .i32 1114111), .lit (.int .i64 0), .lit (.int .i64 0)], .agg [.lit (.string [255, 254]), .lit (.int .i32 1114111), .lit (.int .i64 0), .lit (.int .i64 1)], .agg [.lit (.string [254, 255]), .lit (.int .i32 1114111), .lit (.int .i64 1), .lit (.int .i64 0)], .agg [.lit (.string []), .lit (.int .i32 255), .lit (.int .i64 0), .lit (.int .i64 0)]]
def laid_vellum_code_sequences {H : Type} : DataW H := .agg [.agg [.lit (.int .u8 127), .lit (.int .i64 1), .lit (.int .u8 127), .lit (.int .u8 0), .lit (.int .u8 0)], .agg [.lit (.int .u8 193), .lit (.int .i64 2), .lit (.int .u8 0), .lit (.int .u8 255), .lit (.int .u8 0)], .agg [.lit (.int .u8 223), .lit (.int .i64 2), .lit (.int .u8 31), .lit (.int .u8 128), .lit (.int .u8 191)], .agg [.lit (.int .u8 224), .lit (.int .i64 3), .lit (.int .u8 15), .lit (.int .u8 160), .lit (.int .u8 191)], .agg [.lit (.int .u8 236), .lit (.int .i64 3), .lit (.int .u8 15), .lit (.int .u8 128), .lit (.int .u8 191)], .agg [.lit (.int .u8 237), .lit (.int .i64 3), .lit (.int .u8 15), .lit (.int .u8 128), .lit (.int .u8 159)], .agg [.lit (.int .u8 239), .lit (.int .i64 3), .lit (.int .u8 15), .lit (.int .u8 128), .lit (.int .u8 191)], .agg [.lit (.int .u8 240), .lit (.int .i64 4), .lit (.int .u8 7), .lit (.int .u8 144), .lit (.int .u8 191)], .agg [.lit (.int .u8 243), .lit (.int .i64 4), .lit (.int .u8 7), .lit (.int .u8 128), .lit (.int .u8 191)], .agg [.lit (.int .u8 244), .lit (.int .i64 4), .lit (.int .u8 7), .lit (.int .u8 128), .lit (.int .u8 143)], .agg [.lit (.int .u8 255), .lit (.int .i64 2), .lit (.int .u8 0), .lit (.int .u8 255), .lit (.int .u8 0)]]
def laid_vellum_code_halves {H : Type} : DataW H := .agg [.agg [.lit (.int .i32 55296), .lit (.int .i32 56319)], .agg [.lit (.int .i32 56320), .lit (.int .i32 57343)]]
def laid_unicode_utf8_acceptRanges {H : Type} : DataW H := .agg [.agg [.lit (.int .u8 128), .lit (.int .u8 191)], .agg [.lit (.int .u8 160), .lit (.int .u8 191)], .agg [.lit (.int .u8 128), .lit (.int .u8 159)], .agg [.lit (.int .u8 144), .lit (.int .u8 191)], .agg [.lit (.int .u8 128), .lit (.int .u8 143)], .agg [.lit (.int .u8 0), .lit (.int .u8 0)], .agg [.lit (.int .u8 0), .lit (.int .u8 0)], .agg [.lit (.int .u8 0), .lit (.int .u8 0)], .agg [.lit (.int .u8 0), .lit (.int .u8 0)], .agg [.lit (.int .u8 0), .lit (.int .u8 0)], .agg [.lit (.int .u8 0), .lit (.int .u8 0)], .agg [.lit (.int .u8 0), .lit (.int .u8 0)], .agg [.lit (.int .u8 0), .lit (.int .u8 0)], .agg [.lit (.int .u8 0), .lit (.int .u8 0)], .agg [.lit (.int .u8 0), .lit (.int .u8 0)], .agg [.lit (.int .u8 0), .lit (.int .u8 0)]]
def laid_vellum_code_ends {H : Type} : DataW H := .agg [.lit (.string [10]), .lit (.string [13, 10]), .lit (.string [13])]
/-- One of Go's own tables, pinned by name: the form's constant. -/
def laid_unicode_utf8_first : DataW Unit := Go.Pinned.utf8First

/-- 'vellumlaw.Pieces': WHATEVER THE INPUT: true; the input reads as it did. -/
def piecesSpec : ChangeSpec := { name := "pieces", fn := fun _ => fun
  | [d1, d2, d3, d4] => { results := [.lit (.bool true)], args := [d1, d2, d3, d4] }
  | _ => none }
def piecesRow : OpenClaim := { program := "ytoejbngihecafaagreatdoor", sum := "1bd809a2ae7c7982abf99556612ac63da4e33f205f443353d26beb7330da418a", func := "vellum/vellumlaw.Pieces", spec := "pieces", inPlace := ["internal/abi.NoEscape", "internal/bytealg.MakeNoZero"], unfollowed := true, recurses := true, named := ["vellum/code.encodings", "vellum/code.sequences", "vellum/code.halves"], apart := false, laid := [("vellum/code.encodings", laid_vellum_code_encodings), ("vellum/code.sequences", laid_vellum_code_sequences), ("vellum/code.halves", laid_vellum_code_halves)] }
def PiecesSaid : Prop := piecesRow.holds Tryz.pinned (OpenSpec.ofChange piecesSpec)

/-- ITS FALSE NEIGHBOUR: 'it returns false'. Refute it at one input. -/
def piecesWrong : ChangeSpec := { name := "pieces", fn := fun _ => fun
  | [d1, d2, d3, d4] => { results := [.lit (.bool false)], args := [d1, d2, d3, d4] }
  | _ => none }
def PiecesWrongFalsely : Prop := piecesRow.holds Tryz.pinned (OpenSpec.ofChange piecesWrong)

/-- 'vellumlaw.Edits': WHATEVER THE INPUT: true; the input reads as it did. -/
def editsSpec : ChangeSpec := { name := "edits", fn := fun _ => fun
  | [d1, d2, d3] => { results := [.lit (.bool true)], args := [d1, d2, d3] }
  | _ => none }
def editsRow : OpenClaim := { program := "ytoejbngihecafaagreatdoor", sum := "1bd809a2ae7c7982abf99556612ac63da4e33f205f443353d26beb7330da418a", func := "vellum/vellumlaw.Edits", spec := "edits", inPlace := ["internal/abi.NoEscape", "internal/bytealg.MakeNoZero"], unfollowed := true, recurses := true, named := ["vellum/code.encodings", "vellum/code.sequences", "vellum/code.halves", "unicode/utf8.first", "unicode/utf8.acceptRanges", "vellum/code.ends"], apart := false, laid := [("unicode/utf8.acceptRanges", laid_unicode_utf8_acceptRanges), ("vellum/code.encodings", laid_vellum_code_encodings), ("vellum/code.sequences", laid_vellum_code_sequences), ("vellum/code.halves", laid_vellum_code_halves), ("vellum/code.ends", laid_vellum_code_ends), ("unicode/utf8.first", laid_unicode_utf8_first)] }
def EditsSaid : Prop := editsRow.holds Tryz.pinned (OpenSpec.ofChange editsSpec)

/-- ITS FALSE NEIGHBOUR: 'it returns false'. Refute it at one input. -/
def editsWrong : ChangeSpec := { name := "edits", fn := fun _ => fun
  | [d1, d2, d3] => { results := [.lit (.bool false)], args := [d1, d2, d3] }
  | _ => none }
def EditsWrongFalsely : Prop := editsRow.holds Tryz.pinned (OpenSpec.ofChange editsWrong)

/-- 'vellumlaw.Scripts': WHATEVER THE INPUT: true; the input reads as it did. -/
def scriptsSpec : ChangeSpec := { name := "scripts", fn := fun _ => fun
  | [d1, d2, d3] => { results := [.lit (.bool true)], args := [d1, d2, d3] }
  | _ => none }
def scriptsRow : OpenClaim := { program := "ytoejbngihecafaagreatdoor", sum := "1bd809a2ae7c7982abf99556612ac63da4e33f205f443353d26beb7330da418a", func := "vellum/vellumlaw.Scripts", spec := "scripts", inPlace := ["internal/abi.NoEscape", "internal/bytealg.MakeNoZero"], unfollowed := true, recurses := true, named := ["vellum/code.encodings", "vellum/code.sequences", "vellum/code.halves", "unicode/utf8.first", "unicode/utf8.acceptRanges", "vellum/code.ends"], apart := false, laid := [("unicode/utf8.acceptRanges", laid_unicode_utf8_acceptRanges), ("vellum/code.encodings", laid_vellum_code_encodings), ("vellum/code.sequences", laid_vellum_code_sequences), ("vellum/code.halves", laid_vellum_code_halves), ("vellum/code.ends", laid_vellum_code_ends), ("unicode/utf8.first", laid_unicode_utf8_first)] }
def ScriptsSaid : Prop := scriptsRow.holds Tryz.pinned (OpenSpec.ofChange scriptsSpec)

/-- ITS FALSE NEIGHBOUR: 'it returns false'. Refute it at one input. -/
def scriptsWrong : ChangeSpec := { name := "scripts", fn := fun _ => fun
  | [d1, d2, d3] => { results := [.lit (.bool false)], args := [d1, d2, d3] }
  | _ => none }
def ScriptsWrongFalsely : Prop := scriptsRow.holds Tryz.pinned (OpenSpec.ofChange scriptsWrong)

/-- 'vellumlaw.All': WHATEVER THE INPUT: true; the input reads as it did. -/
def allSpec : ChangeSpec := { name := "all", fn := fun _ => fun
  | [d] => { results := [.lit (.bool true)], args := [d] }
  | _ => none }
def allRow : OpenClaim := { program := "ytoejbngihecafaagreatdoor", sum := "1bd809a2ae7c7982abf99556612ac63da4e33f205f443353d26beb7330da418a", func := "vellum/vellumlaw.All", spec := "all", inPlace := ["internal/abi.NoEscape", "internal/bytealg.MakeNoZero"], unfollowed := true, recurses := true, named := ["vellum/code.encodings", "vellum/code.sequences", "vellum/code.halves", "unicode/utf8.first", "unicode/utf8.acceptRanges", "vellum/code.ends"], apart := false, laid := [("unicode/utf8.acceptRanges", laid_unicode_utf8_acceptRanges), ("vellum/code.encodings", laid_vellum_code_encodings), ("vellum/code.sequences", laid_vellum_code_sequences), ("vellum/code.halves", laid_vellum_code_halves), ("vellum/code.ends", laid_vellum_code_ends), ("unicode/utf8.first", laid_unicode_utf8_first)] }
def AllSaid : Prop := allRow.holds Tryz.pinned (OpenSpec.ofChange allSpec)

/-- ITS FALSE NEIGHBOUR: 'it returns false'. Refute it at one input. -/
def allWrong : ChangeSpec := { name := "all", fn := fun _ => fun
  | [d] => { results := [.lit (.bool false)], args := [d] }
  | _ => none }
def AllWrongFalsely : Prop := allRow.holds Tryz.pinned (OpenSpec.ofChange allWrong)

/-- 'vellumkeep.Spliced': WHATEVER THE INPUT: true; the input reads as it did. -/
def splicedSpec : ChangeSpec := { name := "spliced", fn := fun _ => fun
  | [d1, d2, d3, d4, d5] => { results := [.lit (.bool true)], args := [d1, d2, d3, d4, d5] }
  | _ => none }
def splicedRow : OpenClaim := { program := "ytoejbngihecafaagreatdoor", sum := "1bd809a2ae7c7982abf99556612ac63da4e33f205f443353d26beb7330da418a", func := "vellum/vellumkeep.Spliced", spec := "spliced", inPlace := ["internal/abi.NoEscape", "internal/bytealg.MakeNoZero"], unfollowed := true, recurses := true, named := ["vellum/code.encodings", "vellum/code.sequences", "vellum/code.halves", "unicode/utf8.first", "unicode/utf8.acceptRanges", "vellum/code.ends"], apart := false, laid := [("unicode/utf8.acceptRanges", laid_unicode_utf8_acceptRanges), ("vellum/code.encodings", laid_vellum_code_encodings), ("vellum/code.sequences", laid_vellum_code_sequences), ("vellum/code.halves", laid_vellum_code_halves), ("vellum/code.ends", laid_vellum_code_ends), ("unicode/utf8.first", laid_unicode_utf8_first)] }
def SplicedSaid : Prop := splicedRow.holds Tryz.pinned (OpenSpec.ofChange splicedSpec)

/-- ITS FALSE NEIGHBOUR: 'it returns false'. Refute it at one input. -/
def splicedWrong : ChangeSpec := { name := "spliced", fn := fun _ => fun
  | [d1, d2, d3, d4, d5] => { results := [.lit (.bool false)], args := [d1, d2, d3, d4, d5] }
  | _ => none }
def SplicedWrongFalsely : Prop := splicedRow.holds Tryz.pinned (OpenSpec.ofChange splicedWrong)

/-- 'vellumkeep.Undone': WHATEVER THE INPUT: true; the input reads as it did. -/
def undoneSpec : ChangeSpec := { name := "undone", fn := fun _ => fun
  | [d1, d2, d3] => { results := [.lit (.bool true)], args := [d1, d2, d3] }
  | _ => none }
def undoneRow : OpenClaim := { program := "ytoejbngihecafaagreatdoor", sum := "1bd809a2ae7c7982abf99556612ac63da4e33f205f443353d26beb7330da418a", func := "vellum/vellumkeep.Undone", spec := "undone", inPlace := ["internal/abi.NoEscape", "internal/bytealg.MakeNoZero"], unfollowed := true, recurses := true, named := ["vellum/code.encodings", "vellum/code.sequences", "vellum/code.halves", "vellum/code.ends", "unicode/utf8.first", "unicode/utf8.acceptRanges"], apart := false, laid := [("unicode/utf8.acceptRanges", laid_unicode_utf8_acceptRanges), ("vellum/code.encodings", laid_vellum_code_encodings), ("vellum/code.sequences", laid_vellum_code_sequences), ("vellum/code.halves", laid_vellum_code_halves), ("vellum/code.ends", laid_vellum_code_ends), ("unicode/utf8.first", laid_unicode_utf8_first)] }
def UndoneSaid : Prop := undoneRow.holds Tryz.pinned (OpenSpec.ofChange undoneSpec)

/-- ITS FALSE NEIGHBOUR: 'it returns false'. Refute it at one input. -/
def undoneWrong : ChangeSpec := { name := "undone", fn := fun _ => fun
  | [d1, d2, d3] => { results := [.lit (.bool false)], args := [d1, d2, d3] }
  | _ => none }
def UndoneWrongFalsely : Prop := undoneRow.holds Tryz.pinned (OpenSpec.ofChange undoneWrong)

/-- 'vellumkeep.Reread': WHATEVER THE INPUT: true; the input reads as it did. -/
def rereadSpec : ChangeSpec := { name := "reread", fn := fun _ => fun
  | [d1, d2, d3] => { results := [.lit (.bool true)], args := [d1, d2, d3] }
  | _ => none }
def rereadRow : OpenClaim := { program := "ytoejbngihecafaagreatdoor", sum := "1bd809a2ae7c7982abf99556612ac63da4e33f205f443353d26beb7330da418a", func := "vellum/vellumkeep.Reread", spec := "reread", inPlace := ["internal/abi.NoEscape", "internal/bytealg.MakeNoZero"], unfollowed := true, recurses := true, named := ["vellum/code.encodings", "vellum/code.sequences", "vellum/code.halves", "vellum/code.ends", "unicode/utf8.first", "unicode/utf8.acceptRanges"], apart := false, laid := [("unicode/utf8.acceptRanges", laid_unicode_utf8_acceptRanges), ("vellum/code.encodings", laid_vellum_code_encodings), ("vellum/code.sequences", laid_vellum_code_sequences), ("vellum/code.halves", laid_vellum_code_halves), ("vellum/code.ends", laid_vellum_code_ends), ("unicode/utf8.first", laid_unicode_utf8_first)] }
def RereadSaid : Prop := rereadRow.holds Tryz.pinned (OpenSpec.ofChange rereadSpec)

/-- ITS FALSE NEIGHBOUR: 'it returns false'. Refute it at one input. -/
def rereadWrong : ChangeSpec := { name := "reread", fn := fun _ => fun
  | [d1, d2, d3] => { results := [.lit (.bool false)], args := [d1, d2, d3] }
  | _ => none }
def RereadWrongFalsely : Prop := rereadRow.holds Tryz.pinned (OpenSpec.ofChange rereadWrong)

/- THE SECOND FORM. 'bulk': how many values and letters a reading holds, each counted each time it is reached (what is shared counts as often as it is met; a slice's spare places count too). A statement '..UptoSaid' is the law's where the arguments, and the package variables that the reading takes, are together of bulk at most 1048576: NARROWER than '..Said'. Prove '..Said' where nothing that the law and all that it calls make is longer than what came in: it says more and counts as full. Else prove '..UptoSaid'. A law counts once. -/
mutual
def uptoBulk {H : Type} : DataW H → Nat
  | .lit (.string bytes) => bytes.length + 1
  | .lit _ => 1
  | .nil => 1
  | .ptr d => uptoBulk d + 1
  | .slice elems spare => uptoBulkAll elems + uptoBulkAll spare + 1
  | .agg parts => uptoBulkAll parts + 1
  | .iface _ d => uptoBulk d + 1
  | .map entries => uptoBulkEntries entries + 1
  | .held _ => 1
def uptoBulkAll {H : Type} : List (DataW H) → Nat
  | [] => 0
  | d :: r => uptoBulk d + uptoBulkAll r
def uptoBulkEntries {H : Type} : List (Lit × DataW H) → Nat
  | [] => 0
  | x :: r => uptoBulkEntry x + uptoBulkEntries r
def uptoBulkEntry {H : Type} : Lit × DataW H → Nat
  | (.string bytes, d) => bytes.length + uptoBulk d + 1
  | (_, d) => uptoBulk d + 1
 end
def uptoSmall : (H : Type) → List (DataW H) → Bool := fun _ ds => decide (uptoBulkAll ds ≤ 1048576)
def OpenSpec.upto (s : _root_.Go.ChangeSpec) : _root_.Go.OpenSpec := { _root_.Go.OpenSpec.ofChange s with cond := some uptoSmall }

/-- 'vellumlaw.Pieces', WHERE WHAT IT READS IS OF BULK AT MOST 1048576: true; the input reads as it did. -/
def piecesUptoRow : OpenClaim := { program := "ytoejbngihecafaagreatdoor", sum := "1bd809a2ae7c7982abf99556612ac63da4e33f205f443353d26beb7330da418a", func := "vellum/vellumlaw.Pieces", spec := "pieces", inPlace := ["internal/abi.NoEscape", "internal/bytealg.MakeNoZero"], unfollowed := true, recurses := true, named := ["vellum/code.encodings", "vellum/code.sequences", "vellum/code.halves"], apart := false, laid := [("vellum/code.encodings", laid_vellum_code_encodings), ("vellum/code.sequences", laid_vellum_code_sequences), ("vellum/code.halves", laid_vellum_code_halves)], narrowed := true }
def PiecesUptoSaid : Prop := piecesUptoRow.holds Tryz.pinned (OpenSpec.upto piecesSpec)

/-- 'vellumlaw.Edits', WHERE WHAT IT READS IS OF BULK AT MOST 1048576: true; the input reads as it did. -/
def editsUptoRow : OpenClaim := { program := "ytoejbngihecafaagreatdoor", sum := "1bd809a2ae7c7982abf99556612ac63da4e33f205f443353d26beb7330da418a", func := "vellum/vellumlaw.Edits", spec := "edits", inPlace := ["internal/abi.NoEscape", "internal/bytealg.MakeNoZero"], unfollowed := true, recurses := true, named := ["vellum/code.encodings", "vellum/code.sequences", "vellum/code.halves", "unicode/utf8.first", "unicode/utf8.acceptRanges", "vellum/code.ends"], apart := false, laid := [("unicode/utf8.acceptRanges", laid_unicode_utf8_acceptRanges), ("vellum/code.encodings", laid_vellum_code_encodings), ("vellum/code.sequences", laid_vellum_code_sequences), ("vellum/code.halves", laid_vellum_code_halves), ("vellum/code.ends", laid_vellum_code_ends), ("unicode/utf8.first", laid_unicode_utf8_first)], narrowed := true }
def EditsUptoSaid : Prop := editsUptoRow.holds Tryz.pinned (OpenSpec.upto editsSpec)

/-- 'vellumlaw.Scripts', WHERE WHAT IT READS IS OF BULK AT MOST 1048576: true; the input reads as it did. -/
def scriptsUptoRow : OpenClaim := { program := "ytoejbngihecafaagreatdoor", sum := "1bd809a2ae7c7982abf99556612ac63da4e33f205f443353d26beb7330da418a", func := "vellum/vellumlaw.Scripts", spec := "scripts", inPlace := ["internal/abi.NoEscape", "internal/bytealg.MakeNoZero"], unfollowed := true, recurses := true, named := ["vellum/code.encodings", "vellum/code.sequences", "vellum/code.halves", "unicode/utf8.first", "unicode/utf8.acceptRanges", "vellum/code.ends"], apart := false, laid := [("unicode/utf8.acceptRanges", laid_unicode_utf8_acceptRanges), ("vellum/code.encodings", laid_vellum_code_encodings), ("vellum/code.sequences", laid_vellum_code_sequences), ("vellum/code.halves", laid_vellum_code_halves), ("vellum/code.ends", laid_vellum_code_ends), ("unicode/utf8.first", laid_unicode_utf8_first)], narrowed := true }
def ScriptsUptoSaid : Prop := scriptsUptoRow.holds Tryz.pinned (OpenSpec.upto scriptsSpec)

/-- 'vellumlaw.All', WHERE WHAT IT READS IS OF BULK AT MOST 1048576: true; the input reads as it did. -/
def allUptoRow : OpenClaim := { program := "ytoejbngihecafaagreatdoor", sum := "1bd809a2ae7c7982abf99556612ac63da4e33f205f443353d26beb7330da418a", func := "vellum/vellumlaw.All", spec := "all", inPlace := ["internal/abi.NoEscape", "internal/bytealg.MakeNoZero"], unfollowed := true, recurses := true, named := ["vellum/code.encodings", "vellum/code.sequences", "vellum/code.halves", "unicode/utf8.first", "unicode/utf8.acceptRanges", "vellum/code.ends"], apart := false, laid := [("unicode/utf8.acceptRanges", laid_unicode_utf8_acceptRanges), ("vellum/code.encodings", laid_vellum_code_encodings), ("vellum/code.sequences", laid_vellum_code_sequences), ("vellum/code.halves", laid_vellum_code_halves), ("vellum/code.ends", laid_vellum_code_ends), ("unicode/utf8.first", laid_unicode_utf8_first)], narrowed := true }
def AllUptoSaid : Prop := allUptoRow.holds Tryz.pinned (OpenSpec.upto allSpec)

/-- 'vellumkeep.Spliced', WHERE WHAT IT READS IS OF BULK AT MOST 1048576: true; the input reads as it did. -/
def splicedUptoRow : OpenClaim := { program := "ytoejbngihecafaagreatdoor", sum := "1bd809a2ae7c7982abf99556612ac63da4e33f205f443353d26beb7330da418a", func := "vellum/vellumkeep.Spliced", spec := "spliced", inPlace := ["internal/abi.NoEscape", "internal/bytealg.MakeNoZero"], unfollowed := true, recurses := true, named := ["vellum/code.encodings", "vellum/code.sequences", "vellum/code.halves", "unicode/utf8.first", "unicode/utf8.acceptRanges", "vellum/code.ends"], apart := false, laid := [("unicode/utf8.acceptRanges", laid_unicode_utf8_acceptRanges), ("vellum/code.encodings", laid_vellum_code_encodings), ("vellum/code.sequences", laid_vellum_code_sequences), ("vellum/code.halves", laid_vellum_code_halves), ("vellum/code.ends", laid_vellum_code_ends), ("unicode/utf8.first", laid_unicode_utf8_first)], narrowed := true }
def SplicedUptoSaid : Prop := splicedUptoRow.holds Tryz.pinned (OpenSpec.upto splicedSpec)

/-- 'vellumkeep.Undone', WHERE WHAT IT READS IS OF BULK AT MOST 1048576: true; the input reads as it did. -/
def undoneUptoRow : OpenClaim := { program := "ytoejbngihecafaagreatdoor", sum := "1bd809a2ae7c7982abf99556612ac63da4e33f205f443353d26beb7330da418a", func := "vellum/vellumkeep.Undone", spec := "undone", inPlace := ["internal/abi.NoEscape", "internal/bytealg.MakeNoZero"], unfollowed := true, recurses := true, named := ["vellum/code.encodings", "vellum/code.sequences", "vellum/code.halves", "vellum/code.ends", "unicode/utf8.first", "unicode/utf8.acceptRanges"], apart := false, laid := [("unicode/utf8.acceptRanges", laid_unicode_utf8_acceptRanges), ("vellum/code.encodings", laid_vellum_code_encodings), ("vellum/code.sequences", laid_vellum_code_sequences), ("vellum/code.halves", laid_vellum_code_halves), ("vellum/code.ends", laid_vellum_code_ends), ("unicode/utf8.first", laid_unicode_utf8_first)], narrowed := true }
def UndoneUptoSaid : Prop := undoneUptoRow.holds Tryz.pinned (OpenSpec.upto undoneSpec)

/-- 'vellumkeep.Reread', WHERE WHAT IT READS IS OF BULK AT MOST 1048576: true; the input reads as it did. -/
def rereadUptoRow : OpenClaim := { program := "ytoejbngihecafaagreatdoor", sum := "1bd809a2ae7c7982abf99556612ac63da4e33f205f443353d26beb7330da418a", func := "vellum/vellumkeep.Reread", spec := "reread", inPlace := ["internal/abi.NoEscape", "internal/bytealg.MakeNoZero"], unfollowed := true, recurses := true, named := ["vellum/code.encodings", "vellum/code.sequences", "vellum/code.halves", "vellum/code.ends", "unicode/utf8.first", "unicode/utf8.acceptRanges"], apart := false, laid := [("unicode/utf8.acceptRanges", laid_unicode_utf8_acceptRanges), ("vellum/code.encodings", laid_vellum_code_encodings), ("vellum/code.sequences", laid_vellum_code_sequences), ("vellum/code.halves", laid_vellum_code_halves), ("vellum/code.ends", laid_vellum_code_ends), ("unicode/utf8.first", laid_unicode_utf8_first)], narrowed := true }
def RereadUptoSaid : Prop := rereadUptoRow.holds Tryz.pinned (OpenSpec.upto rereadSpec)

end Rows
end Go.Proofs.YtoejbngihecafaaGreatDoor
