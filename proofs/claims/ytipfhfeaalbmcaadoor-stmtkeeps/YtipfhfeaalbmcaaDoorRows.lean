/-
  NARROWER THAN 'FOR EVERY INPUT', by the rows' own cells (each row's printed sentence says how): StmtPlaces: laid · StmtPrints: laid · StmtKeeps: laid · StmtParted: laid · StmtFaults: laid · StmtBack: laid.
  DERIVED. THE GIVEN ROWS OF THIS SEAT. 6 by the template 'for every input the law returns true; each argument reads behind the call as it read before'; 0 by the template 'total and deterministic' (their statements: YtipfhfeaalbmcaaDoorTotals.lean).
  GIVEN WITH THE SEED: the statements are not yours to turn. If you find one false, say at which input.
  Laid BY PROGRAM, IN A SANDBOX (cutbox-rows.mjs): the forced cells as the released guide's own fill.sh prints them over the translation 580eca662b3b39a5… (all of the seat's roots in one cut). By AI agents, Wed Nov 11 2026. No macro, syntax, notation, axiom, sorry.
-/
import Derived.Test.YtipfhfeaalbmcaaDoorChecked
import GoSem.Claim
import GoSem.ClaimJoined
import GoSem.ClaimMapViews
import Derived.JoinedTies
import Derived.KernelRfl
namespace Go.Proofs.YtipfhfeaalbmcaaDoor
/- THE CELL 'sum', in the pinned program and in every row, IS THE sha256 OF THE DUMP (.gsa) THAT YtipfhfeaalbmcaaDoorProg.lean LOADS. Nothing in Lean hashes anything: it is a label: what it is worth is what the hold of that sum in a sandbox is worth. -/
noncomputable def Tryd.pinned : Pinned := { name := "ytipfhfeaalbmcaadoor", sum := "580eca662b3b39a53295cdc97c1f0417f3777c26d89e1d44c1ca0e69d2bc43a2", checked := Tryd.checked }
namespace Rows
def none {H : Type} : Left H := { results := [], args := [] }

/- WHAT THE LISTED PACKAGE-LEVEL VARIABLES READ AS WHEN THE CALL BEGINS. Each datum BY PROGRAM (the guide's laid-datum.mjs) off the statement by which the dump's own 'gosem.cut.vars' lays the variable. In a bare row this is a premise. The card (YtipfhfeaalbmcaaDoorCards.lean) ties it to the program's text. -/
def laid_lemma_scan_kinds {H : Type} : DataW H := .agg [.lit (.int .u8 0), .lit (.int .u8 0), .lit (.int .u8 0), .lit (.int .u8 0), .lit (.int .u8 0), .lit (.int .u8 0), .lit (.int .u8 0), .lit (.int .u8 0), .lit (.int .u8 0), .lit (.int .u8 1), .lit (.int .u8 1), .lit (.int .u8 0), .lit (.int .u8 1), .lit (.int .u8 1), .lit (.int .u8 0), .lit (.int .u8 0), .lit (.int .u8 0), .lit (.int .u8 0), .lit (.int .u8 0), .lit (.int .u8 0), .lit (.int .u8 0), .lit (.int .u8 0), .lit (.int .u8 0), .lit (.int .u8 0), .lit (.int .u8 0), .lit (.int .u8 0), .lit (.int .u8 0), .lit (.int .u8 0), .lit (.int .u8 0), .lit (.int .u8 0), .lit (.int .u8 0), .lit (.int .u8 0), .lit (.int .u8 1), .lit (.int .u8 3), .lit (.int .u8 3), .lit (.int .u8 3), .lit (.int .u8 2), .lit (.int .u8 3), .lit (.int .u8 3), .lit (.int .u8 3), .lit (.int .u8 3), .lit (.int .u8 3), .lit (.int .u8 3), .lit (.int .u8 3), .lit (.int .u8 3), .lit (.int .u8 4), .lit (.int .u8 4), .lit (.int .u8 3), .lit (.int .u8 4), .lit (.int .u8 4), .lit (.int .u8 4), .lit (.int .u8 4), .lit (.int .u8 4), .lit (.int .u8 4), .lit (.int .u8 4), .lit (.int .u8 4), .lit (.int .u8 4), .lit (.int .u8 4), .lit (.int .u8 3), .lit (.int .u8 3), .lit (.int .u8 3), .lit (.int .u8 3), .lit (.int .u8 3), .lit (.int .u8 3), .lit (.int .u8 3), .lit (.int .u8 4), .lit (.int .u8 4), .lit (.int .u8 4), .lit (.int .u8 4), .lit (.int .u8 4), .lit (.int .u8 4), .lit (.int .u8 4), .lit (.int .u8 4), .lit (.int .u8 4), .lit (.int .u8 4), .lit (.int .u8 4), .lit (.int .u8 4), .lit (.int .u8 4), .lit (.int .u8 4), .lit (.int .u8 4), .lit (.int .u8 4), .lit (.int .u8 4), .lit (.int .u8 4), .lit (.int .u8 4), .lit (.int .u8 4), .lit (.int .u8 4), .lit (.int .u8 4), .lit (.int .u8 4), .lit (.int .u8 4), .lit (.int .u8 4), .lit (.int .u8 4), .lit (.int .u8 3), .lit (.int .u8 3), .lit (.int .u8 3), .lit (.int .u8 3), .lit (.int .u8 4), .lit (.int .u8 3), .lit (.int .u8 4), .lit (.int .u8 4), .lit (.int .u8 4), .lit (.int .u8 4), .lit (.int .u8 4), .lit (.int .u8 4), .lit (.int .u8 4), .lit (.int .u8 4), .lit (.int .u8 4), .lit (.int .u8 4), .lit (.int .u8 4), .lit (.int .u8 4), .lit (.int .u8 4), .lit (.int .u8 4), .lit (.int .u8 4), .lit (.int .u8 4), .lit (.int .u8 4), .lit (.int .u8 4), .lit (.int .u8 4), .lit (.int .u8 4), .lit (.int .u8 4), .lit (.int .u8 4), .lit (.int .u8 4), .lit (.int .u8 4), .lit (.int .u8 4), .lit (.int .u8 4), .lit (.int .u8 3), .lit (.int .u8 3), .lit (.int .u8 3), .lit (.int .u8 3), .lit (.int .u8 0)]
def laid_lemma_stmt_shapes {H : Type} : DataW H := .agg [.agg [.lit (.string []), .lit (.bool false), .lit (.int .i64 0), .lit (.int .i64 0)], .agg [.lit (.string [36, 99]), .lit (.bool false), .lit (.int .i64 1), .lit (.int .i64 9223372036854775807)], .agg [.lit (.string [36, 118]), .lit (.bool false), .lit (.int .i64 1), .lit (.int .i64 9223372036854775807)], .agg [.lit (.string [36, 102]), .lit (.bool true), .lit (.int .i64 2), .lit (.int .i64 2)], .agg [.lit (.string [36, 101]), .lit (.bool true), .lit (.int .i64 1), .lit (.int .i64 9223372036854775807)], .agg [.lit (.string [36, 100]), .lit (.bool false), .lit (.int .i64 2), .lit (.int .i64 32)], .agg [.lit (.string [36, 97]), .lit (.bool true), .lit (.int .i64 1), .lit (.int .i64 9223372036854775807)], .agg [.lit (.string [36, 112]), .lit (.bool true), .lit (.int .i64 1), .lit (.int .i64 9223372036854775807)], .agg [.lit (.string [36, 123]), .lit (.bool false), .lit (.int .i64 0), .lit (.int .i64 0)], .agg [.lit (.string [36, 125]), .lit (.bool false), .lit (.int .i64 0), .lit (.int .i64 0)]]
def laid_lemma_lemmalaw06_room {H : Type} : DataW H := .agg [.lit (.string [114, 111, 111, 109]), .agg [.lit (.int .i64 0), .lit (.int .i64 0), .lit (.int .i64 0)]]

/-- 'lemmalaw06.StmtPlaces': WHATEVER THE INPUT: true; the input reads as it did. -/
def stmtPlacesSpec : ChangeSpec := { name := "stmtPlaces", fn := fun _ => fun
  | [d] => { results := [.lit (.bool true)], args := [d] }
  | _ => none }
def stmtPlacesRow : OpenClaim := { program := "ytipfhfeaalbmcaadoor", sum := "580eca662b3b39a53295cdc97c1f0417f3777c26d89e1d44c1ca0e69d2bc43a2", func := "lemma/lemmalaw06.StmtPlaces", spec := "stmtPlaces", inPlace := ["internal/bytealg.IndexByteString", "internal/bytealg.IndexString", "internal/bytealg.CountString"], unfollowed := true, recurses := true, named := ["lemma/scan.kinds", "internal/bytealg.MaxLen", "lemma/stmt.shapes"], apart := false, laid := [("lemma/scan.kinds", laid_lemma_scan_kinds), ("lemma/stmt.shapes", laid_lemma_stmt_shapes)] }
def StmtPlacesSaid : Prop := stmtPlacesRow.holds Tryd.pinned (OpenSpec.ofChange stmtPlacesSpec)

/-- ITS FALSE NEIGHBOUR: 'it returns false'. Refute it at one input. -/
def stmtPlacesWrong : ChangeSpec := { name := "stmtPlaces", fn := fun _ => fun
  | [d] => { results := [.lit (.bool false)], args := [d] }
  | _ => none }
def StmtPlacesWrongFalsely : Prop := stmtPlacesRow.holds Tryd.pinned (OpenSpec.ofChange stmtPlacesWrong)

/-- 'lemmalaw06.StmtPrints': WHATEVER THE INPUT: true; the input reads as it did. -/
def stmtPrintsSpec : ChangeSpec := { name := "stmtPrints", fn := fun _ => fun
  | [d] => { results := [.lit (.bool true)], args := [d] }
  | _ => none }
def stmtPrintsRow : OpenClaim := { program := "ytipfhfeaalbmcaadoor", sum := "580eca662b3b39a53295cdc97c1f0417f3777c26d89e1d44c1ca0e69d2bc43a2", func := "lemma/lemmalaw06.StmtPrints", spec := "stmtPrints", inPlace := ["internal/abi.NoEscape"], named := ["lemma/lemmalaw06.room", "lemma/stmt.shapes"], apart := false, laid := [("lemma/stmt.shapes", laid_lemma_stmt_shapes), ("lemma/lemmalaw06.room", laid_lemma_lemmalaw06_room)] }
def StmtPrintsSaid : Prop := stmtPrintsRow.holds Tryd.pinned (OpenSpec.ofChange stmtPrintsSpec)

/-- ITS FALSE NEIGHBOUR: 'it returns false'. Refute it at one input. -/
def stmtPrintsWrong : ChangeSpec := { name := "stmtPrints", fn := fun _ => fun
  | [d] => { results := [.lit (.bool false)], args := [d] }
  | _ => none }
def StmtPrintsWrongFalsely : Prop := stmtPrintsRow.holds Tryd.pinned (OpenSpec.ofChange stmtPrintsWrong)

/-- 'lemmalaw06.StmtKeeps': WHATEVER THE INPUT: true; the input reads as it did. -/
def stmtKeepsSpec : ChangeSpec := { name := "stmtKeeps", fn := fun _ => fun
  | [d1, d2] => { results := [.lit (.bool true)], args := [d1, d2] }
  | _ => none }
def stmtKeepsRow : OpenClaim := { program := "ytipfhfeaalbmcaadoor", sum := "580eca662b3b39a53295cdc97c1f0417f3777c26d89e1d44c1ca0e69d2bc43a2", func := "lemma/lemmalaw06.StmtKeeps", spec := "stmtKeeps", inPlace := ["internal/bytealg.IndexByteString", "internal/bytealg.IndexString", "internal/bytealg.CountString"], unfollowed := true, recurses := true, named := ["lemma/scan.kinds", "internal/bytealg.MaxLen", "lemma/stmt.shapes"], apart := false, laid := [("lemma/scan.kinds", laid_lemma_scan_kinds), ("lemma/stmt.shapes", laid_lemma_stmt_shapes)] }
def StmtKeepsSaid : Prop := stmtKeepsRow.holds Tryd.pinned (OpenSpec.ofChange stmtKeepsSpec)

/-- ITS FALSE NEIGHBOUR: 'it returns false'. Refute it at one input. -/
def stmtKeepsWrong : ChangeSpec := { name := "stmtKeeps", fn := fun _ => fun
  | [d1, d2] => { results := [.lit (.bool false)], args := [d1, d2] }
  | _ => none }
def StmtKeepsWrongFalsely : Prop := stmtKeepsRow.holds Tryd.pinned (OpenSpec.ofChange stmtKeepsWrong)

/-- 'lemmalaw06.StmtParted': WHATEVER THE INPUT: true; the input reads as it did. -/
def stmtPartedSpec : ChangeSpec := { name := "stmtParted", fn := fun _ => fun
  | [d1, d2, d3] => { results := [.lit (.bool true)], args := [d1, d2, d3] }
  | _ => none }
def stmtPartedRow : OpenClaim := { program := "ytipfhfeaalbmcaadoor", sum := "580eca662b3b39a53295cdc97c1f0417f3777c26d89e1d44c1ca0e69d2bc43a2", func := "lemma/lemmalaw06.StmtParted", spec := "stmtParted", inPlace := ["internal/abi.NoEscape", "internal/bytealg.IndexByteString", "internal/bytealg.IndexString", "internal/bytealg.CountString"], unfollowed := true, recurses := true, named := ["lemma/stmt.shapes", "lemma/scan.kinds", "internal/bytealg.MaxLen"], apart := false, laid := [("lemma/scan.kinds", laid_lemma_scan_kinds), ("lemma/stmt.shapes", laid_lemma_stmt_shapes)] }
def StmtPartedSaid : Prop := stmtPartedRow.holds Tryd.pinned (OpenSpec.ofChange stmtPartedSpec)

/-- ITS FALSE NEIGHBOUR: 'it returns false'. Refute it at one input. -/
def stmtPartedWrong : ChangeSpec := { name := "stmtParted", fn := fun _ => fun
  | [d1, d2, d3] => { results := [.lit (.bool false)], args := [d1, d2, d3] }
  | _ => none }
def StmtPartedWrongFalsely : Prop := stmtPartedRow.holds Tryd.pinned (OpenSpec.ofChange stmtPartedWrong)

/-- 'lemmalaw06.StmtFaults': WHATEVER THE INPUT: true; the input reads as it did. -/
def stmtFaultsSpec : ChangeSpec := { name := "stmtFaults", fn := fun _ => fun
  | [d1, d2, d3] => { results := [.lit (.bool true)], args := [d1, d2, d3] }
  | _ => none }
def stmtFaultsRow : OpenClaim := { program := "ytipfhfeaalbmcaadoor", sum := "580eca662b3b39a53295cdc97c1f0417f3777c26d89e1d44c1ca0e69d2bc43a2", func := "lemma/lemmalaw06.StmtFaults", spec := "stmtFaults", inPlace := ["internal/abi.NoEscape", "internal/bytealg.IndexByteString", "internal/bytealg.IndexString", "internal/bytealg.CountString"], unfollowed := true, recurses := true, named := ["lemma/stmt.shapes", "lemma/scan.kinds", "internal/bytealg.MaxLen"], apart := false, laid := [("lemma/scan.kinds", laid_lemma_scan_kinds), ("lemma/stmt.shapes", laid_lemma_stmt_shapes)] }
def StmtFaultsSaid : Prop := stmtFaultsRow.holds Tryd.pinned (OpenSpec.ofChange stmtFaultsSpec)

/-- ITS FALSE NEIGHBOUR: 'it returns false'. Refute it at one input. -/
def stmtFaultsWrong : ChangeSpec := { name := "stmtFaults", fn := fun _ => fun
  | [d1, d2, d3] => { results := [.lit (.bool false)], args := [d1, d2, d3] }
  | _ => none }
def StmtFaultsWrongFalsely : Prop := stmtFaultsRow.holds Tryd.pinned (OpenSpec.ofChange stmtFaultsWrong)

/-- 'lemmalaw06.StmtBack': WHATEVER THE INPUT: true; the input reads as it did. -/
def stmtBackSpec : ChangeSpec := { name := "stmtBack", fn := fun _ => fun
  | [d1, d2] => { results := [.lit (.bool true)], args := [d1, d2] }
  | _ => none }
def stmtBackRow : OpenClaim := { program := "ytipfhfeaalbmcaadoor", sum := "580eca662b3b39a53295cdc97c1f0417f3777c26d89e1d44c1ca0e69d2bc43a2", func := "lemma/lemmalaw06.StmtBack", spec := "stmtBack", inPlace := ["internal/abi.NoEscape", "internal/bytealg.IndexByteString", "internal/bytealg.IndexString", "internal/bytealg.CountString"], unfollowed := true, recurses := true, named := ["lemma/stmt.shapes", "lemma/scan.kinds", "internal/bytealg.MaxLen"], apart := false, laid := [("lemma/scan.kinds", laid_lemma_scan_kinds), ("lemma/stmt.shapes", laid_lemma_stmt_shapes)] }
def StmtBackSaid : Prop := stmtBackRow.holds Tryd.pinned (OpenSpec.ofChange stmtBackSpec)

/-- ITS FALSE NEIGHBOUR: 'it returns false'. Refute it at one input. -/
def stmtBackWrong : ChangeSpec := { name := "stmtBack", fn := fun _ => fun
  | [d1, d2] => { results := [.lit (.bool false)], args := [d1, d2] }
  | _ => none }
def StmtBackWrongFalsely : Prop := stmtBackRow.holds Tryd.pinned (OpenSpec.ofChange stmtBackWrong)

/- THE SECOND FORM. 'bulk': how many values and letters a reading holds, each counted each time it is reached (what is shared counts as often as it is met; a slice's spare places count too). A statement '..UptoSaid' is the law's where the arguments, and the package variables that the reading takes, are together of bulk at most 1048576: NARROWER than '..Said'. Prove '..Said' where nothing that the law and all that it calls make is longer than what came in: it says more and counts as full. Else prove '..UptoSaid'. A law counts once. -/
mutual
def uptoBulk {H : Type} : DataW H → Nat
  | .lit (.string bytes) => bytes.length + 1
  | .lit _ => 1
  | .nil => 1
  | .ptr d => uptoBulk d + 1
  | .slice elems spare => uptoBulkAll elems + uptoBulkAll spare + 1
  | .agg parts => uptoBulkAll parts + 1
  | .iface _ d => uptoBulk d + 1
  | .map entries => uptoBulkEntries entries + 1
  | .held _ => 1
def uptoBulkAll {H : Type} : List (DataW H) → Nat
  | [] => 0
  | d :: r => uptoBulk d + uptoBulkAll r
def uptoBulkEntries {H : Type} : List (Lit × DataW H) → Nat
  | [] => 0
  | x :: r => uptoBulkEntry x + uptoBulkEntries r
def uptoBulkEntry {H : Type} : Lit × DataW H → Nat
  | (.string bytes, d) => bytes.length + uptoBulk d + 1
  | (_, d) => uptoBulk d + 1
 end
def uptoSmall : (H : Type) → List (DataW H) → Bool := fun _ ds => decide (uptoBulkAll ds ≤ 1048576)
def OpenSpec.upto (s : _root_.Go.ChangeSpec) : _root_.Go.OpenSpec := { _root_.Go.OpenSpec.ofChange s with cond := some uptoSmall }

/-- 'lemmalaw06.StmtPlaces', WHERE WHAT IT READS IS OF BULK AT MOST 1048576: true; the input reads as it did. -/
def stmtPlacesUptoRow : OpenClaim := { program := "ytipfhfeaalbmcaadoor", sum := "580eca662b3b39a53295cdc97c1f0417f3777c26d89e1d44c1ca0e69d2bc43a2", func := "lemma/lemmalaw06.StmtPlaces", spec := "stmtPlaces", inPlace := ["internal/bytealg.IndexByteString", "internal/bytealg.IndexString", "internal/bytealg.CountString"], unfollowed := true, recurses := true, named := ["lemma/scan.kinds", "internal/bytealg.MaxLen", "lemma/stmt.shapes"], apart := false, laid := [("lemma/scan.kinds", laid_lemma_scan_kinds), ("lemma/stmt.shapes", laid_lemma_stmt_shapes)], narrowed := true }
def StmtPlacesUptoSaid : Prop := stmtPlacesUptoRow.holds Tryd.pinned (OpenSpec.upto stmtPlacesSpec)

/-- 'lemmalaw06.StmtPrints', WHERE WHAT IT READS IS OF BULK AT MOST 1048576: true; the input reads as it did. -/
def stmtPrintsUptoRow : OpenClaim := { program := "ytipfhfeaalbmcaadoor", sum := "580eca662b3b39a53295cdc97c1f0417f3777c26d89e1d44c1ca0e69d2bc43a2", func := "lemma/lemmalaw06.StmtPrints", spec := "stmtPrints", inPlace := ["internal/abi.NoEscape"], named := ["lemma/lemmalaw06.room", "lemma/stmt.shapes"], apart := false, laid := [("lemma/stmt.shapes", laid_lemma_stmt_shapes), ("lemma/lemmalaw06.room", laid_lemma_lemmalaw06_room)], narrowed := true }
def StmtPrintsUptoSaid : Prop := stmtPrintsUptoRow.holds Tryd.pinned (OpenSpec.upto stmtPrintsSpec)

/-- 'lemmalaw06.StmtKeeps', WHERE WHAT IT READS IS OF BULK AT MOST 1048576: true; the input reads as it did. -/
def stmtKeepsUptoRow : OpenClaim := { program := "ytipfhfeaalbmcaadoor", sum := "580eca662b3b39a53295cdc97c1f0417f3777c26d89e1d44c1ca0e69d2bc43a2", func := "lemma/lemmalaw06.StmtKeeps", spec := "stmtKeeps", inPlace := ["internal/bytealg.IndexByteString", "internal/bytealg.IndexString", "internal/bytealg.CountString"], unfollowed := true, recurses := true, named := ["lemma/scan.kinds", "internal/bytealg.MaxLen", "lemma/stmt.shapes"], apart := false, laid := [("lemma/scan.kinds", laid_lemma_scan_kinds), ("lemma/stmt.shapes", laid_lemma_stmt_shapes)], narrowed := true }
def StmtKeepsUptoSaid : Prop := stmtKeepsUptoRow.holds Tryd.pinned (OpenSpec.upto stmtKeepsSpec)

/-- 'lemmalaw06.StmtParted', WHERE WHAT IT READS IS OF BULK AT MOST 1048576: true; the input reads as it did. -/
def stmtPartedUptoRow : OpenClaim := { program := "ytipfhfeaalbmcaadoor", sum := "580eca662b3b39a53295cdc97c1f0417f3777c26d89e1d44c1ca0e69d2bc43a2", func := "lemma/lemmalaw06.StmtParted", spec := "stmtParted", inPlace := ["internal/abi.NoEscape", "internal/bytealg.IndexByteString", "internal/bytealg.IndexString", "internal/bytealg.CountString"], unfollowed := true, recurses := true, named := ["lemma/stmt.shapes", "lemma/scan.kinds", "internal/bytealg.MaxLen"], apart := false, laid := [("lemma/scan.kinds", laid_lemma_scan_kinds), ("lemma/stmt.shapes", laid_lemma_stmt_shapes)], narrowed := true }
def StmtPartedUptoSaid : Prop := stmtPartedUptoRow.holds Tryd.pinned (OpenSpec.upto stmtPartedSpec)

/-- 'lemmalaw06.StmtFaults', WHERE WHAT IT READS IS OF BULK AT MOST 1048576: true; the input reads as it did. -/
def stmtFaultsUptoRow : OpenClaim := { program := "ytipfhfeaalbmcaadoor", sum := "580eca662b3b39a53295cdc97c1f0417f3777c26d89e1d44c1ca0e69d2bc43a2", func := "lemma/lemmalaw06.StmtFaults", spec := "stmtFaults", inPlace := ["internal/abi.NoEscape", "internal/bytealg.IndexByteString", "internal/bytealg.IndexString", "internal/bytealg.CountString"], unfollowed := true, recurses := true, named := ["lemma/stmt.shapes", "lemma/scan.kinds", "internal/bytealg.MaxLen"], apart := false, laid := [("lemma/scan.kinds", laid_lemma_scan_kinds), ("lemma/stmt.shapes", laid_lemma_stmt_shapes)], narrowed := true }
def StmtFaultsUptoSaid : Prop := stmtFaultsUptoRow.holds Tryd.pinned (OpenSpec.upto stmtFaultsSpec)

/-- 'lemmalaw06.StmtBack', WHERE WHAT IT READS IS OF BULK AT MOST 1048576: true; the input reads as it did. -/
def stmtBackUptoRow : OpenClaim := { program := "ytipfhfeaalbmcaadoor", sum := "580eca662b3b39a53295cdc97c1f0417f3777c26d89e1d44c1ca0e69d2bc43a2", func := "lemma/lemmalaw06.StmtBack", spec := "stmtBack", inPlace := ["internal/abi.NoEscape", "internal/bytealg.IndexByteString", "internal/bytealg.IndexString", "internal/bytealg.CountString"], unfollowed := true, recurses := true, named := ["lemma/stmt.shapes", "lemma/scan.kinds", "internal/bytealg.MaxLen"], apart := false, laid := [("lemma/scan.kinds", laid_lemma_scan_kinds), ("lemma/stmt.shapes", laid_lemma_stmt_shapes)], narrowed := true }
def StmtBackUptoSaid : Prop := stmtBackUptoRow.holds Tryd.pinned (OpenSpec.upto stmtBackSpec)

end Rows
end Go.Proofs.YtipfhfeaalbmcaaDoor
