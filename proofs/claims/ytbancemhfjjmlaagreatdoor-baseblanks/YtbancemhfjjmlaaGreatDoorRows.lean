/-
  NARROWER THAN 'FOR EVERY INPUT', by the rows' own cells (each row's printed sentence says how): BaseFirst: laid · BaseBlanks: laid · BaseFrames: laid · BaseScopes: laid · BasePrinted: laid · BaseLoads: laid.
  DERIVED. THE GIVEN ROWS OF THIS SEAT. 6 by the template 'for every input the law returns true; each argument reads behind the call as it read before'; 0 by the template 'total and deterministic' (their statements: YtbancemhfjjmlaaGreatDoorTotals.lean).
  GIVEN WITH THE SEED: the statements are not yours to turn. If you find one false, say at which input.
  Laid BY PROGRAM, IN A SANDBOX (cutbox-rows.mjs): the forced cells as the released guide's own fill.sh prints them over the translation 07a95d2ce5b82036… (all of the seat's roots in one cut). By AI agents, Wed Nov 11 2026. No macro, syntax, notation, axiom, sorry.
-/
import Derived.Test.YtbancemhfjjmlaaGreatDoorChecked
import GoSem.Claim
import GoSem.ClaimJoined
import GoSem.ClaimMapViews
import Derived.JoinedTies
import Derived.KernelRfl
namespace Go.Proofs.YtbancemhfjjmlaaGreatDoor
/- THE CELL 'sum', in the pinned program and in every row, IS THE sha256 OF THE DUMP (.gsa) THAT YtbancemhfjjmlaaGreatDoorProg.lean LOADS. Nothing in Lean hashes anything: it is a label: what it is worth is what the hold of that sum in a sandbox is worth. -/
noncomputable def Tryz.pinned : Pinned := { name := "ytbancemhfjjmlaagreatdoor", sum := "07a95d2ce5b8203622a07e554f6aa35d90b9348dc671785da21064aa97ee57cb", checked := Tryz.checked }
namespace Rows
def none {H : Type} : Left H := { results := [], args := [] }

/- WHAT THE LISTED PACKAGE-LEVEL VARIABLES READ AS WHEN THE CALL BEGINS. Each datum BY PROGRAM (the guide's laid-datum.mjs) off the statement by which the dump's own 'gosem.cut.vars' lays the variable. In a bare row this is a premise. The card (YtbancemhfjjmlaaGreatDoorCards.lean) ties it to the program's text. -/
def laid_lemma_scan_kinds {H : Type} : DataW H := .agg [.lit (.int .u8 0), .lit (.int .u8 0), .lit (.int .u8 0), .lit (.int .u8 0), .lit (.int .u8 0), .lit (.int .u8 0), .lit (.int .u8 0), .lit (.int .u8 0), .lit (.int .u8 0), .lit (.int .u8 1), .lit (.int .u8 1), .lit (.int .u8 0), .lit (.int .u8 1), .lit (.int .u8 1), .lit (.int .u8 0), .lit (.int .u8 0), .lit (.int .u8 0), .lit (.int .u8 0), .lit (.int .u8 0), .lit (.int .u8 0), .lit (.int .u8 0), .lit (.int .u8 0), .lit (.int .u8 0), .lit (.int .u8 0), .lit (.int .u8 0), .lit (.int .u8 0), .lit (.int .u8 0), .lit (.int .u8 0), .lit (.int .u8 0), .lit (.int .u8 0), .lit (.int .u8 0), .lit (.int .u8 0), .lit (.int .u8 1), .lit (.int .u8 3), .lit (.int .u8 3), .lit (.int .u8 3), .lit (.int .u8 2), .lit (.int .u8 3), .lit (.int .u8 3), .lit (.int .u8 3), .lit (.int .u8 3), .lit (.int .u8 3), .lit (.int .u8 3), .lit (.int .u8 3), .lit (.int .u8 3), .lit (.int .u8 4), .lit (.int .u8 4), .lit (.int .u8 3), .lit (.int .u8 4), .lit (.int .u8 4), .lit (.int .u8 4), .lit (.int .u8 4), .lit (.int .u8 4), .lit (.int .u8 4), .lit (.int .u8 4), .lit (.int .u8 4), .lit (.int .u8 4), .lit (.int .u8 4), .lit (.int .u8 3), .lit (.int .u8 3), .lit (.int .u8 3), .lit (.int .u8 3), .lit (.int .u8 3), .lit (.int .u8 3), .lit (.int .u8 3), .lit (.int .u8 4), .lit (.int .u8 4), .lit (.int .u8 4), .lit (.int .u8 4), .lit (.int .u8 4), .lit (.int .u8 4), .lit (.int .u8 4), .lit (.int .u8 4), .lit (.int .u8 4), .lit (.int .u8 4), .lit (.int .u8 4), .lit (.int .u8 4), .lit (.int .u8 4), .lit (.int .u8 4), .lit (.int .u8 4), .lit (.int .u8 4), .lit (.int .u8 4), .lit (.int .u8 4), .lit (.int .u8 4), .lit (.int .u8 4), .lit (.int .u8 4), .lit (.int .u8 4), .lit (.int .u8 4), .lit (.int .u8 4), .lit (.int .u8 4), .lit (.int .u8 4), .lit (.int .u8 3), .lit (.int .u8 3), .lit (.int .u8 3), .lit (.int .u8 3), .lit (.int .u8 4), .lit (.int .u8 3), .lit (.int .u8 4), .lit (.int .u8 4), .lit (.int .u8 4), .lit (.int .u8 4), .lit (.int .u8 4), .lit (.int .u8 4), .lit (.int .u8 4), .lit (.int .u8 4), .lit (.int .u8 4), .lit (.int .u8 4), .lit (.int .u8 4), .lit (.int .u8 4), .lit (.int .u8 4), .lit (.int .u8 4), .lit (.int .u8 4), .lit (.int .u8 4), .lit (.int .u8 4), .lit (.int .u8 4), .lit (.int .u8 4), .lit (.int .u8 4), .lit (.int .u8 4), .lit (.int .u8 4), .lit (.int .u8 4), .lit (.int .u8 4), .lit (.int .u8 4), .lit (.int .u8 4), .lit (.int .u8 3), .lit (.int .u8 3), .lit (.int .u8 3), .lit (.int .u8 3), .lit (.int .u8 0)]
def laid_lemma_stmt_shapes {H : Type} : DataW H := .agg [.agg [.lit (.string []), .lit (.bool false), .lit (.int .i64 0), .lit (.int .i64 0)], .agg [.lit (.string [36, 99]), .lit (.bool false), .lit (.int .i64 1), .lit (.int .i64 9223372036854775807)], .agg [.lit (.string [36, 118]), .lit (.bool false), .lit (.int .i64 1), .lit (.int .i64 9223372036854775807)], .agg [.lit (.string [36, 102]), .lit (.bool true), .lit (.int .i64 2), .lit (.int .i64 2)], .agg [.lit (.string [36, 101]), .lit (.bool true), .lit (.int .i64 1), .lit (.int .i64 9223372036854775807)], .agg [.lit (.string [36, 100]), .lit (.bool false), .lit (.int .i64 2), .lit (.int .i64 32)], .agg [.lit (.string [36, 97]), .lit (.bool true), .lit (.int .i64 1), .lit (.int .i64 9223372036854775807)], .agg [.lit (.string [36, 112]), .lit (.bool true), .lit (.int .i64 1), .lit (.int .i64 9223372036854775807)], .agg [.lit (.string [36, 123]), .lit (.bool false), .lit (.int .i64 0), .lit (.int .i64 0)], .agg [.lit (.string [36, 125]), .lit (.bool false), .lit (.int .i64 0), .lit (.int .i64 0)]]

/-- 'lemmalaw08.BaseFirst': WHATEVER THE INPUT: true; the input reads as it did. -/
def baseFirstSpec : ChangeSpec := { name := "baseFirst", fn := fun _ => fun
  | [d1, d2] => { results := [.lit (.bool true)], args := [d1, d2] }
  | _ => none }
def baseFirstRow : OpenClaim := { program := "ytbancemhfjjmlaagreatdoor", sum := "07a95d2ce5b8203622a07e554f6aa35d90b9348dc671785da21064aa97ee57cb", func := "lemma/lemmalaw08.BaseFirst", spec := "baseFirst", inPlace := ["internal/bytealg.IndexByteString", "internal/bytealg.IndexString", "internal/bytealg.CountString", "internal/abi.NoEscape"], unfollowed := true, recurses := true, named := ["lemma/scan.kinds", "internal/bytealg.MaxLen", "lemma/stmt.shapes"], plainKeys := false, apart := false, laid := [("lemma/scan.kinds", laid_lemma_scan_kinds), ("lemma/stmt.shapes", laid_lemma_stmt_shapes)] }
def BaseFirstSaid : Prop := baseFirstRow.holds Tryz.pinned (OpenSpec.ofChange baseFirstSpec)

/-- ITS FALSE NEIGHBOUR: 'it returns false'. Refute it at one input. -/
def baseFirstWrong : ChangeSpec := { name := "baseFirst", fn := fun _ => fun
  | [d1, d2] => { results := [.lit (.bool false)], args := [d1, d2] }
  | _ => none }
def BaseFirstWrongFalsely : Prop := baseFirstRow.holds Tryz.pinned (OpenSpec.ofChange baseFirstWrong)

/-- 'lemmalaw08.BaseBlanks': WHATEVER THE INPUT: true; the input reads as it did. -/
def baseBlanksSpec : ChangeSpec := { name := "baseBlanks", fn := fun _ => fun
  | [d1, d2] => { results := [.lit (.bool true)], args := [d1, d2] }
  | _ => none }
def baseBlanksRow : OpenClaim := { program := "ytbancemhfjjmlaagreatdoor", sum := "07a95d2ce5b8203622a07e554f6aa35d90b9348dc671785da21064aa97ee57cb", func := "lemma/lemmalaw08.BaseBlanks", spec := "baseBlanks", inPlace := ["internal/bytealg.IndexByteString", "internal/bytealg.IndexString", "internal/bytealg.CountString", "internal/abi.NoEscape"], unfollowed := true, recurses := true, named := ["lemma/scan.kinds", "internal/bytealg.MaxLen", "lemma/stmt.shapes"], plainKeys := false, apart := false, laid := [("lemma/scan.kinds", laid_lemma_scan_kinds), ("lemma/stmt.shapes", laid_lemma_stmt_shapes)] }
def BaseBlanksSaid : Prop := baseBlanksRow.holds Tryz.pinned (OpenSpec.ofChange baseBlanksSpec)

/-- ITS FALSE NEIGHBOUR: 'it returns false'. Refute it at one input. -/
def baseBlanksWrong : ChangeSpec := { name := "baseBlanks", fn := fun _ => fun
  | [d1, d2] => { results := [.lit (.bool false)], args := [d1, d2] }
  | _ => none }
def BaseBlanksWrongFalsely : Prop := baseBlanksRow.holds Tryz.pinned (OpenSpec.ofChange baseBlanksWrong)

/-- 'lemmalaw08.BaseFrames': WHATEVER THE INPUT: true; the input reads as it did. -/
def baseFramesSpec : ChangeSpec := { name := "baseFrames", fn := fun _ => fun
  | [d] => { results := [.lit (.bool true)], args := [d] }
  | _ => none }
def baseFramesRow : OpenClaim := { program := "ytbancemhfjjmlaagreatdoor", sum := "07a95d2ce5b8203622a07e554f6aa35d90b9348dc671785da21064aa97ee57cb", func := "lemma/lemmalaw08.BaseFrames", spec := "baseFrames", inPlace := ["internal/bytealg.IndexByteString", "internal/bytealg.IndexString", "internal/bytealg.CountString", "internal/abi.NoEscape"], unfollowed := true, recurses := true, named := ["lemma/scan.kinds", "internal/bytealg.MaxLen", "lemma/stmt.shapes"], plainKeys := false, apart := false, laid := [("lemma/scan.kinds", laid_lemma_scan_kinds), ("lemma/stmt.shapes", laid_lemma_stmt_shapes)] }
def BaseFramesSaid : Prop := baseFramesRow.holds Tryz.pinned (OpenSpec.ofChange baseFramesSpec)

/-- ITS FALSE NEIGHBOUR: 'it returns false'. Refute it at one input. -/
def baseFramesWrong : ChangeSpec := { name := "baseFrames", fn := fun _ => fun
  | [d] => { results := [.lit (.bool false)], args := [d] }
  | _ => none }
def BaseFramesWrongFalsely : Prop := baseFramesRow.holds Tryz.pinned (OpenSpec.ofChange baseFramesWrong)

/-- 'lemmalaw08.BaseScopes': WHATEVER THE INPUT: true; the input reads as it did. -/
def baseScopesSpec : ChangeSpec := { name := "baseScopes", fn := fun _ => fun
  | [d] => { results := [.lit (.bool true)], args := [d] }
  | _ => none }
def baseScopesRow : OpenClaim := { program := "ytbancemhfjjmlaagreatdoor", sum := "07a95d2ce5b8203622a07e554f6aa35d90b9348dc671785da21064aa97ee57cb", func := "lemma/lemmalaw08.BaseScopes", spec := "baseScopes", inPlace := ["internal/bytealg.IndexByteString", "internal/bytealg.IndexString", "internal/bytealg.CountString", "internal/abi.NoEscape"], unfollowed := true, recurses := true, named := ["lemma/scan.kinds", "internal/bytealg.MaxLen", "lemma/stmt.shapes"], plainKeys := false, apart := false, laid := [("lemma/scan.kinds", laid_lemma_scan_kinds), ("lemma/stmt.shapes", laid_lemma_stmt_shapes)] }
def BaseScopesSaid : Prop := baseScopesRow.holds Tryz.pinned (OpenSpec.ofChange baseScopesSpec)

/-- ITS FALSE NEIGHBOUR: 'it returns false'. Refute it at one input. -/
def baseScopesWrong : ChangeSpec := { name := "baseScopes", fn := fun _ => fun
  | [d] => { results := [.lit (.bool false)], args := [d] }
  | _ => none }
def BaseScopesWrongFalsely : Prop := baseScopesRow.holds Tryz.pinned (OpenSpec.ofChange baseScopesWrong)

/-- 'lemmalaw08.BasePrinted': WHATEVER THE INPUT: true; the input reads as it did. -/
def basePrintedSpec : ChangeSpec := { name := "basePrinted", fn := fun _ => fun
  | [d] => { results := [.lit (.bool true)], args := [d] }
  | _ => none }
def basePrintedRow : OpenClaim := { program := "ytbancemhfjjmlaagreatdoor", sum := "07a95d2ce5b8203622a07e554f6aa35d90b9348dc671785da21064aa97ee57cb", func := "lemma/lemmalaw08.BasePrinted", spec := "basePrinted", inPlace := ["internal/bytealg.IndexByteString", "internal/bytealg.IndexString", "internal/bytealg.CountString", "internal/abi.NoEscape"], unfollowed := true, recurses := true, named := ["lemma/scan.kinds", "internal/bytealg.MaxLen", "lemma/stmt.shapes"], plainKeys := false, apart := false, laid := [("lemma/scan.kinds", laid_lemma_scan_kinds), ("lemma/stmt.shapes", laid_lemma_stmt_shapes)] }
def BasePrintedSaid : Prop := basePrintedRow.holds Tryz.pinned (OpenSpec.ofChange basePrintedSpec)

/-- ITS FALSE NEIGHBOUR: 'it returns false'. Refute it at one input. -/
def basePrintedWrong : ChangeSpec := { name := "basePrinted", fn := fun _ => fun
  | [d] => { results := [.lit (.bool false)], args := [d] }
  | _ => none }
def BasePrintedWrongFalsely : Prop := basePrintedRow.holds Tryz.pinned (OpenSpec.ofChange basePrintedWrong)

/-- 'lemmalaw08.BaseLoads': WHATEVER THE INPUT: true; the input reads as it did. -/
def baseLoadsSpec : ChangeSpec := { name := "baseLoads", fn := fun _ => fun
  | [d1, d2, d3] => { results := [.lit (.bool true)], args := [d1, d2, d3] }
  | _ => none }
def baseLoadsRow : OpenClaim := { program := "ytbancemhfjjmlaagreatdoor", sum := "07a95d2ce5b8203622a07e554f6aa35d90b9348dc671785da21064aa97ee57cb", func := "lemma/lemmalaw08.BaseLoads", spec := "baseLoads", inPlace := ["internal/bytealg.IndexByteString", "internal/bytealg.IndexString", "internal/bytealg.CountString", "internal/abi.NoEscape"], unfollowed := true, recurses := true, named := ["lemma/scan.kinds", "internal/bytealg.MaxLen", "lemma/stmt.shapes"], plainKeys := false, apart := false, laid := [("lemma/scan.kinds", laid_lemma_scan_kinds), ("lemma/stmt.shapes", laid_lemma_stmt_shapes)] }
def BaseLoadsSaid : Prop := baseLoadsRow.holds Tryz.pinned (OpenSpec.ofChange baseLoadsSpec)

/-- ITS FALSE NEIGHBOUR: 'it returns false'. Refute it at one input. -/
def baseLoadsWrong : ChangeSpec := { name := "baseLoads", fn := fun _ => fun
  | [d1, d2, d3] => { results := [.lit (.bool false)], args := [d1, d2, d3] }
  | _ => none }
def BaseLoadsWrongFalsely : Prop := baseLoadsRow.holds Tryz.pinned (OpenSpec.ofChange baseLoadsWrong)

/- THE SECOND FORM. 'bulk': how many values and letters a reading holds, each counted each time it is reached (what is shared counts as often as it is met; a slice's spare places count too). A statement '..UptoSaid' is the law's where the arguments, and the package variables that the reading takes, are together of bulk at most 1048576: NARROWER than '..Said'. Prove '..Said' where nothing that the law and all that it calls make is longer than what came in: it says more and counts as full. Else prove '..UptoSaid'. A law counts once. -/
mutual
def uptoBulk {H : Type} : DataW H → Nat
  | .lit (.string bytes) => bytes.length + 1
  | .lit _ => 1
  | .nil => 1
  | .ptr d => uptoBulk d + 1
  | .slice elems spare => uptoBulkAll elems + uptoBulkAll spare + 1
  | .agg parts => uptoBulkAll parts + 1
  | .iface _ d => uptoBulk d + 1
  | .map entries => uptoBulkEntries entries + 1
  | .held _ => 1
def uptoBulkAll {H : Type} : List (DataW H) → Nat
  | [] => 0
  | d :: r => uptoBulk d + uptoBulkAll r
def uptoBulkEntries {H : Type} : List (Lit × DataW H) → Nat
  | [] => 0
  | x :: r => uptoBulkEntry x + uptoBulkEntries r
def uptoBulkEntry {H : Type} : Lit × DataW H → Nat
  | (.string bytes, d) => bytes.length + uptoBulk d + 1
  | (_, d) => uptoBulk d + 1
 end
def uptoSmall : (H : Type) → List (DataW H) → Bool := fun _ ds => decide (uptoBulkAll ds ≤ 1048576)
def OpenSpec.upto (s : _root_.Go.ChangeSpec) : _root_.Go.OpenSpec := { _root_.Go.OpenSpec.ofChange s with cond := some uptoSmall }

/-- 'lemmalaw08.BaseFirst', WHERE WHAT IT READS IS OF BULK AT MOST 1048576: true; the input reads as it did. -/
def baseFirstUptoRow : OpenClaim := { program := "ytbancemhfjjmlaagreatdoor", sum := "07a95d2ce5b8203622a07e554f6aa35d90b9348dc671785da21064aa97ee57cb", func := "lemma/lemmalaw08.BaseFirst", spec := "baseFirst", inPlace := ["internal/bytealg.IndexByteString", "internal/bytealg.IndexString", "internal/bytealg.CountString", "internal/abi.NoEscape"], unfollowed := true, recurses := true, named := ["lemma/scan.kinds", "internal/bytealg.MaxLen", "lemma/stmt.shapes"], plainKeys := false, apart := false, laid := [("lemma/scan.kinds", laid_lemma_scan_kinds), ("lemma/stmt.shapes", laid_lemma_stmt_shapes)], narrowed := true }
def BaseFirstUptoSaid : Prop := baseFirstUptoRow.holds Tryz.pinned (OpenSpec.upto baseFirstSpec)

/-- 'lemmalaw08.BaseBlanks', WHERE WHAT IT READS IS OF BULK AT MOST 1048576: true; the input reads as it did. -/
def baseBlanksUptoRow : OpenClaim := { program := "ytbancemhfjjmlaagreatdoor", sum := "07a95d2ce5b8203622a07e554f6aa35d90b9348dc671785da21064aa97ee57cb", func := "lemma/lemmalaw08.BaseBlanks", spec := "baseBlanks", inPlace := ["internal/bytealg.IndexByteString", "internal/bytealg.IndexString", "internal/bytealg.CountString", "internal/abi.NoEscape"], unfollowed := true, recurses := true, named := ["lemma/scan.kinds", "internal/bytealg.MaxLen", "lemma/stmt.shapes"], plainKeys := false, apart := false, laid := [("lemma/scan.kinds", laid_lemma_scan_kinds), ("lemma/stmt.shapes", laid_lemma_stmt_shapes)], narrowed := true }
def BaseBlanksUptoSaid : Prop := baseBlanksUptoRow.holds Tryz.pinned (OpenSpec.upto baseBlanksSpec)

/-- 'lemmalaw08.BaseFrames', WHERE WHAT IT READS IS OF BULK AT MOST 1048576: true; the input reads as it did. -/
def baseFramesUptoRow : OpenClaim := { program := "ytbancemhfjjmlaagreatdoor", sum := "07a95d2ce5b8203622a07e554f6aa35d90b9348dc671785da21064aa97ee57cb", func := "lemma/lemmalaw08.BaseFrames", spec := "baseFrames", inPlace := ["internal/bytealg.IndexByteString", "internal/bytealg.IndexString", "internal/bytealg.CountString", "internal/abi.NoEscape"], unfollowed := true, recurses := true, named := ["lemma/scan.kinds", "internal/bytealg.MaxLen", "lemma/stmt.shapes"], plainKeys := false, apart := false, laid := [("lemma/scan.kinds", laid_lemma_scan_kinds), ("lemma/stmt.shapes", laid_lemma_stmt_shapes)], narrowed := true }
def BaseFramesUptoSaid : Prop := baseFramesUptoRow.holds Tryz.pinned (OpenSpec.upto baseFramesSpec)

/-- 'lemmalaw08.BaseScopes', WHERE WHAT IT READS IS OF BULK AT MOST 1048576: true; the input reads as it did. -/
def baseScopesUptoRow : OpenClaim := { program := "ytbancemhfjjmlaagreatdoor", sum := "07a95d2ce5b8203622a07e554f6aa35d90b9348dc671785da21064aa97ee57cb", func := "lemma/lemmalaw08.BaseScopes", spec := "baseScopes", inPlace := ["internal/bytealg.IndexByteString", "internal/bytealg.IndexString", "internal/bytealg.CountString", "internal/abi.NoEscape"], unfollowed := true, recurses := true, named := ["lemma/scan.kinds", "internal/bytealg.MaxLen", "lemma/stmt.shapes"], plainKeys := false, apart := false, laid := [("lemma/scan.kinds", laid_lemma_scan_kinds), ("lemma/stmt.shapes", laid_lemma_stmt_shapes)], narrowed := true }
def BaseScopesUptoSaid : Prop := baseScopesUptoRow.holds Tryz.pinned (OpenSpec.upto baseScopesSpec)

/-- 'lemmalaw08.BasePrinted', WHERE WHAT IT READS IS OF BULK AT MOST 1048576: true; the input reads as it did. -/
def basePrintedUptoRow : OpenClaim := { program := "ytbancemhfjjmlaagreatdoor", sum := "07a95d2ce5b8203622a07e554f6aa35d90b9348dc671785da21064aa97ee57cb", func := "lemma/lemmalaw08.BasePrinted", spec := "basePrinted", inPlace := ["internal/bytealg.IndexByteString", "internal/bytealg.IndexString", "internal/bytealg.CountString", "internal/abi.NoEscape"], unfollowed := true, recurses := true, named := ["lemma/scan.kinds", "internal/bytealg.MaxLen", "lemma/stmt.shapes"], plainKeys := false, apart := false, laid := [("lemma/scan.kinds", laid_lemma_scan_kinds), ("lemma/stmt.shapes", laid_lemma_stmt_shapes)], narrowed := true }
def BasePrintedUptoSaid : Prop := basePrintedUptoRow.holds Tryz.pinned (OpenSpec.upto basePrintedSpec)

/-- 'lemmalaw08.BaseLoads', WHERE WHAT IT READS IS OF BULK AT MOST 1048576: true; the input reads as it did. -/
def baseLoadsUptoRow : OpenClaim := { program := "ytbancemhfjjmlaagreatdoor", sum := "07a95d2ce5b8203622a07e554f6aa35d90b9348dc671785da21064aa97ee57cb", func := "lemma/lemmalaw08.BaseLoads", spec := "baseLoads", inPlace := ["internal/bytealg.IndexByteString", "internal/bytealg.IndexString", "internal/bytealg.CountString", "internal/abi.NoEscape"], unfollowed := true, recurses := true, named := ["lemma/scan.kinds", "internal/bytealg.MaxLen", "lemma/stmt.shapes"], plainKeys := false, apart := false, laid := [("lemma/scan.kinds", laid_lemma_scan_kinds), ("lemma/stmt.shapes", laid_lemma_stmt_shapes)], narrowed := true }
def BaseLoadsUptoSaid : Prop := baseLoadsUptoRow.holds Tryz.pinned (OpenSpec.upto baseLoadsSpec)

end Rows
end Go.Proofs.YtbancemhfjjmlaaGreatDoor
