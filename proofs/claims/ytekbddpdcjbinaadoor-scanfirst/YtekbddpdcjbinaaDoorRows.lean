/-
  NARROWER THAN 'FOR EVERY INPUT', by the rows' own cells (each row's printed sentence says how): ScanLimits: laid · ScanFresh: laid · ScanFirst: laid · ScanTokens: laid · ScanSpread: laid · ScanAsks: laid.
  DERIVED. THE GIVEN ROWS OF THIS SEAT. 6 by the template 'for every input the law returns true; each argument reads behind the call as it read before'; 0 by the template 'total and deterministic' (their statements: YtekbddpdcjbinaaDoorTotals.lean).
  GIVEN WITH THE SEED: the statements are not yours to turn. If you find one false, say at which input.
  Laid BY PROGRAM, IN A SANDBOX (cutbox-rows.mjs): the forced cells as the released guide's own fill.sh prints them over the translation 8dc0aa6edf446aca… (all of the seat's roots in one cut). By AI agents, Wed Nov 11 2026. No macro, syntax, notation, axiom, sorry.
-/
import Derived.Test.YtekbddpdcjbinaaDoorChecked
import GoSem.Claim
import GoSem.ClaimJoined
import GoSem.ClaimMapViews
import Derived.JoinedTies
import Derived.KernelRfl
namespace Go.Proofs.YtekbddpdcjbinaaDoor
/- THE CELL 'sum', in the pinned program and in every row, IS THE sha256 OF THE DUMP (.gsa) THAT YtekbddpdcjbinaaDoorProg.lean LOADS. Nothing in Lean hashes anything: it is a label: what it is worth is what the hold of that sum in a sandbox is worth. -/
noncomputable def Tryd.pinned : Pinned := { name := "ytekbddpdcjbinaadoor", sum := "8dc0aa6edf446aca873ef363ff110cd97159e7d3acf942106f144f1181ddf625", checked := Tryd.checked }
namespace Rows
def none {H : Type} : Left H := { results := [], args := [] }

/- WHAT THE LISTED PACKAGE-LEVEL VARIABLES READ AS WHEN THE CALL BEGINS. Each datum BY PROGRAM (the guide's laid-datum.mjs) off the statement by which the dump's own 'gosem.cut.vars' lays the variable. In a bare row this is a premise. The card (YtekbddpdcjbinaaDoorCards.lean) ties it to the program's text. -/
def laid_lemma_scan_kinds {H : Type} : DataW H := .agg [.lit (.int .u8 0), .lit (.int .u8 0), .lit (.int .u8 0), .lit (.int .u8 0), .lit (.int .u8 0), .lit (.int .u8 0), .lit (.int .u8 0), .lit (.int .u8 0), .lit (.int .u8 0), .lit (.int .u8 1), .lit (.int .u8 1), .lit (.int .u8 0), .lit (.int .u8 1), .lit (.int .u8 1), .lit (.int .u8 0), .lit (.int .u8 0), .lit (.int .u8 0), .lit (.int .u8 0), .lit (.int .u8 0), .lit (.int .u8 0), .lit (.int .u8 0), .lit (.int .u8 0), .lit (.int .u8 0), .lit (.int .u8 0), .lit (.int .u8 0), .lit (.int .u8 0), .lit (.int .u8 0), .lit (.int .u8 0), .lit (.int .u8 0), .lit (.int .u8 0), .lit (.int .u8 0), .lit (.int .u8 0), .lit (.int .u8 1), .lit (.int .u8 3), .lit (.int .u8 3), .lit (.int .u8 3), .lit (.int .u8 2), .lit (.int .u8 3), .lit (.int .u8 3), .lit (.int .u8 3), .lit (.int .u8 3), .lit (.int .u8 3), .lit (.int .u8 3), .lit (.int .u8 3), .lit (.int .u8 3), .lit (.int .u8 4), .lit (.int .u8 4), .lit (.int .u8 3), .lit (.int .u8 4), .lit (.int .u8 4), .lit (.int .u8 4), .lit (.int .u8 4), .lit (.int .u8 4), .lit (.int .u8 4), .lit (.int .u8 4), .lit (.int .u8 4), .lit (.int .u8 4), .lit (.int .u8 4), .lit (.int .u8 3), .lit (.int .u8 3), .lit (.int .u8 3), .lit (.int .u8 3), .lit (.int .u8 3), .lit (.int .u8 3), .lit (.int .u8 3), .lit (.int .u8 4), .lit (.int .u8 4), .lit (.int .u8 4), .lit (.int .u8 4), .lit (.int .u8 4), .lit (.int .u8 4), .lit (.int .u8 4), .lit (.int .u8 4), .lit (.int .u8 4), .lit (.int .u8 4), .lit (.int .u8 4), .lit (.int .u8 4), .lit (.int .u8 4), .lit (.int .u8 4), .lit (.int .u8 4), .lit (.int .u8 4), .lit (.int .u8 4), .lit (.int .u8 4), .lit (.int .u8 4), .lit (.int .u8 4), .lit (.int .u8 4), .lit (.int .u8 4), .lit (.int .u8 4), .lit (.int .u8 4), .lit (.int .u8 4), .lit (.int .u8 4), .lit (.int .u8 3), .lit (.int .u8 3), .lit (.int .u8 3), .lit (.int .u8 3), .lit (.int .u8 4), .lit (.int .u8 3), .lit (.int .u8 4), .lit (.int .u8 4), .lit (.int .u8 4), .lit (.int .u8 4), .lit (.int .u8 4), .lit (.int .u8 4), .lit (.int .u8 4), .lit (.int .u8 4), .lit (.int .u8 4), .lit (.int .u8 4), .lit (.int .u8 4), .lit (.int .u8 4), .lit (.int .u8 4), .lit (.int .u8 4), .lit (.int .u8 4), .lit (.int .u8 4), .lit (.int .u8 4), .lit (.int .u8 4), .lit (.int .u8 4), .lit (.int .u8 4), .lit (.int .u8 4), .lit (.int .u8 4), .lit (.int .u8 4), .lit (.int .u8 4), .lit (.int .u8 4), .lit (.int .u8 4), .lit (.int .u8 3), .lit (.int .u8 3), .lit (.int .u8 3), .lit (.int .u8 3), .lit (.int .u8 0)]

/-- 'lemmalaw01.ScanLimits': WHATEVER THE INPUT: true; the input reads as it did. -/
def scanLimitsSpec : ChangeSpec := { name := "scanLimits", fn := fun _ => fun
  | [d1, d2] => { results := [.lit (.bool true)], args := [d1, d2] }
  | _ => none }
def scanLimitsRow : OpenClaim := { program := "ytekbddpdcjbinaadoor", sum := "8dc0aa6edf446aca873ef363ff110cd97159e7d3acf942106f144f1181ddf625", func := "lemma/lemmalaw01.ScanLimits", spec := "scanLimits", inPlace := ["internal/bytealg.IndexByteString", "internal/bytealg.IndexString"], unfollowed := true, recurses := true, named := ["lemma/scan.kinds", "internal/bytealg.MaxLen"], apart := false, laid := [("lemma/scan.kinds", laid_lemma_scan_kinds)] }
def ScanLimitsSaid : Prop := scanLimitsRow.holds Tryd.pinned (OpenSpec.ofChange scanLimitsSpec)

/-- ITS FALSE NEIGHBOUR: 'it returns false'. Refute it at one input. -/
def scanLimitsWrong : ChangeSpec := { name := "scanLimits", fn := fun _ => fun
  | [d1, d2] => { results := [.lit (.bool false)], args := [d1, d2] }
  | _ => none }
def ScanLimitsWrongFalsely : Prop := scanLimitsRow.holds Tryd.pinned (OpenSpec.ofChange scanLimitsWrong)

/-- 'lemmalaw01.ScanFresh': WHATEVER THE INPUT: true; the input reads as it did. -/
def scanFreshSpec : ChangeSpec := { name := "scanFresh", fn := fun _ => fun
  | [d1, d2] => { results := [.lit (.bool true)], args := [d1, d2] }
  | _ => none }
def scanFreshRow : OpenClaim := { program := "ytekbddpdcjbinaadoor", sum := "8dc0aa6edf446aca873ef363ff110cd97159e7d3acf942106f144f1181ddf625", func := "lemma/lemmalaw01.ScanFresh", spec := "scanFresh", inPlace := ["internal/bytealg.IndexByteString", "internal/bytealg.IndexString"], unfollowed := true, recurses := true, named := ["lemma/scan.kinds", "internal/bytealg.MaxLen"], apart := false, laid := [("lemma/scan.kinds", laid_lemma_scan_kinds)] }
def ScanFreshSaid : Prop := scanFreshRow.holds Tryd.pinned (OpenSpec.ofChange scanFreshSpec)

/-- ITS FALSE NEIGHBOUR: 'it returns false'. Refute it at one input. -/
def scanFreshWrong : ChangeSpec := { name := "scanFresh", fn := fun _ => fun
  | [d1, d2] => { results := [.lit (.bool false)], args := [d1, d2] }
  | _ => none }
def ScanFreshWrongFalsely : Prop := scanFreshRow.holds Tryd.pinned (OpenSpec.ofChange scanFreshWrong)

/-- 'lemmalaw01.ScanFirst': WHATEVER THE INPUT: true; the input reads as it did. -/
def scanFirstSpec : ChangeSpec := { name := "scanFirst", fn := fun _ => fun
  | [d1, d2] => { results := [.lit (.bool true)], args := [d1, d2] }
  | _ => none }
def scanFirstRow : OpenClaim := { program := "ytekbddpdcjbinaadoor", sum := "8dc0aa6edf446aca873ef363ff110cd97159e7d3acf942106f144f1181ddf625", func := "lemma/lemmalaw01.ScanFirst", spec := "scanFirst", inPlace := ["internal/bytealg.IndexByteString", "internal/bytealg.IndexString"], unfollowed := true, recurses := true, named := ["lemma/scan.kinds", "internal/bytealg.MaxLen"], apart := false, laid := [("lemma/scan.kinds", laid_lemma_scan_kinds)] }
def ScanFirstSaid : Prop := scanFirstRow.holds Tryd.pinned (OpenSpec.ofChange scanFirstSpec)

/-- ITS FALSE NEIGHBOUR: 'it returns false'. Refute it at one input. -/
def scanFirstWrong : ChangeSpec := { name := "scanFirst", fn := fun _ => fun
  | [d1, d2] => { results := [.lit (.bool false)], args := [d1, d2] }
  | _ => none }
def ScanFirstWrongFalsely : Prop := scanFirstRow.holds Tryd.pinned (OpenSpec.ofChange scanFirstWrong)

/-- 'lemmalaw01.ScanTokens': WHATEVER THE INPUT: true; the input reads as it did. -/
def scanTokensSpec : ChangeSpec := { name := "scanTokens", fn := fun _ => fun
  | [d] => { results := [.lit (.bool true)], args := [d] }
  | _ => none }
def scanTokensRow : OpenClaim := { program := "ytekbddpdcjbinaadoor", sum := "8dc0aa6edf446aca873ef363ff110cd97159e7d3acf942106f144f1181ddf625", func := "lemma/lemmalaw01.ScanTokens", spec := "scanTokens", inPlace := ["internal/bytealg.IndexByteString", "internal/bytealg.IndexString"], unfollowed := true, recurses := true, named := ["lemma/scan.kinds", "internal/bytealg.MaxLen"], apart := false, laid := [("lemma/scan.kinds", laid_lemma_scan_kinds)] }
def ScanTokensSaid : Prop := scanTokensRow.holds Tryd.pinned (OpenSpec.ofChange scanTokensSpec)

/-- ITS FALSE NEIGHBOUR: 'it returns false'. Refute it at one input. -/
def scanTokensWrong : ChangeSpec := { name := "scanTokens", fn := fun _ => fun
  | [d] => { results := [.lit (.bool false)], args := [d] }
  | _ => none }
def ScanTokensWrongFalsely : Prop := scanTokensRow.holds Tryd.pinned (OpenSpec.ofChange scanTokensWrong)

/-- 'lemmalaw01.ScanSpread': WHATEVER THE INPUT: true; the input reads as it did. -/
def scanSpreadSpec : ChangeSpec := { name := "scanSpread", fn := fun _ => fun
  | [d1, d2] => { results := [.lit (.bool true)], args := [d1, d2] }
  | _ => none }
def scanSpreadRow : OpenClaim := { program := "ytekbddpdcjbinaadoor", sum := "8dc0aa6edf446aca873ef363ff110cd97159e7d3acf942106f144f1181ddf625", func := "lemma/lemmalaw01.ScanSpread", spec := "scanSpread", inPlace := ["internal/bytealg.IndexByteString", "internal/bytealg.IndexString"], unfollowed := true, recurses := true, named := ["lemma/scan.kinds", "internal/bytealg.MaxLen"], apart := false, laid := [("lemma/scan.kinds", laid_lemma_scan_kinds)] }
def ScanSpreadSaid : Prop := scanSpreadRow.holds Tryd.pinned (OpenSpec.ofChange scanSpreadSpec)

/-- ITS FALSE NEIGHBOUR: 'it returns false'. Refute it at one input. -/
def scanSpreadWrong : ChangeSpec := { name := "scanSpread", fn := fun _ => fun
  | [d1, d2] => { results := [.lit (.bool false)], args := [d1, d2] }
  | _ => none }
def ScanSpreadWrongFalsely : Prop := scanSpreadRow.holds Tryd.pinned (OpenSpec.ofChange scanSpreadWrong)

/-- 'lemmalaw01.ScanAsks': WHATEVER THE INPUT: true; the input reads as it did. -/
def scanAsksSpec : ChangeSpec := { name := "scanAsks", fn := fun _ => fun
  | [d1, d2] => { results := [.lit (.bool true)], args := [d1, d2] }
  | _ => none }
def scanAsksRow : OpenClaim := { program := "ytekbddpdcjbinaadoor", sum := "8dc0aa6edf446aca873ef363ff110cd97159e7d3acf942106f144f1181ddf625", func := "lemma/lemmalaw01.ScanAsks", spec := "scanAsks", inPlace := ["internal/bytealg.CountString", "internal/bytealg.IndexByteString", "internal/bytealg.IndexString"], named := ["lemma/scan.kinds", "internal/bytealg.MaxLen"], apart := false, laid := [("lemma/scan.kinds", laid_lemma_scan_kinds)] }
def ScanAsksSaid : Prop := scanAsksRow.holds Tryd.pinned (OpenSpec.ofChange scanAsksSpec)

/-- ITS FALSE NEIGHBOUR: 'it returns false'. Refute it at one input. -/
def scanAsksWrong : ChangeSpec := { name := "scanAsks", fn := fun _ => fun
  | [d1, d2] => { results := [.lit (.bool false)], args := [d1, d2] }
  | _ => none }
def ScanAsksWrongFalsely : Prop := scanAsksRow.holds Tryd.pinned (OpenSpec.ofChange scanAsksWrong)

/- THE SECOND FORM. 'bulk': how many values and letters a reading holds, each counted each time it is reached (what is shared counts as often as it is met; a slice's spare places count too). A statement '..UptoSaid' is the law's where the arguments, and the package variables that the reading takes, are together of bulk at most 1048576: NARROWER than '..Said'. Prove '..Said' where nothing that the law and all that it calls make is longer than what came in: it says more and counts as full. Else prove '..UptoSaid'. A law counts once. -/
mutual
def uptoBulk {H : Type} : DataW H → Nat
  | .lit (.string bytes) => bytes.length + 1
  | .lit _ => 1
  | .nil => 1
  | .ptr d => uptoBulk d + 1
  | .slice elems spare => uptoBulkAll elems + uptoBulkAll spare + 1
  | .agg parts => uptoBulkAll parts + 1
  | .iface _ d => uptoBulk d + 1
  | .map entries => uptoBulkEntries entries + 1
  | .held _ => 1
def uptoBulkAll {H : Type} : List (DataW H) → Nat
  | [] => 0
  | d :: r => uptoBulk d + uptoBulkAll r
def uptoBulkEntries {H : Type} : List (Lit × DataW H) → Nat
  | [] => 0
  | x :: r => uptoBulkEntry x + uptoBulkEntries r
def uptoBulkEntry {H : Type} : Lit × DataW H → Nat
  | (.string bytes, d) => bytes.length + uptoBulk d + 1
  | (_, d) => uptoBulk d + 1
 end
def uptoSmall : (H : Type) → List (DataW H) → Bool := fun _ ds => decide (uptoBulkAll ds ≤ 1048576)
def OpenSpec.upto (s : _root_.Go.ChangeSpec) : _root_.Go.OpenSpec := { _root_.Go.OpenSpec.ofChange s with cond := some uptoSmall }

/-- 'lemmalaw01.ScanLimits', WHERE WHAT IT READS IS OF BULK AT MOST 1048576: true; the input reads as it did. -/
def scanLimitsUptoRow : OpenClaim := { program := "ytekbddpdcjbinaadoor", sum := "8dc0aa6edf446aca873ef363ff110cd97159e7d3acf942106f144f1181ddf625", func := "lemma/lemmalaw01.ScanLimits", spec := "scanLimits", inPlace := ["internal/bytealg.IndexByteString", "internal/bytealg.IndexString"], unfollowed := true, recurses := true, named := ["lemma/scan.kinds", "internal/bytealg.MaxLen"], apart := false, laid := [("lemma/scan.kinds", laid_lemma_scan_kinds)], narrowed := true }
def ScanLimitsUptoSaid : Prop := scanLimitsUptoRow.holds Tryd.pinned (OpenSpec.upto scanLimitsSpec)

/-- 'lemmalaw01.ScanFresh', WHERE WHAT IT READS IS OF BULK AT MOST 1048576: true; the input reads as it did. -/
def scanFreshUptoRow : OpenClaim := { program := "ytekbddpdcjbinaadoor", sum := "8dc0aa6edf446aca873ef363ff110cd97159e7d3acf942106f144f1181ddf625", func := "lemma/lemmalaw01.ScanFresh", spec := "scanFresh", inPlace := ["internal/bytealg.IndexByteString", "internal/bytealg.IndexString"], unfollowed := true, recurses := true, named := ["lemma/scan.kinds", "internal/bytealg.MaxLen"], apart := false, laid := [("lemma/scan.kinds", laid_lemma_scan_kinds)], narrowed := true }
def ScanFreshUptoSaid : Prop := scanFreshUptoRow.holds Tryd.pinned (OpenSpec.upto scanFreshSpec)

/-- 'lemmalaw01.ScanFirst', WHERE WHAT IT READS IS OF BULK AT MOST 1048576: true; the input reads as it did. -/
def scanFirstUptoRow : OpenClaim := { program := "ytekbddpdcjbinaadoor", sum := "8dc0aa6edf446aca873ef363ff110cd97159e7d3acf942106f144f1181ddf625", func := "lemma/lemmalaw01.ScanFirst", spec := "scanFirst", inPlace := ["internal/bytealg.IndexByteString", "internal/bytealg.IndexString"], unfollowed := true, recurses := true, named := ["lemma/scan.kinds", "internal/bytealg.MaxLen"], apart := false, laid := [("lemma/scan.kinds", laid_lemma_scan_kinds)], narrowed := true }
def ScanFirstUptoSaid : Prop := scanFirstUptoRow.holds Tryd.pinned (OpenSpec.upto scanFirstSpec)

/-- 'lemmalaw01.ScanTokens', WHERE WHAT IT READS IS OF BULK AT MOST 1048576: true; the input reads as it did. -/
def scanTokensUptoRow : OpenClaim := { program := "ytekbddpdcjbinaadoor", sum := "8dc0aa6edf446aca873ef363ff110cd97159e7d3acf942106f144f1181ddf625", func := "lemma/lemmalaw01.ScanTokens", spec := "scanTokens", inPlace := ["internal/bytealg.IndexByteString", "internal/bytealg.IndexString"], unfollowed := true, recurses := true, named := ["lemma/scan.kinds", "internal/bytealg.MaxLen"], apart := false, laid := [("lemma/scan.kinds", laid_lemma_scan_kinds)], narrowed := true }
def ScanTokensUptoSaid : Prop := scanTokensUptoRow.holds Tryd.pinned (OpenSpec.upto scanTokensSpec)

/-- 'lemmalaw01.ScanSpread', WHERE WHAT IT READS IS OF BULK AT MOST 1048576: true; the input reads as it did. -/
def scanSpreadUptoRow : OpenClaim := { program := "ytekbddpdcjbinaadoor", sum := "8dc0aa6edf446aca873ef363ff110cd97159e7d3acf942106f144f1181ddf625", func := "lemma/lemmalaw01.ScanSpread", spec := "scanSpread", inPlace := ["internal/bytealg.IndexByteString", "internal/bytealg.IndexString"], unfollowed := true, recurses := true, named := ["lemma/scan.kinds", "internal/bytealg.MaxLen"], apart := false, laid := [("lemma/scan.kinds", laid_lemma_scan_kinds)], narrowed := true }
def ScanSpreadUptoSaid : Prop := scanSpreadUptoRow.holds Tryd.pinned (OpenSpec.upto scanSpreadSpec)

/-- 'lemmalaw01.ScanAsks', WHERE WHAT IT READS IS OF BULK AT MOST 1048576: true; the input reads as it did. -/
def scanAsksUptoRow : OpenClaim := { program := "ytekbddpdcjbinaadoor", sum := "8dc0aa6edf446aca873ef363ff110cd97159e7d3acf942106f144f1181ddf625", func := "lemma/lemmalaw01.ScanAsks", spec := "scanAsks", inPlace := ["internal/bytealg.CountString", "internal/bytealg.IndexByteString", "internal/bytealg.IndexString"], named := ["lemma/scan.kinds", "internal/bytealg.MaxLen"], apart := false, laid := [("lemma/scan.kinds", laid_lemma_scan_kinds)], narrowed := true }
def ScanAsksUptoSaid : Prop := scanAsksUptoRow.holds Tryd.pinned (OpenSpec.upto scanAsksSpec)

end Rows
end Go.Proofs.YtekbddpdcjbinaaDoor
