/-
  NARROWER THAN 'FOR EVERY INPUT', by the rows' own cells (each row's printed sentence says how): SymForever: laid · SymScopes: laid · SymFinds: laid · SymFull: laid · SymMemory: laid · SymLabels: laid.
  DERIVED. THE GIVEN ROWS OF THIS SEAT. 6 by the template 'for every input the law returns true; each argument reads behind the call as it read before'; 0 by the template 'total and deterministic' (their statements: YtdnkgjjboonmnaaDoorTotals.lean).
  GIVEN WITH THE SEED: the statements are not yours to turn. If you find one false, say at which input.
  Laid BY PROGRAM, IN A SANDBOX (cutbox-rows.mjs): the forced cells as the released guide's own fill.sh prints them over the translation 2dfd3f601926c816… (all of the seat's roots in one cut). By AI agents, Wed Nov 11 2026. No macro, syntax, notation, axiom, sorry.
-/
import Derived.Test.YtdnkgjjboonmnaaDoorChecked
import GoSem.Claim
import GoSem.ClaimJoined
import GoSem.ClaimMapViews
import Derived.JoinedTies
import Derived.KernelRfl
namespace Go.Proofs.YtdnkgjjboonmnaaDoor
/- THE CELL 'sum', in the pinned program and in every row, IS THE sha256 OF THE DUMP (.gsa) THAT YtdnkgjjboonmnaaDoorProg.lean LOADS. Nothing in Lean hashes anything: it is a label: what it is worth is what the hold of that sum in a sandbox is worth. -/
noncomputable def Tryd.pinned : Pinned := { name := "ytdnkgjjboonmnaadoor", sum := "2dfd3f601926c81608343cbfe191dfbd5caa76c19677283fea5178035afc6c9f", checked := Tryd.checked }
namespace Rows
def none {H : Type} : Left H := { results := [], args := [] }

/- WHAT THE LISTED PACKAGE-LEVEL VARIABLES READ AS WHEN THE CALL BEGINS. Each datum BY PROGRAM (the guide's laid-datum.mjs) off the statement by which the dump's own 'gosem.cut.vars' lays the variable. In a bare row this is a premise. The card (YtdnkgjjboonmnaaDoorCards.lean) ties it to the program's text. -/
def laid_lemma_scan_kinds {H : Type} : DataW H := .agg [.lit (.int .u8 0), .lit (.int .u8 0), .lit (.int .u8 0), .lit (.int .u8 0), .lit (.int .u8 0), .lit (.int .u8 0), .lit (.int .u8 0), .lit (.int .u8 0), .lit (.int .u8 0), .lit (.int .u8 1), .lit (.int .u8 1), .lit (.int .u8 0), .lit (.int .u8 1), .lit (.int .u8 1), .lit (.int .u8 0), .lit (.int .u8 0), .lit (.int .u8 0), .lit (.int .u8 0), .lit (.int .u8 0), .lit (.int .u8 0), .lit (.int .u8 0), .lit (.int .u8 0), .lit (.int .u8 0), .lit (.int .u8 0), .lit (.int .u8 0), .lit (.int .u8 0), .lit (.int .u8 0), .lit (.int .u8 0), .lit (.int .u8 0), .lit (.int .u8 0), .lit (.int .u8 0), .lit (.int .u8 0), .lit (.int .u8 1), .lit (.int .u8 3), .lit (.int .u8 3), .lit (.int .u8 3), .lit (.int .u8 2), .lit (.int .u8 3), .lit (.int .u8 3), .lit (.int .u8 3), .lit (.int .u8 3), .lit (.int .u8 3), .lit (.int .u8 3), .lit (.int .u8 3), .lit (.int .u8 3), .lit (.int .u8 4), .lit (.int .u8 4), .lit (.int .u8 3), .lit (.int .u8 4), .lit (.int .u8 4), .lit (.int .u8 4), .lit (.int .u8 4), .lit (.int .u8 4), .lit (.int .u8 4), .lit (.int .u8 4), .lit (.int .u8 4), .lit (.int .u8 4), .lit (.int .u8 4), .lit (.int .u8 3), .lit (.int .u8 3), .lit (.int .u8 3), .lit (.int .u8 3), .lit (.int .u8 3), .lit (.int .u8 3), .lit (.int .u8 3), .lit (.int .u8 4), .lit (.int .u8 4), .lit (.int .u8 4), .lit (.int .u8 4), .lit (.int .u8 4), .lit (.int .u8 4), .lit (.int .u8 4), .lit (.int .u8 4), .lit (.int .u8 4), .lit (.int .u8 4), .lit (.int .u8 4), .lit (.int .u8 4), .lit (.int .u8 4), .lit (.int .u8 4), .lit (.int .u8 4), .lit (.int .u8 4), .lit (.int .u8 4), .lit (.int .u8 4), .lit (.int .u8 4), .lit (.int .u8 4), .lit (.int .u8 4), .lit (.int .u8 4), .lit (.int .u8 4), .lit (.int .u8 4), .lit (.int .u8 4), .lit (.int .u8 4), .lit (.int .u8 3), .lit (.int .u8 3), .lit (.int .u8 3), .lit (.int .u8 3), .lit (.int .u8 4), .lit (.int .u8 3), .lit (.int .u8 4), .lit (.int .u8 4), .lit (.int .u8 4), .lit (.int .u8 4), .lit (.int .u8 4), .lit (.int .u8 4), .lit (.int .u8 4), .lit (.int .u8 4), .lit (.int .u8 4), .lit (.int .u8 4), .lit (.int .u8 4), .lit (.int .u8 4), .lit (.int .u8 4), .lit (.int .u8 4), .lit (.int .u8 4), .lit (.int .u8 4), .lit (.int .u8 4), .lit (.int .u8 4), .lit (.int .u8 4), .lit (.int .u8 4), .lit (.int .u8 4), .lit (.int .u8 4), .lit (.int .u8 4), .lit (.int .u8 4), .lit (.int .u8 4), .lit (.int .u8 4), .lit (.int .u8 3), .lit (.int .u8 3), .lit (.int .u8 3), .lit (.int .u8 3), .lit (.int .u8 0)]

/-- 'lemmalaw02.SymForever': WHATEVER THE INPUT: true; the input reads as it did. -/
def symForeverSpec : ChangeSpec := { name := "symForever", fn := fun _ => fun
  | [d] => { results := [.lit (.bool true)], args := [d] }
  | _ => none }
def symForeverRow : OpenClaim := { program := "ytdnkgjjboonmnaadoor", sum := "2dfd3f601926c81608343cbfe191dfbd5caa76c19677283fea5178035afc6c9f", func := "lemma/lemmalaw02.SymForever", spec := "symForever", named := ["lemma/scan.kinds"], apart := false, laid := [("lemma/scan.kinds", laid_lemma_scan_kinds)] }
def SymForeverSaid : Prop := symForeverRow.holds Tryd.pinned (OpenSpec.ofChange symForeverSpec)

/-- ITS FALSE NEIGHBOUR: 'it returns false'. Refute it at one input. -/
def symForeverWrong : ChangeSpec := { name := "symForever", fn := fun _ => fun
  | [d] => { results := [.lit (.bool false)], args := [d] }
  | _ => none }
def SymForeverWrongFalsely : Prop := symForeverRow.holds Tryd.pinned (OpenSpec.ofChange symForeverWrong)

/-- 'lemmalaw02.SymScopes': WHATEVER THE INPUT: true; the input reads as it did. -/
def symScopesSpec : ChangeSpec := { name := "symScopes", fn := fun _ => fun
  | [d1, d2] => { results := [.lit (.bool true)], args := [d1, d2] }
  | _ => none }
def symScopesRow : OpenClaim := { program := "ytdnkgjjboonmnaadoor", sum := "2dfd3f601926c81608343cbfe191dfbd5caa76c19677283fea5178035afc6c9f", func := "lemma/lemmalaw02.SymScopes", spec := "symScopes", named := ["lemma/scan.kinds"], apart := false, laid := [("lemma/scan.kinds", laid_lemma_scan_kinds)] }
def SymScopesSaid : Prop := symScopesRow.holds Tryd.pinned (OpenSpec.ofChange symScopesSpec)

/-- ITS FALSE NEIGHBOUR: 'it returns false'. Refute it at one input. -/
def symScopesWrong : ChangeSpec := { name := "symScopes", fn := fun _ => fun
  | [d1, d2] => { results := [.lit (.bool false)], args := [d1, d2] }
  | _ => none }
def SymScopesWrongFalsely : Prop := symScopesRow.holds Tryd.pinned (OpenSpec.ofChange symScopesWrong)

/-- 'lemmalaw02.SymFinds': WHATEVER THE INPUT: true; the input reads as it did. -/
def symFindsSpec : ChangeSpec := { name := "symFinds", fn := fun _ => fun
  | [d1, d2] => { results := [.lit (.bool true)], args := [d1, d2] }
  | _ => none }
def symFindsRow : OpenClaim := { program := "ytdnkgjjboonmnaadoor", sum := "2dfd3f601926c81608343cbfe191dfbd5caa76c19677283fea5178035afc6c9f", func := "lemma/lemmalaw02.SymFinds", spec := "symFinds", named := ["lemma/scan.kinds"], apart := false, laid := [("lemma/scan.kinds", laid_lemma_scan_kinds)] }
def SymFindsSaid : Prop := symFindsRow.holds Tryd.pinned (OpenSpec.ofChange symFindsSpec)

/-- ITS FALSE NEIGHBOUR: 'it returns false'. Refute it at one input. -/
def symFindsWrong : ChangeSpec := { name := "symFinds", fn := fun _ => fun
  | [d1, d2] => { results := [.lit (.bool false)], args := [d1, d2] }
  | _ => none }
def SymFindsWrongFalsely : Prop := symFindsRow.holds Tryd.pinned (OpenSpec.ofChange symFindsWrong)

/-- 'lemmalaw02.SymFull': WHATEVER THE INPUT: true; the input reads as it did. -/
def symFullSpec : ChangeSpec := { name := "symFull", fn := fun _ => fun
  | [d1, d2] => { results := [.lit (.bool true)], args := [d1, d2] }
  | _ => none }
def symFullRow : OpenClaim := { program := "ytdnkgjjboonmnaadoor", sum := "2dfd3f601926c81608343cbfe191dfbd5caa76c19677283fea5178035afc6c9f", func := "lemma/lemmalaw02.SymFull", spec := "symFull", named := ["lemma/scan.kinds"], apart := false, laid := [("lemma/scan.kinds", laid_lemma_scan_kinds)] }
def SymFullSaid : Prop := symFullRow.holds Tryd.pinned (OpenSpec.ofChange symFullSpec)

/-- ITS FALSE NEIGHBOUR: 'it returns false'. Refute it at one input. -/
def symFullWrong : ChangeSpec := { name := "symFull", fn := fun _ => fun
  | [d1, d2] => { results := [.lit (.bool false)], args := [d1, d2] }
  | _ => none }
def SymFullWrongFalsely : Prop := symFullRow.holds Tryd.pinned (OpenSpec.ofChange symFullWrong)

/-- 'lemmalaw02.SymMemory': WHATEVER THE INPUT: true; the input reads as it did. -/
def symMemorySpec : ChangeSpec := { name := "symMemory", fn := fun _ => fun
  | [d] => { results := [.lit (.bool true)], args := [d] }
  | _ => none }
def symMemoryRow : OpenClaim := { program := "ytdnkgjjboonmnaadoor", sum := "2dfd3f601926c81608343cbfe191dfbd5caa76c19677283fea5178035afc6c9f", func := "lemma/lemmalaw02.SymMemory", spec := "symMemory", named := ["lemma/scan.kinds"], apart := false, laid := [("lemma/scan.kinds", laid_lemma_scan_kinds)] }
def SymMemorySaid : Prop := symMemoryRow.holds Tryd.pinned (OpenSpec.ofChange symMemorySpec)

/-- ITS FALSE NEIGHBOUR: 'it returns false'. Refute it at one input. -/
def symMemoryWrong : ChangeSpec := { name := "symMemory", fn := fun _ => fun
  | [d] => { results := [.lit (.bool false)], args := [d] }
  | _ => none }
def SymMemoryWrongFalsely : Prop := symMemoryRow.holds Tryd.pinned (OpenSpec.ofChange symMemoryWrong)

/-- 'lemmalaw02.SymLabels': WHATEVER THE INPUT: true; the input reads as it did. -/
def symLabelsSpec : ChangeSpec := { name := "symLabels", fn := fun _ => fun
  | [d] => { results := [.lit (.bool true)], args := [d] }
  | _ => none }
def symLabelsRow : OpenClaim := { program := "ytdnkgjjboonmnaadoor", sum := "2dfd3f601926c81608343cbfe191dfbd5caa76c19677283fea5178035afc6c9f", func := "lemma/lemmalaw02.SymLabels", spec := "symLabels", named := ["lemma/scan.kinds"], apart := false, laid := [("lemma/scan.kinds", laid_lemma_scan_kinds)] }
def SymLabelsSaid : Prop := symLabelsRow.holds Tryd.pinned (OpenSpec.ofChange symLabelsSpec)

/-- ITS FALSE NEIGHBOUR: 'it returns false'. Refute it at one input. -/
def symLabelsWrong : ChangeSpec := { name := "symLabels", fn := fun _ => fun
  | [d] => { results := [.lit (.bool false)], args := [d] }
  | _ => none }
def SymLabelsWrongFalsely : Prop := symLabelsRow.holds Tryd.pinned (OpenSpec.ofChange symLabelsWrong)

/- THE SECOND FORM. 'bulk': how many values and letters a reading holds, each counted each time it is reached (what is shared counts as often as it is met; a slice's spare places count too). A statement '..UptoSaid' is the law's where the arguments, and the package variables that the reading takes, are together of bulk at most 1048576: NARROWER than '..Said'. Prove '..Said' where nothing that the law and all that it calls make is longer than what came in: it says more and counts as full. Else prove '..UptoSaid'. A law counts once. -/
mutual
def uptoBulk {H : Type} : DataW H → Nat
  | .lit (.string bytes) => bytes.length + 1
  | .lit _ => 1
  | .nil => 1
  | .ptr d => uptoBulk d + 1
  | .slice elems spare => uptoBulkAll elems + uptoBulkAll spare + 1
  | .agg parts => uptoBulkAll parts + 1
  | .iface _ d => uptoBulk d + 1
  | .map entries => uptoBulkEntries entries + 1
  | .held _ => 1
def uptoBulkAll {H : Type} : List (DataW H) → Nat
  | [] => 0
  | d :: r => uptoBulk d + uptoBulkAll r
def uptoBulkEntries {H : Type} : List (Lit × DataW H) → Nat
  | [] => 0
  | x :: r => uptoBulkEntry x + uptoBulkEntries r
def uptoBulkEntry {H : Type} : Lit × DataW H → Nat
  | (.string bytes, d) => bytes.length + uptoBulk d + 1
  | (_, d) => uptoBulk d + 1
 end
def uptoSmall : (H : Type) → List (DataW H) → Bool := fun _ ds => decide (uptoBulkAll ds ≤ 1048576)
def OpenSpec.upto (s : _root_.Go.ChangeSpec) : _root_.Go.OpenSpec := { _root_.Go.OpenSpec.ofChange s with cond := some uptoSmall }

/-- 'lemmalaw02.SymForever', WHERE WHAT IT READS IS OF BULK AT MOST 1048576: true; the input reads as it did. -/
def symForeverUptoRow : OpenClaim := { program := "ytdnkgjjboonmnaadoor", sum := "2dfd3f601926c81608343cbfe191dfbd5caa76c19677283fea5178035afc6c9f", func := "lemma/lemmalaw02.SymForever", spec := "symForever", named := ["lemma/scan.kinds"], apart := false, laid := [("lemma/scan.kinds", laid_lemma_scan_kinds)], narrowed := true }
def SymForeverUptoSaid : Prop := symForeverUptoRow.holds Tryd.pinned (OpenSpec.upto symForeverSpec)

/-- 'lemmalaw02.SymScopes', WHERE WHAT IT READS IS OF BULK AT MOST 1048576: true; the input reads as it did. -/
def symScopesUptoRow : OpenClaim := { program := "ytdnkgjjboonmnaadoor", sum := "2dfd3f601926c81608343cbfe191dfbd5caa76c19677283fea5178035afc6c9f", func := "lemma/lemmalaw02.SymScopes", spec := "symScopes", named := ["lemma/scan.kinds"], apart := false, laid := [("lemma/scan.kinds", laid_lemma_scan_kinds)], narrowed := true }
def SymScopesUptoSaid : Prop := symScopesUptoRow.holds Tryd.pinned (OpenSpec.upto symScopesSpec)

/-- 'lemmalaw02.SymFinds', WHERE WHAT IT READS IS OF BULK AT MOST 1048576: true; the input reads as it did. -/
def symFindsUptoRow : OpenClaim := { program := "ytdnkgjjboonmnaadoor", sum := "2dfd3f601926c81608343cbfe191dfbd5caa76c19677283fea5178035afc6c9f", func := "lemma/lemmalaw02.SymFinds", spec := "symFinds", named := ["lemma/scan.kinds"], apart := false, laid := [("lemma/scan.kinds", laid_lemma_scan_kinds)], narrowed := true }
def SymFindsUptoSaid : Prop := symFindsUptoRow.holds Tryd.pinned (OpenSpec.upto symFindsSpec)

/-- 'lemmalaw02.SymFull', WHERE WHAT IT READS IS OF BULK AT MOST 1048576: true; the input reads as it did. -/
def symFullUptoRow : OpenClaim := { program := "ytdnkgjjboonmnaadoor", sum := "2dfd3f601926c81608343cbfe191dfbd5caa76c19677283fea5178035afc6c9f", func := "lemma/lemmalaw02.SymFull", spec := "symFull", named := ["lemma/scan.kinds"], apart := false, laid := [("lemma/scan.kinds", laid_lemma_scan_kinds)], narrowed := true }
def SymFullUptoSaid : Prop := symFullUptoRow.holds Tryd.pinned (OpenSpec.upto symFullSpec)

/-- 'lemmalaw02.SymMemory', WHERE WHAT IT READS IS OF BULK AT MOST 1048576: true; the input reads as it did. -/
def symMemoryUptoRow : OpenClaim := { program := "ytdnkgjjboonmnaadoor", sum := "2dfd3f601926c81608343cbfe191dfbd5caa76c19677283fea5178035afc6c9f", func := "lemma/lemmalaw02.SymMemory", spec := "symMemory", named := ["lemma/scan.kinds"], apart := false, laid := [("lemma/scan.kinds", laid_lemma_scan_kinds)], narrowed := true }
def SymMemoryUptoSaid : Prop := symMemoryUptoRow.holds Tryd.pinned (OpenSpec.upto symMemorySpec)

/-- 'lemmalaw02.SymLabels', WHERE WHAT IT READS IS OF BULK AT MOST 1048576: true; the input reads as it did. -/
def symLabelsUptoRow : OpenClaim := { program := "ytdnkgjjboonmnaadoor", sum := "2dfd3f601926c81608343cbfe191dfbd5caa76c19677283fea5178035afc6c9f", func := "lemma/lemmalaw02.SymLabels", spec := "symLabels", named := ["lemma/scan.kinds"], apart := false, laid := [("lemma/scan.kinds", laid_lemma_scan_kinds)], narrowed := true }
def SymLabelsUptoSaid : Prop := symLabelsUptoRow.holds Tryd.pinned (OpenSpec.upto symLabelsSpec)

end Rows
end Go.Proofs.YtdnkgjjboonmnaaDoor
