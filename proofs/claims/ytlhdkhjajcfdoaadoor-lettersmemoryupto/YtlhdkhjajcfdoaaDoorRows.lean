/-
  NARROWER THAN 'FOR EVERY INPUT', by the rows' own cells (each row's printed sentence says how): LettersLong: laid · LettersForms: laid · LettersTexts: laid · LettersBack: laid · LettersMemory: laid · LettersPlays: laid.
  DERIVED. THE GIVEN ROWS OF THIS SEAT. 6 by the template 'for every input the law returns true; each argument reads behind the call as it read before'; 0 by the template 'total and deterministic' (their statements: YtlhdkhjajcfdoaaDoorTotals.lean).
  GIVEN WITH THE SEED: the statements are not yours to turn. If you find one false, say at which input.
  Laid BY PROGRAM, IN A SANDBOX (cutbox-rows.mjs): the forced cells as the released guide's own fill.sh prints them over the translation e8aa5f95e89e09eb… (all of the seat's roots in one cut). By AI agents, Wed Nov 11 2026. No macro, syntax, notation, axiom, sorry.
-/
import Derived.Test.YtlhdkhjajcfdoaaDoorChecked
import GoSem.PinnedTables
import GoSem.Claim
import GoSem.ClaimJoined
import GoSem.ClaimMapViews
import Derived.JoinedTies
import Derived.KernelRfl
namespace Go.Proofs.YtlhdkhjajcfdoaaDoor
/- THE CELL 'sum', in the pinned program and in every row, IS THE sha256 OF THE DUMP (.gsa) THAT YtlhdkhjajcfdoaaDoorProg.lean LOADS. Nothing in Lean hashes anything: it is a label: what it is worth is what the hold of that sum in a sandbox is worth. -/
noncomputable def Tryd.pinned : Pinned := { name := "ytlhdkhjajcfdoaadoor", sum := "e8aa5f95e89e09eb54346d8e2d7f84d6e2dc8866e0df891508d7b9548148cea4", checked := Tryd.checked }
namespace Rows
def none {H : Type} : Left H := { results := [], args := [] }

/- WHAT THE LISTED PACKAGE-LEVEL VARIABLES READ AS WHEN THE CALL BEGINS. Each datum BY PROGRAM (the guide's laid-datum.mjs) off the statement by which the dump's own 'gosem.cut.vars' lays the variable. In a bare row this is a premise. The card (YtlhdkhjajcfdoaaDoorCards.lean) ties it to the program's text. -/
def laid_unicode_utf8_acceptRanges {H : Type} : DataW H := .agg [.agg [.lit (.int .u8 128), .lit (.int .u8 191)], .agg [.lit (.int .u8 160), .lit (.int .u8 191)], .agg [.lit (.int .u8 128), .lit (.int .u8 159)], .agg [.lit (.int .u8 144), .lit (.int .u8 191)], .agg [.lit (.int .u8 128), .lit (.int .u8 143)], .agg [.lit (.int .u8 0), .lit (.int .u8 0)], .agg [.lit (.int .u8 0), .lit (.int .u8 0)], .agg [.lit (.int .u8 0), .lit (.int .u8 0)], .agg [.lit (.int .u8 0), .lit (.int .u8 0)], .agg [.lit (.int .u8 0), .lit (.int .u8 0)], .agg [.lit (.int .u8 0), .lit (.int .u8 0)], .agg [.lit (.int .u8 0), .lit (.int .u8 0)], .agg [.lit (.int .u8 0), .lit (.int .u8 0)], .agg [.lit (.int .u8 0), .lit (.int .u8 0)], .agg [.lit (.int .u8 0), .lit (.int .u8 0)], .agg [.lit (.int .u8 0), .lit (.int .u8 0)]]
/-- One of Go's own tables, pinned by name: the form's constant. -/
def laid_unicode_utf8_first : DataW Unit := Go.Pinned.utf8First

/-- 'lemmalaw09.LettersLong': WHATEVER THE INPUT: true; the input reads as it did. -/
def lettersLongSpec : ChangeSpec := { name := "lettersLong", fn := fun _ => fun
  | [d1, d2, d3] => { results := [.lit (.bool true)], args := [d1, d2, d3] }
  | _ => none }
def lettersLongRow : OpenClaim := { program := "ytlhdkhjajcfdoaadoor", sum := "e8aa5f95e89e09eb54346d8e2d7f84d6e2dc8866e0df891508d7b9548148cea4", func := "lemma/lemmalaw09.LettersLong", spec := "lettersLong", named := ["unicode/utf8.first", "unicode/utf8.acceptRanges"], apart := false, laid := [("unicode/utf8.acceptRanges", laid_unicode_utf8_acceptRanges), ("unicode/utf8.first", laid_unicode_utf8_first)] }
def LettersLongSaid : Prop := lettersLongRow.holds Tryd.pinned (OpenSpec.ofChange lettersLongSpec)

/-- ITS FALSE NEIGHBOUR: 'it returns false'. Refute it at one input. -/
def lettersLongWrong : ChangeSpec := { name := "lettersLong", fn := fun _ => fun
  | [d1, d2, d3] => { results := [.lit (.bool false)], args := [d1, d2, d3] }
  | _ => none }
def LettersLongWrongFalsely : Prop := lettersLongRow.holds Tryd.pinned (OpenSpec.ofChange lettersLongWrong)

/-- 'lemmalaw09.LettersForms': WHATEVER THE INPUT: true; the input reads as it did. -/
def lettersFormsSpec : ChangeSpec := { name := "lettersForms", fn := fun _ => fun
  | [d1, d2] => { results := [.lit (.bool true)], args := [d1, d2] }
  | _ => none }
def lettersFormsRow : OpenClaim := { program := "ytlhdkhjajcfdoaadoor", sum := "e8aa5f95e89e09eb54346d8e2d7f84d6e2dc8866e0df891508d7b9548148cea4", func := "lemma/lemmalaw09.LettersForms", spec := "lettersForms", named := ["unicode/utf8.first", "unicode/utf8.acceptRanges"], apart := false, laid := [("unicode/utf8.acceptRanges", laid_unicode_utf8_acceptRanges), ("unicode/utf8.first", laid_unicode_utf8_first)] }
def LettersFormsSaid : Prop := lettersFormsRow.holds Tryd.pinned (OpenSpec.ofChange lettersFormsSpec)

/-- ITS FALSE NEIGHBOUR: 'it returns false'. Refute it at one input. -/
def lettersFormsWrong : ChangeSpec := { name := "lettersForms", fn := fun _ => fun
  | [d1, d2] => { results := [.lit (.bool false)], args := [d1, d2] }
  | _ => none }
def LettersFormsWrongFalsely : Prop := lettersFormsRow.holds Tryd.pinned (OpenSpec.ofChange lettersFormsWrong)

/-- 'lemmalaw09.LettersTexts': WHATEVER THE INPUT: true; the input reads as it did. -/
def lettersTextsSpec : ChangeSpec := { name := "lettersTexts", fn := fun _ => fun
  | [d1, d2, d3] => { results := [.lit (.bool true)], args := [d1, d2, d3] }
  | _ => none }
def lettersTextsRow : OpenClaim := { program := "ytlhdkhjajcfdoaadoor", sum := "e8aa5f95e89e09eb54346d8e2d7f84d6e2dc8866e0df891508d7b9548148cea4", func := "lemma/lemmalaw09.LettersTexts", spec := "lettersTexts", inPlace := ["internal/abi.NoEscape"], named := ["unicode/utf8.first", "unicode/utf8.acceptRanges"], apart := false, laid := [("unicode/utf8.acceptRanges", laid_unicode_utf8_acceptRanges), ("unicode/utf8.first", laid_unicode_utf8_first)] }
def LettersTextsSaid : Prop := lettersTextsRow.holds Tryd.pinned (OpenSpec.ofChange lettersTextsSpec)

/-- ITS FALSE NEIGHBOUR: 'it returns false'. Refute it at one input. -/
def lettersTextsWrong : ChangeSpec := { name := "lettersTexts", fn := fun _ => fun
  | [d1, d2, d3] => { results := [.lit (.bool false)], args := [d1, d2, d3] }
  | _ => none }
def LettersTextsWrongFalsely : Prop := lettersTextsRow.holds Tryd.pinned (OpenSpec.ofChange lettersTextsWrong)

/-- 'lemmalaw09.LettersBack': WHATEVER THE INPUT: true; the input reads as it did. -/
def lettersBackSpec : ChangeSpec := { name := "lettersBack", fn := fun _ => fun
  | [d1, d2] => { results := [.lit (.bool true)], args := [d1, d2] }
  | _ => none }
def lettersBackRow : OpenClaim := { program := "ytlhdkhjajcfdoaadoor", sum := "e8aa5f95e89e09eb54346d8e2d7f84d6e2dc8866e0df891508d7b9548148cea4", func := "lemma/lemmalaw09.LettersBack", spec := "lettersBack", inPlace := ["internal/abi.NoEscape"], named := ["unicode/utf8.first", "unicode/utf8.acceptRanges"], apart := false, laid := [("unicode/utf8.acceptRanges", laid_unicode_utf8_acceptRanges), ("unicode/utf8.first", laid_unicode_utf8_first)] }
def LettersBackSaid : Prop := lettersBackRow.holds Tryd.pinned (OpenSpec.ofChange lettersBackSpec)

/-- ITS FALSE NEIGHBOUR: 'it returns false'. Refute it at one input. -/
def lettersBackWrong : ChangeSpec := { name := "lettersBack", fn := fun _ => fun
  | [d1, d2] => { results := [.lit (.bool false)], args := [d1, d2] }
  | _ => none }
def LettersBackWrongFalsely : Prop := lettersBackRow.holds Tryd.pinned (OpenSpec.ofChange lettersBackWrong)

/-- 'lemmalaw09.LettersMemory': WHATEVER THE INPUT: true; the input reads as it did. -/
def lettersMemorySpec : ChangeSpec := { name := "lettersMemory", fn := fun _ => fun
  | [d1, d2] => { results := [.lit (.bool true)], args := [d1, d2] }
  | _ => none }
def lettersMemoryRow : OpenClaim := { program := "ytlhdkhjajcfdoaadoor", sum := "e8aa5f95e89e09eb54346d8e2d7f84d6e2dc8866e0df891508d7b9548148cea4", func := "lemma/lemmalaw09.LettersMemory", spec := "lettersMemory", inPlace := ["internal/abi.NoEscape"], named := ["unicode/utf8.first", "unicode/utf8.acceptRanges"], apart := false, laid := [("unicode/utf8.acceptRanges", laid_unicode_utf8_acceptRanges), ("unicode/utf8.first", laid_unicode_utf8_first)] }
def LettersMemorySaid : Prop := lettersMemoryRow.holds Tryd.pinned (OpenSpec.ofChange lettersMemorySpec)

/-- ITS FALSE NEIGHBOUR: 'it returns false'. Refute it at one input. -/
def lettersMemoryWrong : ChangeSpec := { name := "lettersMemory", fn := fun _ => fun
  | [d1, d2] => { results := [.lit (.bool false)], args := [d1, d2] }
  | _ => none }
def LettersMemoryWrongFalsely : Prop := lettersMemoryRow.holds Tryd.pinned (OpenSpec.ofChange lettersMemoryWrong)

/-- 'lemmalaw09.LettersPlays': WHATEVER THE INPUT: true; the input reads as it did. -/
def lettersPlaysSpec : ChangeSpec := { name := "lettersPlays", fn := fun _ => fun
  | [d1, d2, d3] => { results := [.lit (.bool true)], args := [d1, d2, d3] }
  | _ => none }
def lettersPlaysRow : OpenClaim := { program := "ytlhdkhjajcfdoaadoor", sum := "e8aa5f95e89e09eb54346d8e2d7f84d6e2dc8866e0df891508d7b9548148cea4", func := "lemma/lemmalaw09.LettersPlays", spec := "lettersPlays", inPlace := ["internal/abi.NoEscape"], named := ["unicode/utf8.first", "unicode/utf8.acceptRanges"], apart := false, laid := [("unicode/utf8.acceptRanges", laid_unicode_utf8_acceptRanges), ("unicode/utf8.first", laid_unicode_utf8_first)] }
def LettersPlaysSaid : Prop := lettersPlaysRow.holds Tryd.pinned (OpenSpec.ofChange lettersPlaysSpec)

/-- ITS FALSE NEIGHBOUR: 'it returns false'. Refute it at one input. -/
def lettersPlaysWrong : ChangeSpec := { name := "lettersPlays", fn := fun _ => fun
  | [d1, d2, d3] => { results := [.lit (.bool false)], args := [d1, d2, d3] }
  | _ => none }
def LettersPlaysWrongFalsely : Prop := lettersPlaysRow.holds Tryd.pinned (OpenSpec.ofChange lettersPlaysWrong)

/- THE SECOND FORM. 'bulk': how many values and letters a reading holds, each counted each time it is reached (what is shared counts as often as it is met; a slice's spare places count too). A statement '..UptoSaid' is the law's where the arguments, and the package variables that the reading takes, are together of bulk at most 1048576: NARROWER than '..Said'. Prove '..Said' where nothing that the law and all that it calls make is longer than what came in: it says more and counts as full. Else prove '..UptoSaid'. A law counts once. -/
mutual
def uptoBulk {H : Type} : DataW H → Nat
  | .lit (.string bytes) => bytes.length + 1
  | .lit _ => 1
  | .nil => 1
  | .ptr d => uptoBulk d + 1
  | .slice elems spare => uptoBulkAll elems + uptoBulkAll spare + 1
  | .agg parts => uptoBulkAll parts + 1
  | .iface _ d => uptoBulk d + 1
  | .map entries => uptoBulkEntries entries + 1
  | .held _ => 1
def uptoBulkAll {H : Type} : List (DataW H) → Nat
  | [] => 0
  | d :: r => uptoBulk d + uptoBulkAll r
def uptoBulkEntries {H : Type} : List (Lit × DataW H) → Nat
  | [] => 0
  | x :: r => uptoBulkEntry x + uptoBulkEntries r
def uptoBulkEntry {H : Type} : Lit × DataW H → Nat
  | (.string bytes, d) => bytes.length + uptoBulk d + 1
  | (_, d) => uptoBulk d + 1
 end
def uptoSmall : (H : Type) → List (DataW H) → Bool := fun _ ds => decide (uptoBulkAll ds ≤ 1048576)
def OpenSpec.upto (s : _root_.Go.ChangeSpec) : _root_.Go.OpenSpec := { _root_.Go.OpenSpec.ofChange s with cond := some uptoSmall }

/-- 'lemmalaw09.LettersLong', WHERE WHAT IT READS IS OF BULK AT MOST 1048576: true; the input reads as it did. -/
def lettersLongUptoRow : OpenClaim := { program := "ytlhdkhjajcfdoaadoor", sum := "e8aa5f95e89e09eb54346d8e2d7f84d6e2dc8866e0df891508d7b9548148cea4", func := "lemma/lemmalaw09.LettersLong", spec := "lettersLong", named := ["unicode/utf8.first", "unicode/utf8.acceptRanges"], apart := false, laid := [("unicode/utf8.acceptRanges", laid_unicode_utf8_acceptRanges), ("unicode/utf8.first", laid_unicode_utf8_first)], narrowed := true }
def LettersLongUptoSaid : Prop := lettersLongUptoRow.holds Tryd.pinned (OpenSpec.upto lettersLongSpec)

/-- 'lemmalaw09.LettersForms', WHERE WHAT IT READS IS OF BULK AT MOST 1048576: true; the input reads as it did. -/
def lettersFormsUptoRow : OpenClaim := { program := "ytlhdkhjajcfdoaadoor", sum := "e8aa5f95e89e09eb54346d8e2d7f84d6e2dc8866e0df891508d7b9548148cea4", func := "lemma/lemmalaw09.LettersForms", spec := "lettersForms", named := ["unicode/utf8.first", "unicode/utf8.acceptRanges"], apart := false, laid := [("unicode/utf8.acceptRanges", laid_unicode_utf8_acceptRanges), ("unicode/utf8.first", laid_unicode_utf8_first)], narrowed := true }
def LettersFormsUptoSaid : Prop := lettersFormsUptoRow.holds Tryd.pinned (OpenSpec.upto lettersFormsSpec)

/-- 'lemmalaw09.LettersTexts', WHERE WHAT IT READS IS OF BULK AT MOST 1048576: true; the input reads as it did. -/
def lettersTextsUptoRow : OpenClaim := { program := "ytlhdkhjajcfdoaadoor", sum := "e8aa5f95e89e09eb54346d8e2d7f84d6e2dc8866e0df891508d7b9548148cea4", func := "lemma/lemmalaw09.LettersTexts", spec := "lettersTexts", inPlace := ["internal/abi.NoEscape"], named := ["unicode/utf8.first", "unicode/utf8.acceptRanges"], apart := false, laid := [("unicode/utf8.acceptRanges", laid_unicode_utf8_acceptRanges), ("unicode/utf8.first", laid_unicode_utf8_first)], narrowed := true }
def LettersTextsUptoSaid : Prop := lettersTextsUptoRow.holds Tryd.pinned (OpenSpec.upto lettersTextsSpec)

/-- 'lemmalaw09.LettersBack', WHERE WHAT IT READS IS OF BULK AT MOST 1048576: true; the input reads as it did. -/
def lettersBackUptoRow : OpenClaim := { program := "ytlhdkhjajcfdoaadoor", sum := "e8aa5f95e89e09eb54346d8e2d7f84d6e2dc8866e0df891508d7b9548148cea4", func := "lemma/lemmalaw09.LettersBack", spec := "lettersBack", inPlace := ["internal/abi.NoEscape"], named := ["unicode/utf8.first", "unicode/utf8.acceptRanges"], apart := false, laid := [("unicode/utf8.acceptRanges", laid_unicode_utf8_acceptRanges), ("unicode/utf8.first", laid_unicode_utf8_first)], narrowed := true }
def LettersBackUptoSaid : Prop := lettersBackUptoRow.holds Tryd.pinned (OpenSpec.upto lettersBackSpec)

/-- 'lemmalaw09.LettersMemory', WHERE WHAT IT READS IS OF BULK AT MOST 1048576: true; the input reads as it did. -/
def lettersMemoryUptoRow : OpenClaim := { program := "ytlhdkhjajcfdoaadoor", sum := "e8aa5f95e89e09eb54346d8e2d7f84d6e2dc8866e0df891508d7b9548148cea4", func := "lemma/lemmalaw09.LettersMemory", spec := "lettersMemory", inPlace := ["internal/abi.NoEscape"], named := ["unicode/utf8.first", "unicode/utf8.acceptRanges"], apart := false, laid := [("unicode/utf8.acceptRanges", laid_unicode_utf8_acceptRanges), ("unicode/utf8.first", laid_unicode_utf8_first)], narrowed := true }
def LettersMemoryUptoSaid : Prop := lettersMemoryUptoRow.holds Tryd.pinned (OpenSpec.upto lettersMemorySpec)

/-- 'lemmalaw09.LettersPlays', WHERE WHAT IT READS IS OF BULK AT MOST 1048576: true; the input reads as it did. -/
def lettersPlaysUptoRow : OpenClaim := { program := "ytlhdkhjajcfdoaadoor", sum := "e8aa5f95e89e09eb54346d8e2d7f84d6e2dc8866e0df891508d7b9548148cea4", func := "lemma/lemmalaw09.LettersPlays", spec := "lettersPlays", inPlace := ["internal/abi.NoEscape"], named := ["unicode/utf8.first", "unicode/utf8.acceptRanges"], apart := false, laid := [("unicode/utf8.acceptRanges", laid_unicode_utf8_acceptRanges), ("unicode/utf8.first", laid_unicode_utf8_first)], narrowed := true }
def LettersPlaysUptoSaid : Prop := lettersPlaysUptoRow.holds Tryd.pinned (OpenSpec.upto lettersPlaysSpec)

end Rows
end Go.Proofs.YtlhdkhjajcfdoaaDoor
