/-
  No cell of these rows narrows 'for every input' (looked for: loops, veiled, ifaces, maps, wideKeys, modest, calm, conditions, laid).
  DERIVED. THE GIVEN ROWS OF THIS SEAT. 4 by the template 'for every input the law returns true; each argument reads behind the call as it read before'; 0 by the template 'total and deterministic' (their statements: YtjaccgkeldabfaaGreatTotals.lean).
  GIVEN WITH THE SEED: the statements are not yours to turn. If you find one false, say at which input.
  Laid BY PROGRAM, IN A SANDBOX (cutbox-rows.mjs): the forced cells as the released guide's own fill.sh prints them over the translation 9c527656eb799580… (all of the seat's roots in one cut). By AI agents, Wed Nov 11 2026. No macro, syntax, notation, axiom, sorry.
-/
import Derived.Test.YtjaccgkeldabfaaGreatChecked
import GoSem.Claim
import GoSem.ClaimJoined
import GoSem.ClaimMapViews
import Derived.JoinedTies
import Derived.KernelRfl
namespace Go.Proofs.YtjaccgkeldabfaaGreat
/- THE CELL 'sum', in the pinned program and in every row, IS THE sha256 OF THE DUMP (.gsa) THAT YtjaccgkeldabfaaGreatProg.lean LOADS. Nothing in Lean hashes anything: it is a label: what it is worth is what the hold of that sum in a sandbox is worth. -/
noncomputable def Tryz.pinned : Pinned := { name := "ytjaccgkeldabfaagreat", sum := "9c527656eb799580db67870061e01b2a4a730ca67db676d14c2f5dcb58248e89", checked := Tryz.checked }
namespace Rows
def none {H : Type} : Left H := { results := [], args := [] }

/-- 'lemmalaw05.DistBreaks': WHATEVER THE INPUT: true; the input reads as it did. -/
def distBreaksSpec : ChangeSpec := { name := "distBreaks", fn := fun _ => fun
  | [d1, d2] => { results := [.lit (.bool true)], args := [d1, d2] }
  | _ => none }
def distBreaksRow : OpenClaim := { program := "ytjaccgkeldabfaagreat", sum := "9c527656eb799580db67870061e01b2a4a730ca67db676d14c2f5dcb58248e89", func := "lemma/lemmalaw05.DistBreaks", spec := "distBreaks", unfollowed := true, recurses := true, plainKeys := false, apart := false }
def DistBreaksSaid : Prop := distBreaksRow.holds Tryz.pinned (OpenSpec.ofChange distBreaksSpec)

/-- ITS FALSE NEIGHBOUR: 'it returns false'. Refute it at one input. -/
def distBreaksWrong : ChangeSpec := { name := "distBreaks", fn := fun _ => fun
  | [d1, d2] => { results := [.lit (.bool false)], args := [d1, d2] }
  | _ => none }
def DistBreaksWrongFalsely : Prop := distBreaksRow.holds Tryz.pinned (OpenSpec.ofChange distBreaksWrong)

/-- 'lemmalaw05.DistThen': WHATEVER THE INPUT: true; the input reads as it did. -/
def distThenSpec : ChangeSpec := { name := "distThen", fn := fun _ => fun
  | [d1, d2, d3] => { results := [.lit (.bool true)], args := [d1, d2, d3] }
  | _ => none }
def distThenRow : OpenClaim := { program := "ytjaccgkeldabfaagreat", sum := "9c527656eb799580db67870061e01b2a4a730ca67db676d14c2f5dcb58248e89", func := "lemma/lemmalaw05.DistThen", spec := "distThen", unfollowed := true, recurses := true, plainKeys := false, apart := false }
def DistThenSaid : Prop := distThenRow.holds Tryz.pinned (OpenSpec.ofChange distThenSpec)

/-- ITS FALSE NEIGHBOUR: 'it returns false'. Refute it at one input. -/
def distThenWrong : ChangeSpec := { name := "distThen", fn := fun _ => fun
  | [d1, d2, d3] => { results := [.lit (.bool false)], args := [d1, d2, d3] }
  | _ => none }
def DistThenWrongFalsely : Prop := distThenRow.holds Tryz.pinned (OpenSpec.ofChange distThenWrong)

/-- 'lemmalaw05.DistMemory': WHATEVER THE INPUT: true; the input reads as it did. -/
def distMemorySpec : ChangeSpec := { name := "distMemory", fn := fun _ => fun
  | [d1, d2] => { results := [.lit (.bool true)], args := [d1, d2] }
  | _ => none }
def distMemoryRow : OpenClaim := { program := "ytjaccgkeldabfaagreat", sum := "9c527656eb799580db67870061e01b2a4a730ca67db676d14c2f5dcb58248e89", func := "lemma/lemmalaw05.DistMemory", spec := "distMemory", unfollowed := true, recurses := true, plainKeys := false, apart := false }
def DistMemorySaid : Prop := distMemoryRow.holds Tryz.pinned (OpenSpec.ofChange distMemorySpec)

/-- ITS FALSE NEIGHBOUR: 'it returns false'. Refute it at one input. -/
def distMemoryWrong : ChangeSpec := { name := "distMemory", fn := fun _ => fun
  | [d1, d2] => { results := [.lit (.bool false)], args := [d1, d2] }
  | _ => none }
def DistMemoryWrongFalsely : Prop := distMemoryRow.holds Tryz.pinned (OpenSpec.ofChange distMemoryWrong)

/-- 'lemmalaw05.DistCarries': WHATEVER THE INPUT: true; the input reads as it did. -/
def distCarriesSpec : ChangeSpec := { name := "distCarries", fn := fun _ => fun
  | [d] => { results := [.lit (.bool true)], args := [d] }
  | _ => none }
def distCarriesRow : OpenClaim := { program := "ytjaccgkeldabfaagreat", sum := "9c527656eb799580db67870061e01b2a4a730ca67db676d14c2f5dcb58248e89", func := "lemma/lemmalaw05.DistCarries", spec := "distCarries", unfollowed := true, recurses := true, plainKeys := false, apart := false }
def DistCarriesSaid : Prop := distCarriesRow.holds Tryz.pinned (OpenSpec.ofChange distCarriesSpec)

/-- ITS FALSE NEIGHBOUR: 'it returns false'. Refute it at one input. -/
def distCarriesWrong : ChangeSpec := { name := "distCarries", fn := fun _ => fun
  | [d] => { results := [.lit (.bool false)], args := [d] }
  | _ => none }
def DistCarriesWrongFalsely : Prop := distCarriesRow.holds Tryz.pinned (OpenSpec.ofChange distCarriesWrong)

/- THE SECOND FORM. 'bulk': how many values and letters a reading holds, each counted each time it is reached (what is shared counts as often as it is met; a slice's spare places count too). A statement '..UptoSaid' is the law's where the arguments, and the package variables that the reading takes, are together of bulk at most 1048576: NARROWER than '..Said'. Prove '..Said' where nothing that the law and all that it calls make is longer than what came in: it says more and counts as full. Else prove '..UptoSaid'. A law counts once. -/
mutual
def uptoBulk {H : Type} : DataW H → Nat
  | .lit (.string bytes) => bytes.length + 1
  | .lit _ => 1
  | .nil => 1
  | .ptr d => uptoBulk d + 1
  | .slice elems spare => uptoBulkAll elems + uptoBulkAll spare + 1
  | .agg parts => uptoBulkAll parts + 1
  | .iface _ d => uptoBulk d + 1
  | .map entries => uptoBulkEntries entries + 1
  | .held _ => 1
def uptoBulkAll {H : Type} : List (DataW H) → Nat
  | [] => 0
  | d :: r => uptoBulk d + uptoBulkAll r
def uptoBulkEntries {H : Type} : List (Lit × DataW H) → Nat
  | [] => 0
  | x :: r => uptoBulkEntry x + uptoBulkEntries r
def uptoBulkEntry {H : Type} : Lit × DataW H → Nat
  | (.string bytes, d) => bytes.length + uptoBulk d + 1
  | (_, d) => uptoBulk d + 1
 end
def uptoSmall : (H : Type) → List (DataW H) → Bool := fun _ ds => decide (uptoBulkAll ds ≤ 1048576)
def OpenSpec.upto (s : _root_.Go.ChangeSpec) : _root_.Go.OpenSpec := { _root_.Go.OpenSpec.ofChange s with cond := some uptoSmall }

/-- 'lemmalaw05.DistBreaks', WHERE WHAT IT READS IS OF BULK AT MOST 1048576: true; the input reads as it did. -/
def distBreaksUptoRow : OpenClaim := { program := "ytjaccgkeldabfaagreat", sum := "9c527656eb799580db67870061e01b2a4a730ca67db676d14c2f5dcb58248e89", func := "lemma/lemmalaw05.DistBreaks", spec := "distBreaks", unfollowed := true, recurses := true, plainKeys := false, apart := false, narrowed := true }
def DistBreaksUptoSaid : Prop := distBreaksUptoRow.holds Tryz.pinned (OpenSpec.upto distBreaksSpec)

/-- 'lemmalaw05.DistThen', WHERE WHAT IT READS IS OF BULK AT MOST 1048576: true; the input reads as it did. -/
def distThenUptoRow : OpenClaim := { program := "ytjaccgkeldabfaagreat", sum := "9c527656eb799580db67870061e01b2a4a730ca67db676d14c2f5dcb58248e89", func := "lemma/lemmalaw05.DistThen", spec := "distThen", unfollowed := true, recurses := true, plainKeys := false, apart := false, narrowed := true }
def DistThenUptoSaid : Prop := distThenUptoRow.holds Tryz.pinned (OpenSpec.upto distThenSpec)

/-- 'lemmalaw05.DistMemory', WHERE WHAT IT READS IS OF BULK AT MOST 1048576: true; the input reads as it did. -/
def distMemoryUptoRow : OpenClaim := { program := "ytjaccgkeldabfaagreat", sum := "9c527656eb799580db67870061e01b2a4a730ca67db676d14c2f5dcb58248e89", func := "lemma/lemmalaw05.DistMemory", spec := "distMemory", unfollowed := true, recurses := true, plainKeys := false, apart := false, narrowed := true }
def DistMemoryUptoSaid : Prop := distMemoryUptoRow.holds Tryz.pinned (OpenSpec.upto distMemorySpec)

/-- 'lemmalaw05.DistCarries', WHERE WHAT IT READS IS OF BULK AT MOST 1048576: true; the input reads as it did. -/
def distCarriesUptoRow : OpenClaim := { program := "ytjaccgkeldabfaagreat", sum := "9c527656eb799580db67870061e01b2a4a730ca67db676d14c2f5dcb58248e89", func := "lemma/lemmalaw05.DistCarries", spec := "distCarries", unfollowed := true, recurses := true, plainKeys := false, apart := false, narrowed := true }
def DistCarriesUptoSaid : Prop := distCarriesUptoRow.holds Tryz.pinned (OpenSpec.upto distCarriesSpec)

end Rows
end Go.Proofs.YtjaccgkeldabfaaGreat
