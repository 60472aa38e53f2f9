/-
  No cell of these rows narrows 'for every input' (looked for: loops, veiled, ifaces, maps, wideKeys, modest, calm, conditions, laid).
  DERIVED. THE GIVEN ROWS OF THIS SEAT. 5 by the template 'for every input the law returns true; each argument reads behind the call as it read before'; 0 by the template 'total and deterministic' (their statements: YtkejjiilcoacfaaGreatTotals.lean).
  GIVEN WITH THE SEED: the statements are not yours to turn. If you find one false, say at which input.
  Laid BY PROGRAM, IN A SANDBOX (cutbox-rows.mjs): the forced cells as the released guide's own fill.sh prints them over the translation 456ae9f127eb11c5… (all of the seat's roots in one cut). By AI agents, Wed Nov 11 2026. No macro, syntax, notation, axiom, sorry.
-/
import Derived.Test.YtkejjiilcoacfaaGreatChecked
import GoSem.Claim
import GoSem.ClaimJoined
import GoSem.ClaimMapViews
import Derived.JoinedTies
import Derived.KernelRfl
namespace Go.Proofs.YtkejjiilcoacfaaGreat
/- THE CELL 'sum', in the pinned program and in every row, IS THE sha256 OF THE DUMP (.gsa) THAT YtkejjiilcoacfaaGreatProg.lean LOADS. Nothing in Lean hashes anything: it is a label: what it is worth is what the hold of that sum in a sandbox is worth. -/
noncomputable def Tryz.pinned : Pinned := { name := "ytkejjiilcoacfaagreat", sum := "456ae9f127eb11c5d5f9690a9354ec2e280cd0fa247a0b9ce608396a0e60834c", checked := Tryz.checked }
namespace Rows
def none {H : Type} : Left H := { results := [], args := [] }

/-- 'lemmalaw07.FrameLimits': WHATEVER THE INPUT: true; the input reads as it did. -/
def frameLimitsSpec : ChangeSpec := { name := "frameLimits", fn := fun _ => fun
  | [d] => { results := [.lit (.bool true)], args := [d] }
  | _ => none }
def frameLimitsRow : OpenClaim := { program := "ytkejjiilcoacfaagreat", sum := "456ae9f127eb11c5d5f9690a9354ec2e280cd0fa247a0b9ce608396a0e60834c", func := "lemma/lemmalaw07.FrameLimits", spec := "frameLimits", unfollowed := true, recurses := true, plainKeys := false, apart := false }
def FrameLimitsSaid : Prop := frameLimitsRow.holds Tryz.pinned (OpenSpec.ofChange frameLimitsSpec)

/-- ITS FALSE NEIGHBOUR: 'it returns false'. Refute it at one input. -/
def frameLimitsWrong : ChangeSpec := { name := "frameLimits", fn := fun _ => fun
  | [d] => { results := [.lit (.bool false)], args := [d] }
  | _ => none }
def FrameLimitsWrongFalsely : Prop := frameLimitsRow.holds Tryz.pinned (OpenSpec.ofChange frameLimitsWrong)

/-- 'lemmalaw07.FrameFresh': WHATEVER THE INPUT: true; the input reads as it did. -/
def frameFreshSpec : ChangeSpec := { name := "frameFresh", fn := fun _ => fun
  | [d] => { results := [.lit (.bool true)], args := [d] }
  | _ => none }
def frameFreshRow : OpenClaim := { program := "ytkejjiilcoacfaagreat", sum := "456ae9f127eb11c5d5f9690a9354ec2e280cd0fa247a0b9ce608396a0e60834c", func := "lemma/lemmalaw07.FrameFresh", spec := "frameFresh", unfollowed := true, recurses := true, plainKeys := false, apart := false }
def FrameFreshSaid : Prop := frameFreshRow.holds Tryz.pinned (OpenSpec.ofChange frameFreshSpec)

/-- ITS FALSE NEIGHBOUR: 'it returns false'. Refute it at one input. -/
def frameFreshWrong : ChangeSpec := { name := "frameFresh", fn := fun _ => fun
  | [d] => { results := [.lit (.bool false)], args := [d] }
  | _ => none }
def FrameFreshWrongFalsely : Prop := frameFreshRow.holds Tryz.pinned (OpenSpec.ofChange frameFreshWrong)

/-- 'lemmalaw07.FrameNeeds': WHATEVER THE INPUT: true; the input reads as it did. -/
def frameNeedsSpec : ChangeSpec := { name := "frameNeeds", fn := fun _ => fun
  | [d] => { results := [.lit (.bool true)], args := [d] }
  | _ => none }
def frameNeedsRow : OpenClaim := { program := "ytkejjiilcoacfaagreat", sum := "456ae9f127eb11c5d5f9690a9354ec2e280cd0fa247a0b9ce608396a0e60834c", func := "lemma/lemmalaw07.FrameNeeds", spec := "frameNeeds", unfollowed := true, recurses := true, plainKeys := false, apart := false }
def FrameNeedsSaid : Prop := frameNeedsRow.holds Tryz.pinned (OpenSpec.ofChange frameNeedsSpec)

/-- ITS FALSE NEIGHBOUR: 'it returns false'. Refute it at one input. -/
def frameNeedsWrong : ChangeSpec := { name := "frameNeeds", fn := fun _ => fun
  | [d] => { results := [.lit (.bool false)], args := [d] }
  | _ => none }
def FrameNeedsWrongFalsely : Prop := frameNeedsRow.holds Tryz.pinned (OpenSpec.ofChange frameNeedsWrong)

/-- 'lemmalaw07.FrameScopes': WHATEVER THE INPUT: true; the input reads as it did. -/
def frameScopesSpec : ChangeSpec := { name := "frameScopes", fn := fun _ => fun
  | [d1, d2] => { results := [.lit (.bool true)], args := [d1, d2] }
  | _ => none }
def frameScopesRow : OpenClaim := { program := "ytkejjiilcoacfaagreat", sum := "456ae9f127eb11c5d5f9690a9354ec2e280cd0fa247a0b9ce608396a0e60834c", func := "lemma/lemmalaw07.FrameScopes", spec := "frameScopes", unfollowed := true, recurses := true, plainKeys := false, apart := false }
def FrameScopesSaid : Prop := frameScopesRow.holds Tryz.pinned (OpenSpec.ofChange frameScopesSpec)

/-- ITS FALSE NEIGHBOUR: 'it returns false'. Refute it at one input. -/
def frameScopesWrong : ChangeSpec := { name := "frameScopes", fn := fun _ => fun
  | [d1, d2] => { results := [.lit (.bool false)], args := [d1, d2] }
  | _ => none }
def FrameScopesWrongFalsely : Prop := frameScopesRow.holds Tryz.pinned (OpenSpec.ofChange frameScopesWrong)

/-- 'lemmalaw07.FrameScript': WHATEVER THE INPUT: true; the input reads as it did. -/
def frameScriptSpec : ChangeSpec := { name := "frameScript", fn := fun _ => fun
  | [d1, d2] => { results := [.lit (.bool true)], args := [d1, d2] }
  | _ => none }
def frameScriptRow : OpenClaim := { program := "ytkejjiilcoacfaagreat", sum := "456ae9f127eb11c5d5f9690a9354ec2e280cd0fa247a0b9ce608396a0e60834c", func := "lemma/lemmalaw07.FrameScript", spec := "frameScript", unfollowed := true, recurses := true, plainKeys := false, apart := false }
def FrameScriptSaid : Prop := frameScriptRow.holds Tryz.pinned (OpenSpec.ofChange frameScriptSpec)

/-- ITS FALSE NEIGHBOUR: 'it returns false'. Refute it at one input. -/
def frameScriptWrong : ChangeSpec := { name := "frameScript", fn := fun _ => fun
  | [d1, d2] => { results := [.lit (.bool false)], args := [d1, d2] }
  | _ => none }
def FrameScriptWrongFalsely : Prop := frameScriptRow.holds Tryz.pinned (OpenSpec.ofChange frameScriptWrong)

/- THE SECOND FORM. 'bulk': how many values and letters a reading holds, each counted each time it is reached (what is shared counts as often as it is met; a slice's spare places count too). A statement '..UptoSaid' is the law's where the arguments, and the package variables that the reading takes, are together of bulk at most 1048576: NARROWER than '..Said'. Prove '..Said' where nothing that the law and all that it calls make is longer than what came in: it says more and counts as full. Else prove '..UptoSaid'. A law counts once. -/
mutual
def uptoBulk {H : Type} : DataW H → Nat
  | .lit (.string bytes) => bytes.length + 1
  | .lit _ => 1
  | .nil => 1
  | .ptr d => uptoBulk d + 1
  | .slice elems spare => uptoBulkAll elems + uptoBulkAll spare + 1
  | .agg parts => uptoBulkAll parts + 1
  | .iface _ d => uptoBulk d + 1
  | .map entries => uptoBulkEntries entries + 1
  | .held _ => 1
def uptoBulkAll {H : Type} : List (DataW H) → Nat
  | [] => 0
  | d :: r => uptoBulk d + uptoBulkAll r
def uptoBulkEntries {H : Type} : List (Lit × DataW H) → Nat
  | [] => 0
  | x :: r => uptoBulkEntry x + uptoBulkEntries r
def uptoBulkEntry {H : Type} : Lit × DataW H → Nat
  | (.string bytes, d) => bytes.length + uptoBulk d + 1
  | (_, d) => uptoBulk d + 1
 end
def uptoSmall : (H : Type) → List (DataW H) → Bool := fun _ ds => decide (uptoBulkAll ds ≤ 1048576)
def OpenSpec.upto (s : _root_.Go.ChangeSpec) : _root_.Go.OpenSpec := { _root_.Go.OpenSpec.ofChange s with cond := some uptoSmall }

/-- 'lemmalaw07.FrameLimits', WHERE WHAT IT READS IS OF BULK AT MOST 1048576: true; the input reads as it did. -/
def frameLimitsUptoRow : OpenClaim := { program := "ytkejjiilcoacfaagreat", sum := "456ae9f127eb11c5d5f9690a9354ec2e280cd0fa247a0b9ce608396a0e60834c", func := "lemma/lemmalaw07.FrameLimits", spec := "frameLimits", unfollowed := true, recurses := true, plainKeys := false, apart := false, narrowed := true }
def FrameLimitsUptoSaid : Prop := frameLimitsUptoRow.holds Tryz.pinned (OpenSpec.upto frameLimitsSpec)

/-- 'lemmalaw07.FrameFresh', WHERE WHAT IT READS IS OF BULK AT MOST 1048576: true; the input reads as it did. -/
def frameFreshUptoRow : OpenClaim := { program := "ytkejjiilcoacfaagreat", sum := "456ae9f127eb11c5d5f9690a9354ec2e280cd0fa247a0b9ce608396a0e60834c", func := "lemma/lemmalaw07.FrameFresh", spec := "frameFresh", unfollowed := true, recurses := true, plainKeys := false, apart := false, narrowed := true }
def FrameFreshUptoSaid : Prop := frameFreshUptoRow.holds Tryz.pinned (OpenSpec.upto frameFreshSpec)

/-- 'lemmalaw07.FrameNeeds', WHERE WHAT IT READS IS OF BULK AT MOST 1048576: true; the input reads as it did. -/
def frameNeedsUptoRow : OpenClaim := { program := "ytkejjiilcoacfaagreat", sum := "456ae9f127eb11c5d5f9690a9354ec2e280cd0fa247a0b9ce608396a0e60834c", func := "lemma/lemmalaw07.FrameNeeds", spec := "frameNeeds", unfollowed := true, recurses := true, plainKeys := false, apart := false, narrowed := true }
def FrameNeedsUptoSaid : Prop := frameNeedsUptoRow.holds Tryz.pinned (OpenSpec.upto frameNeedsSpec)

/-- 'lemmalaw07.FrameScopes', WHERE WHAT IT READS IS OF BULK AT MOST 1048576: true; the input reads as it did. -/
def frameScopesUptoRow : OpenClaim := { program := "ytkejjiilcoacfaagreat", sum := "456ae9f127eb11c5d5f9690a9354ec2e280cd0fa247a0b9ce608396a0e60834c", func := "lemma/lemmalaw07.FrameScopes", spec := "frameScopes", unfollowed := true, recurses := true, plainKeys := false, apart := false, narrowed := true }
def FrameScopesUptoSaid : Prop := frameScopesUptoRow.holds Tryz.pinned (OpenSpec.upto frameScopesSpec)

/-- 'lemmalaw07.FrameScript', WHERE WHAT IT READS IS OF BULK AT MOST 1048576: true; the input reads as it did. -/
def frameScriptUptoRow : OpenClaim := { program := "ytkejjiilcoacfaagreat", sum := "456ae9f127eb11c5d5f9690a9354ec2e280cd0fa247a0b9ce608396a0e60834c", func := "lemma/lemmalaw07.FrameScript", spec := "frameScript", unfollowed := true, recurses := true, plainKeys := false, apart := false, narrowed := true }
def FrameScriptUptoSaid : Prop := frameScriptUptoRow.holds Tryz.pinned (OpenSpec.upto frameScriptSpec)

end Rows
end Go.Proofs.YtkejjiilcoacfaaGreat
