/-
  No cell of these rows narrows 'for every input' (looked for: loops, veiled, ifaces, maps, wideKeys, modest, calm, conditions, laid).
  DERIVED. THE GIVEN ROWS OF THIS SEAT. 4 by the template 'for every input the law returns true; each argument reads behind the call as it read before'; 0 by the template 'total and deterministic' (their statements: YtbacakblboodeaaTotals.lean).
  GIVEN WITH THE SEED: the statements are not yours to turn. If you find one false, say at which input.
  Laid BY PROGRAM, IN A SANDBOX (cutbox-rows.mjs): the forced cells as the released guide's own fill.sh prints them over the translation 6a3235df2c05d73d… (all of the seat's roots in one cut). By AI agents, Wed Nov 11 2026. No macro, syntax, notation, axiom, sorry.
-/
import Derived.Test.YtbacakblboodeaaChecked
import GoSem.Claim
import GoSem.ClaimJoined
import GoSem.ClaimMapViews
import Derived.JoinedTies
import Derived.KernelRfl
namespace Go.Proofs.Ytbacakblboodeaa
/- THE CELL 'sum', in the pinned program and in every row, IS THE sha256 OF THE DUMP (.gsa) THAT YtbacakblboodeaaProg.lean LOADS. Nothing in Lean hashes anything: it is a label: what it is worth is what the hold of that sum in a sandbox is worth. -/
noncomputable def Try.pinned : Pinned := { name := "ytbacakblboodeaa", sum := "6a3235df2c05d73d8672214b4dc8c869f1e643f0a1021f7f3c98d182151ec42b", checked := Try.checked }
namespace Rows
def none {H : Type} : Left H := { results := [], args := [] }

/-- 'groupagelaw12.BoundTells': WHATEVER THE INPUT: true; the input reads as it did. -/
def boundTellsSpec : ChangeSpec := { name := "boundTells", fn := fun _ => fun
  | [d1, d2, d3] => { results := [.lit (.bool true)], args := [d1, d2, d3] }
  | _ => none }
def boundTellsRow : OpenClaim := { program := "ytbacakblboodeaa", sum := "6a3235df2c05d73d8672214b4dc8c869f1e643f0a1021f7f3c98d182151ec42b", func := "groupage/groupagelaw12.BoundTells", spec := "boundTells", unfollowed := true, recurses := true, apart := false }
def BoundTellsSaid : Prop := boundTellsRow.holds Try.pinned (OpenSpec.ofChange boundTellsSpec)

/-- ITS FALSE NEIGHBOUR: 'it returns false'. Refute it at one input. -/
def boundTellsWrong : ChangeSpec := { name := "boundTells", fn := fun _ => fun
  | [d1, d2, d3] => { results := [.lit (.bool false)], args := [d1, d2, d3] }
  | _ => none }
def BoundTellsWrongFalsely : Prop := boundTellsRow.holds Try.pinned (OpenSpec.ofChange boundTellsWrong)

/-- 'groupagelaw12.BoundLess': WHATEVER THE INPUT: true; the input reads as it did. -/
def boundLessSpec : ChangeSpec := { name := "boundLess", fn := fun _ => fun
  | [d1, d2, d3] => { results := [.lit (.bool true)], args := [d1, d2, d3] }
  | _ => none }
def boundLessRow : OpenClaim := { program := "ytbacakblboodeaa", sum := "6a3235df2c05d73d8672214b4dc8c869f1e643f0a1021f7f3c98d182151ec42b", func := "groupage/groupagelaw12.BoundLess", spec := "boundLess", unfollowed := true, recurses := true, apart := false }
def BoundLessSaid : Prop := boundLessRow.holds Try.pinned (OpenSpec.ofChange boundLessSpec)

/-- ITS FALSE NEIGHBOUR: 'it returns false'. Refute it at one input. -/
def boundLessWrong : ChangeSpec := { name := "boundLess", fn := fun _ => fun
  | [d1, d2, d3] => { results := [.lit (.bool false)], args := [d1, d2, d3] }
  | _ => none }
def BoundLessWrongFalsely : Prop := boundLessRow.holds Try.pinned (OpenSpec.ofChange boundLessWrong)

/-- 'groupagelaw12.BoundPlan': WHATEVER THE INPUT: true; the input reads as it did. -/
def boundPlanSpec : ChangeSpec := { name := "boundPlan", fn := fun _ => fun
  | [d1, d2, d3] => { results := [.lit (.bool true)], args := [d1, d2, d3] }
  | _ => none }
def boundPlanRow : OpenClaim := { program := "ytbacakblboodeaa", sum := "6a3235df2c05d73d8672214b4dc8c869f1e643f0a1021f7f3c98d182151ec42b", func := "groupage/groupagelaw12.BoundPlan", spec := "boundPlan", unfollowed := true, recurses := true, apart := false }
def BoundPlanSaid : Prop := boundPlanRow.holds Try.pinned (OpenSpec.ofChange boundPlanSpec)

/-- ITS FALSE NEIGHBOUR: 'it returns false'. Refute it at one input. -/
def boundPlanWrong : ChangeSpec := { name := "boundPlan", fn := fun _ => fun
  | [d1, d2, d3] => { results := [.lit (.bool false)], args := [d1, d2, d3] }
  | _ => none }
def BoundPlanWrongFalsely : Prop := boundPlanRow.holds Try.pinned (OpenSpec.ofChange boundPlanWrong)

/-- 'groupagelaw12.BoundFar': WHATEVER THE INPUT: true; the input reads as it did. -/
def boundFarSpec : ChangeSpec := { name := "boundFar", fn := fun _ => fun
  | [d1, d2, d3] => { results := [.lit (.bool true)], args := [d1, d2, d3] }
  | _ => none }
def boundFarRow : OpenClaim := { program := "ytbacakblboodeaa", sum := "6a3235df2c05d73d8672214b4dc8c869f1e643f0a1021f7f3c98d182151ec42b", func := "groupage/groupagelaw12.BoundFar", spec := "boundFar", unfollowed := true, recurses := true, apart := false }
def BoundFarSaid : Prop := boundFarRow.holds Try.pinned (OpenSpec.ofChange boundFarSpec)

/-- ITS FALSE NEIGHBOUR: 'it returns false'. Refute it at one input. -/
def boundFarWrong : ChangeSpec := { name := "boundFar", fn := fun _ => fun
  | [d1, d2, d3] => { results := [.lit (.bool false)], args := [d1, d2, d3] }
  | _ => none }
def BoundFarWrongFalsely : Prop := boundFarRow.holds Try.pinned (OpenSpec.ofChange boundFarWrong)

/- THE SECOND FORM. 'bulk': how many values and letters a reading holds, each counted each time it is reached (what is shared counts as often as it is met; a slice's spare places count too). A statement '..UptoSaid' is the law's where the arguments, and the package variables that the reading takes, are together of bulk at most 1048576: NARROWER than '..Said'. Prove '..Said' where nothing that the law and all that it calls make is longer than what came in: it says more and counts as full. Else prove '..UptoSaid'. A law counts once. -/
mutual
def uptoBulk {H : Type} : DataW H → Nat
  | .lit (.string bytes) => bytes.length + 1
  | .lit _ => 1
  | .nil => 1
  | .ptr d => uptoBulk d + 1
  | .slice elems spare => uptoBulkAll elems + uptoBulkAll spare + 1
  | .agg parts => uptoBulkAll parts + 1
  | .iface _ d => uptoBulk d + 1
  | .map entries => uptoBulkEntries entries + 1
  | .held _ => 1
def uptoBulkAll {H : Type} : List (DataW H) → Nat
  | [] => 0
  | d :: r => uptoBulk d + uptoBulkAll r
def uptoBulkEntries {H : Type} : List (Lit × DataW H) → Nat
  | [] => 0
  | x :: r => uptoBulkEntry x + uptoBulkEntries r
def uptoBulkEntry {H : Type} : Lit × DataW H → Nat
  | (.string bytes, d) => bytes.length + uptoBulk d + 1
  | (_, d) => uptoBulk d + 1
 end
def uptoSmall : (H : Type) → List (DataW H) → Bool := fun _ ds => decide (uptoBulkAll ds ≤ 1048576)
def OpenSpec.upto (s : _root_.Go.ChangeSpec) : _root_.Go.OpenSpec := { _root_.Go.OpenSpec.ofChange s with cond := some uptoSmall }

/-- 'groupagelaw12.BoundTells', WHERE WHAT IT READS IS OF BULK AT MOST 1048576: true; the input reads as it did. -/
def boundTellsUptoRow : OpenClaim := { program := "ytbacakblboodeaa", sum := "6a3235df2c05d73d8672214b4dc8c869f1e643f0a1021f7f3c98d182151ec42b", func := "groupage/groupagelaw12.BoundTells", spec := "boundTells", unfollowed := true, recurses := true, apart := false, narrowed := true }
def BoundTellsUptoSaid : Prop := boundTellsUptoRow.holds Try.pinned (OpenSpec.upto boundTellsSpec)

/-- 'groupagelaw12.BoundLess', WHERE WHAT IT READS IS OF BULK AT MOST 1048576: true; the input reads as it did. -/
def boundLessUptoRow : OpenClaim := { program := "ytbacakblboodeaa", sum := "6a3235df2c05d73d8672214b4dc8c869f1e643f0a1021f7f3c98d182151ec42b", func := "groupage/groupagelaw12.BoundLess", spec := "boundLess", unfollowed := true, recurses := true, apart := false, narrowed := true }
def BoundLessUptoSaid : Prop := boundLessUptoRow.holds Try.pinned (OpenSpec.upto boundLessSpec)

/-- 'groupagelaw12.BoundPlan', WHERE WHAT IT READS IS OF BULK AT MOST 1048576: true; the input reads as it did. -/
def boundPlanUptoRow : OpenClaim := { program := "ytbacakblboodeaa", sum := "6a3235df2c05d73d8672214b4dc8c869f1e643f0a1021f7f3c98d182151ec42b", func := "groupage/groupagelaw12.BoundPlan", spec := "boundPlan", unfollowed := true, recurses := true, apart := false, narrowed := true }
def BoundPlanUptoSaid : Prop := boundPlanUptoRow.holds Try.pinned (OpenSpec.upto boundPlanSpec)

/-- 'groupagelaw12.BoundFar', WHERE WHAT IT READS IS OF BULK AT MOST 1048576: true; the input reads as it did. -/
def boundFarUptoRow : OpenClaim := { program := "ytbacakblboodeaa", sum := "6a3235df2c05d73d8672214b4dc8c869f1e643f0a1021f7f3c98d182151ec42b", func := "groupage/groupagelaw12.BoundFar", spec := "boundFar", unfollowed := true, recurses := true, apart := false, narrowed := true }
def BoundFarUptoSaid : Prop := boundFarUptoRow.holds Try.pinned (OpenSpec.upto boundFarSpec)

end Rows
end Go.Proofs.Ytbacakblboodeaa
