/-
  No cell of these rows narrows 'for every input' (looked for: loops, veiled, ifaces, maps, wideKeys, modest, calm, conditions, laid).
  DERIVED. THE GIVEN ROWS OF THIS SEAT. 3 by the template 'for every input the law returns true; each argument reads behind the call as it read before'; 0 by the template 'total and deterministic' (their statements: YtllffjgjmeibnaaTotals.lean).
  GIVEN WITH THE SEED: the statements are not yours to turn. If you find one false, say at which input.
  Laid BY PROGRAM, IN A SANDBOX (cutbox-rows.mjs): the forced cells as the released guide's own fill.sh prints them over the translation 19790b37f4fbcdfe… (all of the seat's roots in one cut). By AI agents, Wed Nov 11 2026. No macro, syntax, notation, axiom, sorry.
-/
import Derived.Test.YtllffjgjmeibnaaChecked
import GoSem.Claim
import GoSem.ClaimJoined
import GoSem.ClaimMapViews
import Derived.JoinedTies
import Derived.KernelRfl
namespace Go.Proofs.Ytllffjgjmeibnaa
/- THE CELL 'sum', in the pinned program and in every row, IS THE sha256 OF THE DUMP (.gsa) THAT YtllffjgjmeibnaaProg.lean LOADS. Nothing in Lean hashes anything: it is a label: what it is worth is what the hold of that sum in a sandbox is worth. -/
noncomputable def Try.pinned : Pinned := { name := "ytllffjgjmeibnaa", sum := "19790b37f4fbcdfe85dd83723eed75edb51cff45d6a5a7b1d3f57c7b9b2e3069", checked := Try.checked }
namespace Rows
def none {H : Type} : Left H := { results := [], args := [] }

/-- 'groupagelaw06.AreaTells': WHATEVER THE INPUT: true; the input reads as it did. -/
def areaTellsSpec : ChangeSpec := { name := "areaTells", fn := fun _ => fun
  | [d1, d2, d3, d4] => { results := [.lit (.bool true)], args := [d1, d2, d3, d4] }
  | _ => none }
def areaTellsRow : OpenClaim := { program := "ytllffjgjmeibnaa", sum := "19790b37f4fbcdfe85dd83723eed75edb51cff45d6a5a7b1d3f57c7b9b2e3069", func := "groupage/groupagelaw06.AreaTells", spec := "areaTells", unfollowed := true, recurses := true, apart := false }
def AreaTellsSaid : Prop := areaTellsRow.holds Try.pinned (OpenSpec.ofChange areaTellsSpec)

/-- ITS FALSE NEIGHBOUR: 'it returns false'. Refute it at one input. -/
def areaTellsWrong : ChangeSpec := { name := "areaTells", fn := fun _ => fun
  | [d1, d2, d3, d4] => { results := [.lit (.bool false)], args := [d1, d2, d3, d4] }
  | _ => none }
def AreaTellsWrongFalsely : Prop := areaTellsRow.holds Try.pinned (OpenSpec.ofChange areaTellsWrong)

/-- 'groupagelaw06.AreaParts': WHATEVER THE INPUT: true; the input reads as it did. -/
def areaPartsSpec : ChangeSpec := { name := "areaParts", fn := fun _ => fun
  | [d1, d2, d3] => { results := [.lit (.bool true)], args := [d1, d2, d3] }
  | _ => none }
def areaPartsRow : OpenClaim := { program := "ytllffjgjmeibnaa", sum := "19790b37f4fbcdfe85dd83723eed75edb51cff45d6a5a7b1d3f57c7b9b2e3069", func := "groupage/groupagelaw06.AreaParts", spec := "areaParts", unfollowed := true, recurses := true, apart := false }
def AreaPartsSaid : Prop := areaPartsRow.holds Try.pinned (OpenSpec.ofChange areaPartsSpec)

/-- ITS FALSE NEIGHBOUR: 'it returns false'. Refute it at one input. -/
def areaPartsWrong : ChangeSpec := { name := "areaParts", fn := fun _ => fun
  | [d1, d2, d3] => { results := [.lit (.bool false)], args := [d1, d2, d3] }
  | _ => none }
def AreaPartsWrongFalsely : Prop := areaPartsRow.holds Try.pinned (OpenSpec.ofChange areaPartsWrong)

/-- 'groupagelaw06.AreaNear': WHATEVER THE INPUT: true; the input reads as it did. -/
def areaNearSpec : ChangeSpec := { name := "areaNear", fn := fun _ => fun
  | [d1, d2, d3] => { results := [.lit (.bool true)], args := [d1, d2, d3] }
  | _ => none }
def areaNearRow : OpenClaim := { program := "ytllffjgjmeibnaa", sum := "19790b37f4fbcdfe85dd83723eed75edb51cff45d6a5a7b1d3f57c7b9b2e3069", func := "groupage/groupagelaw06.AreaNear", spec := "areaNear", unfollowed := true, recurses := true, apart := false }
def AreaNearSaid : Prop := areaNearRow.holds Try.pinned (OpenSpec.ofChange areaNearSpec)

/-- ITS FALSE NEIGHBOUR: 'it returns false'. Refute it at one input. -/
def areaNearWrong : ChangeSpec := { name := "areaNear", fn := fun _ => fun
  | [d1, d2, d3] => { results := [.lit (.bool false)], args := [d1, d2, d3] }
  | _ => none }
def AreaNearWrongFalsely : Prop := areaNearRow.holds Try.pinned (OpenSpec.ofChange areaNearWrong)

/- THE SECOND FORM. 'bulk': how many values and letters a reading holds, each counted each time it is reached (what is shared counts as often as it is met; a slice's spare places count too). A statement '..UptoSaid' is the law's where the arguments, and the package variables that the reading takes, are together of bulk at most 1048576: NARROWER than '..Said'. Prove '..Said' where nothing that the law and all that it calls make is longer than what came in: it says more and counts as full. Else prove '..UptoSaid'. A law counts once. -/
mutual
def uptoBulk {H : Type} : DataW H → Nat
  | .lit (.string bytes) => bytes.length + 1
  | .lit _ => 1
  | .nil => 1
  | .ptr d => uptoBulk d + 1
  | .slice elems spare => uptoBulkAll elems + uptoBulkAll spare + 1
  | .agg parts => uptoBulkAll parts + 1
  | .iface _ d => uptoBulk d + 1
  | .map entries => uptoBulkEntries entries + 1
  | .held _ => 1
def uptoBulkAll {H : Type} : List (DataW H) → Nat
  | [] => 0
  | d :: r => uptoBulk d + uptoBulkAll r
def uptoBulkEntries {H : Type} : List (Lit × DataW H) → Nat
  | [] => 0
  | x :: r => uptoBulkEntry x + uptoBulkEntries r
def uptoBulkEntry {H : Type} : Lit × DataW H → Nat
  | (.string bytes, d) => bytes.length + uptoBulk d + 1
  | (_, d) => uptoBulk d + 1
 end
def uptoSmall : (H : Type) → List (DataW H) → Bool := fun _ ds => decide (uptoBulkAll ds ≤ 1048576)
def OpenSpec.upto (s : _root_.Go.ChangeSpec) : _root_.Go.OpenSpec := { _root_.Go.OpenSpec.ofChange s with cond := some uptoSmall }

/-- 'groupagelaw06.AreaTells', WHERE WHAT IT READS IS OF BULK AT MOST 1048576: true; the input reads as it did. -/
def areaTellsUptoRow : OpenClaim := { program := "ytllffjgjmeibnaa", sum := "19790b37f4fbcdfe85dd83723eed75edb51cff45d6a5a7b1d3f57c7b9b2e3069", func := "groupage/groupagelaw06.AreaTells", spec := "areaTells", unfollowed := true, recurses := true, apart := false, narrowed := true }
def AreaTellsUptoSaid : Prop := areaTellsUptoRow.holds Try.pinned (OpenSpec.upto areaTellsSpec)

/-- 'groupagelaw06.AreaParts', WHERE WHAT IT READS IS OF BULK AT MOST 1048576: true; the input reads as it did. -/
def areaPartsUptoRow : OpenClaim := { program := "ytllffjgjmeibnaa", sum := "19790b37f4fbcdfe85dd83723eed75edb51cff45d6a5a7b1d3f57c7b9b2e3069", func := "groupage/groupagelaw06.AreaParts", spec := "areaParts", unfollowed := true, recurses := true, apart := false, narrowed := true }
def AreaPartsUptoSaid : Prop := areaPartsUptoRow.holds Try.pinned (OpenSpec.upto areaPartsSpec)

/-- 'groupagelaw06.AreaNear', WHERE WHAT IT READS IS OF BULK AT MOST 1048576: true; the input reads as it did. -/
def areaNearUptoRow : OpenClaim := { program := "ytllffjgjmeibnaa", sum := "19790b37f4fbcdfe85dd83723eed75edb51cff45d6a5a7b1d3f57c7b9b2e3069", func := "groupage/groupagelaw06.AreaNear", spec := "areaNear", unfollowed := true, recurses := true, apart := false, narrowed := true }
def AreaNearUptoSaid : Prop := areaNearUptoRow.holds Try.pinned (OpenSpec.upto areaNearSpec)

end Rows
end Go.Proofs.Ytllffjgjmeibnaa
