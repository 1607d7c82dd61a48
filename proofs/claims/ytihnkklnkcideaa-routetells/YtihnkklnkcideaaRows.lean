/-
  No cell of these rows narrows 'for every input' (looked for: loops, veiled, ifaces, maps, wideKeys, modest, calm, conditions, laid).
  DERIVED. THE GIVEN ROWS OF THIS SEAT. 4 by the template 'for every input the law returns true; each argument reads behind the call as it read before'; 0 by the template 'total and deterministic' (their statements: YtihnkklnkcideaaTotals.lean).
  GIVEN WITH THE SEED: the statements are not yours to turn. If you find one false, say at which input.
  Laid BY PROGRAM, IN A SANDBOX (cutbox-rows.mjs): the forced cells as the released guide's own fill.sh prints them over the translation 8da3d2db444bb281… (all of the seat's roots in one cut). By AI agents, Wed Nov 11 2026. No macro, syntax, notation, axiom, sorry.
-/
import Derived.Test.YtihnkklnkcideaaChecked
import GoSem.Claim
import GoSem.ClaimJoined
import GoSem.ClaimMapViews
import Derived.JoinedTies
import Derived.KernelRfl
namespace Go.Proofs.Ytihnkklnkcideaa
/- THE CELL 'sum', in the pinned program and in every row, IS THE sha256 OF THE DUMP (.gsa) THAT YtihnkklnkcideaaProg.lean LOADS. Nothing in Lean hashes anything: it is a label: what it is worth is what the hold of that sum in a sandbox is worth. -/
noncomputable def Try.pinned : Pinned := { name := "ytihnkklnkcideaa", sum := "8da3d2db444bb2813c36587173afaec13bab61854a5e55d11b45dc77ad1106d8", checked := Try.checked }
namespace Rows
def none {H : Type} : Left H := { results := [], args := [] }

/-- 'groupagelaw08.RouteTells': WHATEVER THE INPUT: true; the input reads as it did. -/
def routeTellsSpec : ChangeSpec := { name := "routeTells", fn := fun _ => fun
  | [d1, d2] => { results := [.lit (.bool true)], args := [d1, d2] }
  | _ => none }
def routeTellsRow : OpenClaim := { program := "ytihnkklnkcideaa", sum := "8da3d2db444bb2813c36587173afaec13bab61854a5e55d11b45dc77ad1106d8", func := "groupage/groupagelaw08.RouteTells", spec := "routeTells", unfollowed := true, recurses := true, apart := false }
def RouteTellsSaid : Prop := routeTellsRow.holds Try.pinned (OpenSpec.ofChange routeTellsSpec)

/-- ITS FALSE NEIGHBOUR: 'it returns false'. Refute it at one input. -/
def routeTellsWrong : ChangeSpec := { name := "routeTells", fn := fun _ => fun
  | [d1, d2] => { results := [.lit (.bool false)], args := [d1, d2] }
  | _ => none }
def RouteTellsWrongFalsely : Prop := routeTellsRow.holds Try.pinned (OpenSpec.ofChange routeTellsWrong)

/-- 'groupagelaw08.RouteEarly': WHATEVER THE INPUT: true; the input reads as it did. -/
def routeEarlySpec : ChangeSpec := { name := "routeEarly", fn := fun _ => fun
  | [d1, d2, d3, d4] => { results := [.lit (.bool true)], args := [d1, d2, d3, d4] }
  | _ => none }
def routeEarlyRow : OpenClaim := { program := "ytihnkklnkcideaa", sum := "8da3d2db444bb2813c36587173afaec13bab61854a5e55d11b45dc77ad1106d8", func := "groupage/groupagelaw08.RouteEarly", spec := "routeEarly", unfollowed := true, recurses := true, apart := false }
def RouteEarlySaid : Prop := routeEarlyRow.holds Try.pinned (OpenSpec.ofChange routeEarlySpec)

/-- ITS FALSE NEIGHBOUR: 'it returns false'. Refute it at one input. -/
def routeEarlyWrong : ChangeSpec := { name := "routeEarly", fn := fun _ => fun
  | [d1, d2, d3, d4] => { results := [.lit (.bool false)], args := [d1, d2, d3, d4] }
  | _ => none }
def RouteEarlyWrongFalsely : Prop := routeEarlyRow.holds Try.pinned (OpenSpec.ofChange routeEarlyWrong)

/-- 'groupagelaw08.RouteHolds': WHATEVER THE INPUT: true; the input reads as it did. -/
def routeHoldsSpec : ChangeSpec := { name := "routeHolds", fn := fun _ => fun
  | [d1, d2] => { results := [.lit (.bool true)], args := [d1, d2] }
  | _ => none }
def routeHoldsRow : OpenClaim := { program := "ytihnkklnkcideaa", sum := "8da3d2db444bb2813c36587173afaec13bab61854a5e55d11b45dc77ad1106d8", func := "groupage/groupagelaw08.RouteHolds", spec := "routeHolds", unfollowed := true, recurses := true, apart := false }
def RouteHoldsSaid : Prop := routeHoldsRow.holds Try.pinned (OpenSpec.ofChange routeHoldsSpec)

/-- ITS FALSE NEIGHBOUR: 'it returns false'. Refute it at one input. -/
def routeHoldsWrong : ChangeSpec := { name := "routeHolds", fn := fun _ => fun
  | [d1, d2] => { results := [.lit (.bool false)], args := [d1, d2] }
  | _ => none }
def RouteHoldsWrongFalsely : Prop := routeHoldsRow.holds Try.pinned (OpenSpec.ofChange routeHoldsWrong)

/-- 'groupagelaw08.RouteFirst': WHATEVER THE INPUT: true; the input reads as it did. -/
def routeFirstSpec : ChangeSpec := { name := "routeFirst", fn := fun _ => fun
  | [d1, d2, d3] => { results := [.lit (.bool true)], args := [d1, d2, d3] }
  | _ => none }
def routeFirstRow : OpenClaim := { program := "ytihnkklnkcideaa", sum := "8da3d2db444bb2813c36587173afaec13bab61854a5e55d11b45dc77ad1106d8", func := "groupage/groupagelaw08.RouteFirst", spec := "routeFirst", unfollowed := true, recurses := true, apart := false }
def RouteFirstSaid : Prop := routeFirstRow.holds Try.pinned (OpenSpec.ofChange routeFirstSpec)

/-- ITS FALSE NEIGHBOUR: 'it returns false'. Refute it at one input. -/
def routeFirstWrong : ChangeSpec := { name := "routeFirst", fn := fun _ => fun
  | [d1, d2, d3] => { results := [.lit (.bool false)], args := [d1, d2, d3] }
  | _ => none }
def RouteFirstWrongFalsely : Prop := routeFirstRow.holds Try.pinned (OpenSpec.ofChange routeFirstWrong)

/- THE SECOND FORM. 'bulk': how many values and letters a reading holds, each counted each time it is reached (what is shared counts as often as it is met; a slice's spare places count too). A statement '..UptoSaid' is the law's where the arguments, and the package variables that the reading takes, are together of bulk at most 1048576: NARROWER than '..Said'. Prove '..Said' where nothing that the law and all that it calls make is longer than what came in: it says more and counts as full. Else prove '..UptoSaid'. A law counts once. -/
mutual
def uptoBulk {H : Type} : DataW H → Nat
  | .lit (.string bytes) => bytes.length + 1
  | .lit _ => 1
  | .nil => 1
  | .ptr d => uptoBulk d + 1
  | .slice elems spare => uptoBulkAll elems + uptoBulkAll spare + 1
  | .agg parts => uptoBulkAll parts + 1
  | .iface _ d => uptoBulk d + 1
  | .map entries => uptoBulkEntries entries + 1
  | .held _ => 1
def uptoBulkAll {H : Type} : List (DataW H) → Nat
  | [] => 0
  | d :: r => uptoBulk d + uptoBulkAll r
def uptoBulkEntries {H : Type} : List (Lit × DataW H) → Nat
  | [] => 0
  | x :: r => uptoBulkEntry x + uptoBulkEntries r
def uptoBulkEntry {H : Type} : Lit × DataW H → Nat
  | (.string bytes, d) => bytes.length + uptoBulk d + 1
  | (_, d) => uptoBulk d + 1
 end
def uptoSmall : (H : Type) → List (DataW H) → Bool := fun _ ds => decide (uptoBulkAll ds ≤ 1048576)
def OpenSpec.upto (s : _root_.Go.ChangeSpec) : _root_.Go.OpenSpec := { _root_.Go.OpenSpec.ofChange s with cond := some uptoSmall }

/-- 'groupagelaw08.RouteTells', WHERE WHAT IT READS IS OF BULK AT MOST 1048576: true; the input reads as it did. -/
def routeTellsUptoRow : OpenClaim := { program := "ytihnkklnkcideaa", sum := "8da3d2db444bb2813c36587173afaec13bab61854a5e55d11b45dc77ad1106d8", func := "groupage/groupagelaw08.RouteTells", spec := "routeTells", unfollowed := true, recurses := true, apart := false, narrowed := true }
def RouteTellsUptoSaid : Prop := routeTellsUptoRow.holds Try.pinned (OpenSpec.upto routeTellsSpec)

/-- 'groupagelaw08.RouteEarly', WHERE WHAT IT READS IS OF BULK AT MOST 1048576: true; the input reads as it did. -/
def routeEarlyUptoRow : OpenClaim := { program := "ytihnkklnkcideaa", sum := "8da3d2db444bb2813c36587173afaec13bab61854a5e55d11b45dc77ad1106d8", func := "groupage/groupagelaw08.RouteEarly", spec := "routeEarly", unfollowed := true, recurses := true, apart := false, narrowed := true }
def RouteEarlyUptoSaid : Prop := routeEarlyUptoRow.holds Try.pinned (OpenSpec.upto routeEarlySpec)

/-- 'groupagelaw08.RouteHolds', WHERE WHAT IT READS IS OF BULK AT MOST 1048576: true; the input reads as it did. -/
def routeHoldsUptoRow : OpenClaim := { program := "ytihnkklnkcideaa", sum := "8da3d2db444bb2813c36587173afaec13bab61854a5e55d11b45dc77ad1106d8", func := "groupage/groupagelaw08.RouteHolds", spec := "routeHolds", unfollowed := true, recurses := true, apart := false, narrowed := true }
def RouteHoldsUptoSaid : Prop := routeHoldsUptoRow.holds Try.pinned (OpenSpec.upto routeHoldsSpec)

/-- 'groupagelaw08.RouteFirst', WHERE WHAT IT READS IS OF BULK AT MOST 1048576: true; the input reads as it did. -/
def routeFirstUptoRow : OpenClaim := { program := "ytihnkklnkcideaa", sum := "8da3d2db444bb2813c36587173afaec13bab61854a5e55d11b45dc77ad1106d8", func := "groupage/groupagelaw08.RouteFirst", spec := "routeFirst", unfollowed := true, recurses := true, apart := false, narrowed := true }
def RouteFirstUptoSaid : Prop := routeFirstUptoRow.holds Try.pinned (OpenSpec.upto routeFirstSpec)

end Rows
end Go.Proofs.Ytihnkklnkcideaa
