/-
  No cell of these rows narrows 'for every input' (looked for: loops, veiled, ifaces, maps, wideKeys, modest, calm, conditions, laid).
  DERIVED. THE GIVEN ROWS OF THIS SEAT. 4 by the template 'for every input the law returns true; each argument reads behind the call as it read before'; 0 by the template 'total and deterministic' (their statements: YtgjmlnpfkmpfgaaGreatTotals.lean).
  GIVEN WITH THE SEED: the statements are not yours to turn. If you find one false, say at which input.
  Laid BY PROGRAM, IN A SANDBOX (cutbox-rows.mjs): the forced cells as the released guide's own fill.sh prints them over the translation 7d6430660ff4e58a… (all of the seat's roots in one cut). By AI agents, Wed Nov 11 2026. No macro, syntax, notation, axiom, sorry.
-/
import Derived.Test.YtgjmlnpfkmpfgaaGreatChecked
import GoSem.Claim
import GoSem.ClaimJoined
import GoSem.ClaimMapViews
import Derived.JoinedTies
import Derived.KernelRfl
namespace Go.Proofs.YtgjmlnpfkmpfgaaGreat
/- THE CELL 'sum', in the pinned program and in every row, IS THE sha256 OF THE DUMP (.gsa) THAT YtgjmlnpfkmpfgaaGreatProg.lean LOADS. Nothing in Lean hashes anything: it is a label: what it is worth is what the hold of that sum in a sandbox is worth. -/
noncomputable def Tryz.pinned : Pinned := { name := "ytgjmlnpfkmpfgaagreat", sum := "7d6430660ff4e58a2a90be2b7ba0a70534551829045ab122b715f3f9efe6d725", checked := Tryz.checked }
namespace Rows
def none {H : Type} : Left H := { results := [], args := [] }

/-- 'groupagelaw11.BetterMoves': WHATEVER THE INPUT: true; the input reads as it did. -/
def betterMovesSpec : ChangeSpec := { name := "betterMoves", fn := fun _ => fun
  | [d1, d2] => { results := [.lit (.bool true)], args := [d1, d2] }
  | _ => none }
def betterMovesRow : OpenClaim := { program := "ytgjmlnpfkmpfgaagreat", sum := "7d6430660ff4e58a2a90be2b7ba0a70534551829045ab122b715f3f9efe6d725", func := "groupage/groupagelaw11.BetterMoves", spec := "betterMoves", inPlace := ["slices.overlaps[int]"], unfollowed := true, recurses := true, apart := false }
def BetterMovesSaid : Prop := betterMovesRow.holds Tryz.pinned (OpenSpec.ofChange betterMovesSpec)

/-- ITS FALSE NEIGHBOUR: 'it returns false'. Refute it at one input. -/
def betterMovesWrong : ChangeSpec := { name := "betterMoves", fn := fun _ => fun
  | [d1, d2] => { results := [.lit (.bool false)], args := [d1, d2] }
  | _ => none }
def BetterMovesWrongFalsely : Prop := betterMovesRow.holds Tryz.pinned (OpenSpec.ofChange betterMovesWrong)

/-- 'groupagelaw11.BetterTells': WHATEVER THE INPUT: true; the input reads as it did. -/
def betterTellsSpec : ChangeSpec := { name := "betterTells", fn := fun _ => fun
  | [d1, d2, d3] => { results := [.lit (.bool true)], args := [d1, d2, d3] }
  | _ => none }
def betterTellsRow : OpenClaim := { program := "ytgjmlnpfkmpfgaagreat", sum := "7d6430660ff4e58a2a90be2b7ba0a70534551829045ab122b715f3f9efe6d725", func := "groupage/groupagelaw11.BetterTells", spec := "betterTells", inPlace := ["slices.overlaps[int]"], unfollowed := true, recurses := true, apart := false }
def BetterTellsSaid : Prop := betterTellsRow.holds Tryz.pinned (OpenSpec.ofChange betterTellsSpec)

/-- ITS FALSE NEIGHBOUR: 'it returns false'. Refute it at one input. -/
def betterTellsWrong : ChangeSpec := { name := "betterTells", fn := fun _ => fun
  | [d1, d2, d3] => { results := [.lit (.bool false)], args := [d1, d2, d3] }
  | _ => none }
def BetterTellsWrongFalsely : Prop := betterTellsRow.holds Tryz.pinned (OpenSpec.ofChange betterTellsWrong)

/-- 'groupagelaw11.BetterNot': WHATEVER THE INPUT: true; the input reads as it did. -/
def betterNotSpec : ChangeSpec := { name := "betterNot", fn := fun _ => fun
  | [d1, d2, d3, d4] => { results := [.lit (.bool true)], args := [d1, d2, d3, d4] }
  | _ => none }
def betterNotRow : OpenClaim := { program := "ytgjmlnpfkmpfgaagreat", sum := "7d6430660ff4e58a2a90be2b7ba0a70534551829045ab122b715f3f9efe6d725", func := "groupage/groupagelaw11.BetterNot", spec := "betterNot", inPlace := ["slices.overlaps[int]"], unfollowed := true, recurses := true, apart := false }
def BetterNotSaid : Prop := betterNotRow.holds Tryz.pinned (OpenSpec.ofChange betterNotSpec)

/-- ITS FALSE NEIGHBOUR: 'it returns false'. Refute it at one input. -/
def betterNotWrong : ChangeSpec := { name := "betterNot", fn := fun _ => fun
  | [d1, d2, d3, d4] => { results := [.lit (.bool false)], args := [d1, d2, d3, d4] }
  | _ => none }
def BetterNotWrongFalsely : Prop := betterNotRow.holds Tryz.pinned (OpenSpec.ofChange betterNotWrong)

/-- 'groupagelaw11.BetterOwn': WHATEVER THE INPUT: true; the input reads as it did. -/
def betterOwnSpec : ChangeSpec := { name := "betterOwn", fn := fun _ => fun
  | [d1, d2] => { results := [.lit (.bool true)], args := [d1, d2] }
  | _ => none }
def betterOwnRow : OpenClaim := { program := "ytgjmlnpfkmpfgaagreat", sum := "7d6430660ff4e58a2a90be2b7ba0a70534551829045ab122b715f3f9efe6d725", func := "groupage/groupagelaw11.BetterOwn", spec := "betterOwn", inPlace := ["slices.overlaps[int]"], unfollowed := true, recurses := true, apart := false }
def BetterOwnSaid : Prop := betterOwnRow.holds Tryz.pinned (OpenSpec.ofChange betterOwnSpec)

/-- ITS FALSE NEIGHBOUR: 'it returns false'. Refute it at one input. -/
def betterOwnWrong : ChangeSpec := { name := "betterOwn", fn := fun _ => fun
  | [d1, d2] => { results := [.lit (.bool false)], args := [d1, d2] }
  | _ => none }
def BetterOwnWrongFalsely : Prop := betterOwnRow.holds Tryz.pinned (OpenSpec.ofChange betterOwnWrong)

/- THE SECOND FORM. 'bulk': how many values and letters a reading holds, each counted each time it is reached (what is shared counts as often as it is met; a slice's spare places count too). A statement '..UptoSaid' is the law's where the arguments, and the package variables that the reading takes, are together of bulk at most 1048576: NARROWER than '..Said'. Prove '..Said' where nothing that the law and all that it calls make is longer than what came in: it says more and counts as full. Else prove '..UptoSaid'. A law counts once. -/
mutual
def uptoBulk {H : Type} : DataW H → Nat
  | .lit (.string bytes) => bytes.length + 1
  | .lit _ => 1
  | .nil => 1
  | .ptr d => uptoBulk d + 1
  | .slice elems spare => uptoBulkAll elems + uptoBulkAll spare + 1
  | .agg parts => uptoBulkAll parts + 1
  | .iface _ d => uptoBulk d + 1
  | .map entries => uptoBulkEntries entries + 1
  | .held _ => 1
def uptoBulkAll {H : Type} : List (DataW H) → Nat
  | [] => 0
  | d :: r => uptoBulk d + uptoBulkAll r
def uptoBulkEntries {H : Type} : List (Lit × DataW H) → Nat
  | [] => 0
  | x :: r => uptoBulkEntry x + uptoBulkEntries r
def uptoBulkEntry {H : Type} : Lit × DataW H → Nat
  | (.string bytes, d) => bytes.length + uptoBulk d + 1
  | (_, d) => uptoBulk d + 1
 end
def uptoSmall : (H : Type) → List (DataW H) → Bool := fun _ ds => decide (uptoBulkAll ds ≤ 1048576)
def OpenSpec.upto (s : _root_.Go.ChangeSpec) : _root_.Go.OpenSpec := { _root_.Go.OpenSpec.ofChange s with cond := some uptoSmall }

/-- 'groupagelaw11.BetterMoves', WHERE WHAT IT READS IS OF BULK AT MOST 1048576: true; the input reads as it did. -/
def betterMovesUptoRow : OpenClaim := { program := "ytgjmlnpfkmpfgaagreat", sum := "7d6430660ff4e58a2a90be2b7ba0a70534551829045ab122b715f3f9efe6d725", func := "groupage/groupagelaw11.BetterMoves", spec := "betterMoves", inPlace := ["slices.overlaps[int]"], unfollowed := true, recurses := true, apart := false, narrowed := true }
def BetterMovesUptoSaid : Prop := betterMovesUptoRow.holds Tryz.pinned (OpenSpec.upto betterMovesSpec)

/-- 'groupagelaw11.BetterTells', WHERE WHAT IT READS IS OF BULK AT MOST 1048576: true; the input reads as it did. -/
def betterTellsUptoRow : OpenClaim := { program := "ytgjmlnpfkmpfgaagreat", sum := "7d6430660ff4e58a2a90be2b7ba0a70534551829045ab122b715f3f9efe6d725", func := "groupage/groupagelaw11.BetterTells", spec := "betterTells", inPlace := ["slices.overlaps[int]"], unfollowed := true, recurses := true, apart := false, narrowed := true }
def BetterTellsUptoSaid : Prop := betterTellsUptoRow.holds Tryz.pinned (OpenSpec.upto betterTellsSpec)

/-- 'groupagelaw11.BetterNot', WHERE WHAT IT READS IS OF BULK AT MOST 1048576: true; the input reads as it did. -/
def betterNotUptoRow : OpenClaim := { program := "ytgjmlnpfkmpfgaagreat", sum := "7d6430660ff4e58a2a90be2b7ba0a70534551829045ab122b715f3f9efe6d725", func := "groupage/groupagelaw11.BetterNot", spec := "betterNot", inPlace := ["slices.overlaps[int]"], unfollowed := true, recurses := true, apart := false, narrowed := true }
def BetterNotUptoSaid : Prop := betterNotUptoRow.holds Tryz.pinned (OpenSpec.upto betterNotSpec)

/-- 'groupagelaw11.BetterOwn', WHERE WHAT IT READS IS OF BULK AT MOST 1048576: true; the input reads as it did. -/
def betterOwnUptoRow : OpenClaim := { program := "ytgjmlnpfkmpfgaagreat", sum := "7d6430660ff4e58a2a90be2b7ba0a70534551829045ab122b715f3f9efe6d725", func := "groupage/groupagelaw11.BetterOwn", spec := "betterOwn", inPlace := ["slices.overlaps[int]"], unfollowed := true, recurses := true, apart := false, narrowed := true }
def BetterOwnUptoSaid : Prop := betterOwnUptoRow.holds Tryz.pinned (OpenSpec.upto betterOwnSpec)

end Rows
end Go.Proofs.YtgjmlnpfkmpfgaaGreat
