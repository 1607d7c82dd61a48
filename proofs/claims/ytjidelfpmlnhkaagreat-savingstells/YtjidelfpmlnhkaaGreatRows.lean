/-
  No cell of these rows narrows 'for every input' (looked for: loops, veiled, ifaces, maps, wideKeys, modest, calm, conditions, laid).
  DERIVED. THE GIVEN ROWS OF THIS SEAT. 4 by the template 'for every input the law returns true; each argument reads behind the call as it read before'; 0 by the template 'total and deterministic' (their statements: YtjidelfpmlnhkaaGreatTotals.lean).
  GIVEN WITH THE SEED: the statements are not yours to turn. If you find one false, say at which input.
  Laid BY PROGRAM, IN A SANDBOX (cutbox-rows.mjs): the forced cells as the released guide's own fill.sh prints them over the translation caa5ef4becbfcc8f… (all of the seat's roots in one cut). By AI agents, Wed Nov 11 2026. No macro, syntax, notation, axiom, sorry.
-/
import Derived.Test.YtjidelfpmlnhkaaGreatChecked
import GoSem.Claim
import GoSem.ClaimJoined
import GoSem.ClaimMapViews
import Derived.JoinedTies
import Derived.KernelRfl
namespace Go.Proofs.YtjidelfpmlnhkaaGreat
/- THE CELL 'sum', in the pinned program and in every row, IS THE sha256 OF THE DUMP (.gsa) THAT YtjidelfpmlnhkaaGreatProg.lean LOADS. Nothing in Lean hashes anything: it is a label: what it is worth is what the hold of that sum in a sandbox is worth. -/
noncomputable def Tryz.pinned : Pinned := { name := "ytjidelfpmlnhkaagreat", sum := "caa5ef4becbfcc8f509daf356cf42cf553b03ccff9491ed1e62c5fe76026cb2b", checked := Tryz.checked }
namespace Rows
def none {H : Type} : Left H := { results := [], args := [] }

/-- 'groupagelaw10.SavingsTells': WHATEVER THE INPUT: true; the input reads as it did. -/
def savingsTellsSpec : ChangeSpec := { name := "savingsTells", fn := fun _ => fun
  | [d1, d2, d3] => { results := [.lit (.bool true)], args := [d1, d2, d3] }
  | _ => none }
def savingsTellsRow : OpenClaim := { program := "ytjidelfpmlnhkaagreat", sum := "caa5ef4becbfcc8f509daf356cf42cf553b03ccff9491ed1e62c5fe76026cb2b", func := "groupage/groupagelaw10.SavingsTells", spec := "savingsTells", unfollowed := true, recurses := true, apart := false }
def SavingsTellsSaid : Prop := savingsTellsRow.holds Tryz.pinned (OpenSpec.ofChange savingsTellsSpec)

/-- ITS FALSE NEIGHBOUR: 'it returns false'. Refute it at one input. -/
def savingsTellsWrong : ChangeSpec := { name := "savingsTells", fn := fun _ => fun
  | [d1, d2, d3] => { results := [.lit (.bool false)], args := [d1, d2, d3] }
  | _ => none }
def SavingsTellsWrongFalsely : Prop := savingsTellsRow.holds Tryz.pinned (OpenSpec.ofChange savingsTellsWrong)

/-- 'groupagelaw10.SavingsMay': WHATEVER THE INPUT: true; the input reads as it did. -/
def savingsMaySpec : ChangeSpec := { name := "savingsMay", fn := fun _ => fun
  | [d] => { results := [.lit (.bool true)], args := [d] }
  | _ => none }
def savingsMayRow : OpenClaim := { program := "ytjidelfpmlnhkaagreat", sum := "caa5ef4becbfcc8f509daf356cf42cf553b03ccff9491ed1e62c5fe76026cb2b", func := "groupage/groupagelaw10.SavingsMay", spec := "savingsMay", unfollowed := true, recurses := true, apart := false }
def SavingsMaySaid : Prop := savingsMayRow.holds Tryz.pinned (OpenSpec.ofChange savingsMaySpec)

/-- ITS FALSE NEIGHBOUR: 'it returns false'. Refute it at one input. -/
def savingsMayWrong : ChangeSpec := { name := "savingsMay", fn := fun _ => fun
  | [d] => { results := [.lit (.bool false)], args := [d] }
  | _ => none }
def SavingsMayWrongFalsely : Prop := savingsMayRow.holds Tryz.pinned (OpenSpec.ofChange savingsMayWrong)

/-- 'groupagelaw10.SavingsRows': WHATEVER THE INPUT: true; the input reads as it did. -/
def savingsRowsSpec : ChangeSpec := { name := "savingsRows", fn := fun _ => fun
  | [d] => { results := [.lit (.bool true)], args := [d] }
  | _ => none }
def savingsRowsRow : OpenClaim := { program := "ytjidelfpmlnhkaagreat", sum := "caa5ef4becbfcc8f509daf356cf42cf553b03ccff9491ed1e62c5fe76026cb2b", func := "groupage/groupagelaw10.SavingsRows", spec := "savingsRows", unfollowed := true, recurses := true, apart := false }
def SavingsRowsSaid : Prop := savingsRowsRow.holds Tryz.pinned (OpenSpec.ofChange savingsRowsSpec)

/-- ITS FALSE NEIGHBOUR: 'it returns false'. Refute it at one input. -/
def savingsRowsWrong : ChangeSpec := { name := "savingsRows", fn := fun _ => fun
  | [d] => { results := [.lit (.bool false)], args := [d] }
  | _ => none }
def SavingsRowsWrongFalsely : Prop := savingsRowsRow.holds Tryz.pinned (OpenSpec.ofChange savingsRowsWrong)

/-- 'groupagelaw10.SavingsSums': WHATEVER THE INPUT: true; the input reads as it did. -/
def savingsSumsSpec : ChangeSpec := { name := "savingsSums", fn := fun _ => fun
  | [d1, d2, d3, d4] => { results := [.lit (.bool true)], args := [d1, d2, d3, d4] }
  | _ => none }
def savingsSumsRow : OpenClaim := { program := "ytjidelfpmlnhkaagreat", sum := "caa5ef4becbfcc8f509daf356cf42cf553b03ccff9491ed1e62c5fe76026cb2b", func := "groupage/groupagelaw10.SavingsSums", spec := "savingsSums", unfollowed := true, recurses := true, apart := false }
def SavingsSumsSaid : Prop := savingsSumsRow.holds Tryz.pinned (OpenSpec.ofChange savingsSumsSpec)

/-- ITS FALSE NEIGHBOUR: 'it returns false'. Refute it at one input. -/
def savingsSumsWrong : ChangeSpec := { name := "savingsSums", fn := fun _ => fun
  | [d1, d2, d3, d4] => { results := [.lit (.bool false)], args := [d1, d2, d3, d4] }
  | _ => none }
def SavingsSumsWrongFalsely : Prop := savingsSumsRow.holds Tryz.pinned (OpenSpec.ofChange savingsSumsWrong)

/- THE SECOND FORM. 'bulk': how many values and letters a reading holds, each counted each time it is reached (what is shared counts as often as it is met; a slice's spare places count too). A statement '..UptoSaid' is the law's where the arguments, and the package variables that the reading takes, are together of bulk at most 1048576: NARROWER than '..Said'. Prove '..Said' where nothing that the law and all that it calls make is longer than what came in: it says more and counts as full. Else prove '..UptoSaid'. A law counts once. -/
mutual
def uptoBulk {H : Type} : DataW H → Nat
  | .lit (.string bytes) => bytes.length + 1
  | .lit _ => 1
  | .nil => 1
  | .ptr d => uptoBulk d + 1
  | .slice elems spare => uptoBulkAll elems + uptoBulkAll spare + 1
  | .agg parts => uptoBulkAll parts + 1
  | .iface _ d => uptoBulk d + 1
  | .map entries => uptoBulkEntries entries + 1
  | .held _ => 1
def uptoBulkAll {H : Type} : List (DataW H) → Nat
  | [] => 0
  | d :: r => uptoBulk d + uptoBulkAll r
def uptoBulkEntries {H : Type} : List (Lit × DataW H) → Nat
  | [] => 0
  | x :: r => uptoBulkEntry x + uptoBulkEntries r
def uptoBulkEntry {H : Type} : Lit × DataW H → Nat
  | (.string bytes, d) => bytes.length + uptoBulk d + 1
  | (_, d) => uptoBulk d + 1
 end
def uptoSmall : (H : Type) → List (DataW H) → Bool := fun _ ds => decide (uptoBulkAll ds ≤ 1048576)
def OpenSpec.upto (s : _root_.Go.ChangeSpec) : _root_.Go.OpenSpec := { _root_.Go.OpenSpec.ofChange s with cond := some uptoSmall }

/-- 'groupagelaw10.SavingsTells', WHERE WHAT IT READS IS OF BULK AT MOST 1048576: true; the input reads as it did. -/
def savingsTellsUptoRow : OpenClaim := { program := "ytjidelfpmlnhkaagreat", sum := "caa5ef4becbfcc8f509daf356cf42cf553b03ccff9491ed1e62c5fe76026cb2b", func := "groupage/groupagelaw10.SavingsTells", spec := "savingsTells", unfollowed := true, recurses := true, apart := false, narrowed := true }
def SavingsTellsUptoSaid : Prop := savingsTellsUptoRow.holds Tryz.pinned (OpenSpec.upto savingsTellsSpec)

/-- 'groupagelaw10.SavingsMay', WHERE WHAT IT READS IS OF BULK AT MOST 1048576: true; the input reads as it did. -/
def savingsMayUptoRow : OpenClaim := { program := "ytjidelfpmlnhkaagreat", sum := "caa5ef4becbfcc8f509daf356cf42cf553b03ccff9491ed1e62c5fe76026cb2b", func := "groupage/groupagelaw10.SavingsMay", spec := "savingsMay", unfollowed := true, recurses := true, apart := false, narrowed := true }
def SavingsMayUptoSaid : Prop := savingsMayUptoRow.holds Tryz.pinned (OpenSpec.upto savingsMaySpec)

/-- 'groupagelaw10.SavingsRows', WHERE WHAT IT READS IS OF BULK AT MOST 1048576: true; the input reads as it did. -/
def savingsRowsUptoRow : OpenClaim := { program := "ytjidelfpmlnhkaagreat", sum := "caa5ef4becbfcc8f509daf356cf42cf553b03ccff9491ed1e62c5fe76026cb2b", func := "groupage/groupagelaw10.SavingsRows", spec := "savingsRows", unfollowed := true, recurses := true, apart := false, narrowed := true }
def SavingsRowsUptoSaid : Prop := savingsRowsUptoRow.holds Tryz.pinned (OpenSpec.upto savingsRowsSpec)

/-- 'groupagelaw10.SavingsSums', WHERE WHAT IT READS IS OF BULK AT MOST 1048576: true; the input reads as it did. -/
def savingsSumsUptoRow : OpenClaim := { program := "ytjidelfpmlnhkaagreat", sum := "caa5ef4becbfcc8f509daf356cf42cf553b03ccff9491ed1e62c5fe76026cb2b", func := "groupage/groupagelaw10.SavingsSums", spec := "savingsSums", unfollowed := true, recurses := true, apart := false, narrowed := true }
def SavingsSumsUptoSaid : Prop := savingsSumsUptoRow.holds Tryz.pinned (OpenSpec.upto savingsSumsSpec)

end Rows
end Go.Proofs.YtjidelfpmlnhkaaGreat
