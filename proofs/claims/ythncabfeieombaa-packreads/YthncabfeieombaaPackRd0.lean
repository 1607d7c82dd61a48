/- Contract: the document's answer reads values. -/
import Derived.Test.YthncabfeieombaaPackRt
import Derived.Test.YthncabfeieombaaPackRw
namespace Go.Proofs.Ythncabfeieombaa
open Go.RowKit

/-- what the document's Read tells -/
def RAllPost (x : Nat × List Pk.V) (w : World) (e : Ending) (w' : World) : Prop :=
  ∃ v, e = .returned (.tuple #[v, .int .i64 (x.1 : Int)]) ∧ w'.ownsRow w.heap.size 51 2 v x.2.length (vcs x.2) ∧ Below w.heap.size w w'

theorem size5 (W : World) : (sizeOf (Try.prog.elem 25)).run Try.prog W = .ok 1 W := by kernel_rfl

theorem slice_piece (A : Option Addr) (n c p m : Nat) (l : Pk.Bs) (hn : l.length = n) (hnc : n ≤ c) (hle : p + m ≤ n) :
    ∃ A' c', (∀ W : World, (Instr.slice 25 (.slice A n c) (some (.int .i64 (p : Int))) (some (.int .i64 ((p : Int) + (m : Int)))) none).run Try.prog W = .ok (.slice A' m c') W) ∧
      ∀ W B, BytesIn W B A l → BytesIn W B A' ((l.drop p).take m) := by
  refine ⟨if c = p then A else A.map (·.add p), c - p, fun W => ?_, fun W B h => (BytesIn.cut h p (by omega)).front m⟩
  rw [run_slice_lh W 25 A n c (by kernel_rfl) .i64 .i64 _ _ (by omega) (by omega) (by omega), size5 W]
  have e1 : ((p : Int) + (m : Int)).toNat = p + m := by omega
  simp [sliced, Result.andThen, e1]

theorem CellsIn.on2 {w W : World} {g : Nat} {A : Option Addr} {xs : List Value} (h : CellsIn w g A xs) (hb : Below g w W) (hg : w.heap.size = g) : CellsIn W W.heap.size A xs := (h.below hb (Nat.le_refl _)).more (by have := hb.size; omega)

end Go.Proofs.Ythncabfeieombaa
