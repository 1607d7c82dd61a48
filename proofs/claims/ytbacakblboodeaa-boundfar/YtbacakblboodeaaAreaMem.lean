/- What of memory a call of package area leans on: rows of numbers that lie there. -/
import Derived.Test.YtbacakblboodeaaProg
import Derived.Test.YtbacakblboodeaaMaths
import Derived.WalkKit
import Derived.WalkSpells
import Derived.WalkLawsBesides
import Derived.Lib.Hide
import Derived.IntWalk
import Derived.Maps.AppendAt
import Derived.Deep.AppendLies
import Derived.StillTailTactics
import Derived.Deep.LoopGhost
import Derived.Deep.QuietTactic
import Derived.BigQuiet
import Derived.Deep.RegionHeld3
import Derived.Deep.DrawnRows
namespace Go.Proofs.Ytbacakblboodeaa
open Go.RowKit
set_option linter.unusedVariables false

/-- these numbers lie from that address on -/
def IntsAt (w : World) (A : Option Addr) (zs : List Int) : Prop :=
  ∀ (k : Nat) (z : Int), zs[k]? = some z → ∃ ad, A = some ad ∧ w.cell? (ad.add k) = some (.int .i64 z)

theorem IntsAt.nil (w : World) (A : Option Addr) : IntsAt w A [] := fun k z h => by simp at h
theorem lt_of_cell {w : World} {p : Addr} {v : Value} (h : w.cell? p = some v) : p.block < w.heap.size := World.block_lt_of_cell? w p h
theorem IntsAt.below {w w' : World} {A : Option Addr} {zs : List Int} (h : IntsAt w A zs) (hb : Below w.heap.size w w') : IntsAt w' A zs := by
  intro k z hz
  obtain ⟨ad, e, hc⟩ := h k z hz
  exact ⟨ad, e, by rw [hb.cell (p := ad.add k) (lt_of_cell hc)]; exact hc⟩
theorem IntsAt.drew {w : World} {A : Option Addr} {zs : List Int} (h : IntsAt w A zs) : IntsAt w.drew A zs := h
theorem IntsAt.alloc {w : World} {A : Option Addr} {zs : List Int} (h : IntsAt w A zs) (o : Obj) : IntsAt (w.alloc o) A zs := h.below ((Below.refl _ _).alloc (Nat.le_refl _) o)
theorem below_next {w W W' : World} (h : Below w.heap.size w W) (k : Below W.heap.size W W') : Below w.heap.size w W' := h.trans (k.mono h.size)
theorem below_alloc (w : World) (o : Obj) : Below w.heap.size w (w.alloc o) := (Below.refl _ _).alloc (Nat.le_refl _) o
theorem below_box {w W : World} {o : Obj} (h : Below (w.alloc o).heap.size (w.alloc o) W) : Below w.heap.size w W := below_next (below_alloc w o) h
theorem heap_new (w : World) (cs : Array Value) (t : TypeId) : (w.alloc (.cells cs t)).heap[w.heap.size]? = some (.cells cs t (0, 0)) := heap_alloc_new w _

/-- a block known whole -/
def Box (w : World) (b : Nat) (cs : Array Value) (t : TypeId) : Prop := w.heap[b]? = some (.cells cs t (0, 0))
theorem Box.new (w : World) (cs : Array Value) (t : TypeId) : Box (w.alloc (.cells cs t)) w.heap.size cs t := heap_new w cs t
theorem Box.lt {w : World} {b : Nat} {cs : Array Value} {t : TypeId} (h : Box w b cs t) : b < w.heap.size := (Array.getElem?_eq_some_iff.1 h).1
theorem Box.below {w w' : World} {b : Nat} {cs : Array Value} {t : TypeId} (h : Box w b cs t) (hb : Below w.heap.size w w') : Box w' b cs t := (hb.block b h.lt).trans h
theorem Box.cell {w : World} {b : Nat} {cs : Array Value} {t : TypeId} (h : Box w b cs t) (k : Nat) (v : Value) (hv : cs[k]? = some v) : w.cell? ⟨b, k, none⟩ = some v := by rw [cell_of_row w b k _ _ _ h]; exact hv
theorem box_ints {w : World} {b : Nat} {zs : List Int} {t : TypeId} {cs : Array Value} (h : Box w b cs t) (hc : cs = (zs.map (Value.int .i64)).toArray) : IntsAt w (some ⟨b, 0, none⟩) zs := by
  intro k z hz
  refine ⟨_, rfl, ?_⟩
  rw [Addr.add_mid, Nat.zero_add, h.cell k (.int .i64 z) (by rw [hc]; simp [hz])]
end Go.Proofs.Ytbacakblboodeaa
