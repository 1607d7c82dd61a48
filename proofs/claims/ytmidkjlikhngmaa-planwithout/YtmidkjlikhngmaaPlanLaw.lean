/- What the laws of package plan share: the list of plans that large is asked about, boxes of plans. -/
import Derived.Test.YtmidkjlikhngmaaPlanAw
namespace Go.Proofs.Ytmidkjlikhngmaa
open Go.RowKit
set_option linter.unusedVariables false
set_option maxRecDepth 100000

def pCells (ps : List Pd) : List Value := ps.flatMap fun p => [.slice p.rA p.rm p.rc, .slice p.uA p.um p.uc]
theorem pc_at {l : List Pd} {k : Nat} {p : Pd} (h : l[k]? = some p) : (pCells l)[k * 2]? = some (.slice p.rA p.rm p.rc) ∧ (pCells l)[k * 2 + 1]? = some (.slice p.uA p.um p.uc) := by
  induction l generalizing k with
  | nil => simp at h
  | cons a l ih =>
    cases k with
    | zero => simp at h; subst h; exact ⟨rfl, rfl⟩
    | succ k =>
      have := ih (k := k) (by simpa using h)
      rw [show (k + 1) * 2 = k * 2 + 1 + 1 by omega]
      simpa [pCells] using this
theorem rowsP_box {W : World} {g : Nat} {ps : List Pd} {t : TypeId} (h : Box W g (pCells ps).toArray t) : RowsP W (some ⟨g, 0, none⟩) ps := fun k p hp => by
  obtain ⟨h1, h2⟩ := pc_at hp
  refine ⟨_, rfl, ?_, ?_⟩
  · rw [add_flat, Nat.zero_add]
    exact h.cell _ _ (by simpa using h1)
  · rw [add_flat, Nat.zero_add]
    exact h.cell _ _ (by simpa using h2)
theorem pbox0 {w : World} {b : Nat} {p : Pd} (h : Box w b p.cells 32) : w.cell? ⟨b, 0, none⟩ = some (.slice p.rA p.rm p.rc) := h.cell 0 _ rfl
theorem pbox1 {w : World} {b : Nat} {p : Pd} (h : Box w b p.cells 32) : w.cell? ⟨b, 1, none⟩ = some (.slice p.uA p.um p.uc) := h.cell 1 _ rfl
theorem WorldIn.below {w w' : World} {x : Wd} (h : WorldIn w x) (hb : Below w.heap.size w w') : WorldIn w' x := ⟨h.n, h.dl, h.dx, h.tl, h.tx, h.ml, h.mx, h.kl, h.kx, h.D.below hb, h.T.below hb, h.os.below hb, h.ts.below hb⟩
/-- whether a plan is better, of plans by value -/
def lessP (x : Wd) (a b : Pd) : Bool := Pl.lessB (Pl.checkS x.N x.D x.T x.os x.ts (ros a.rs) a.us) (Pl.checkS x.N x.D x.T x.os x.ts (ros b.rs) b.us) a.um b.um
end Go.Proofs.Ytmidkjlikhngmaa
