/- What the laws of layer 12 hold: the boxes of their parameters. -/
import Derived.Test.YtbacakblboodeaaBndAw
import Derived.Test.YtbacakblboodeaaMaths
import Derived.Test.YtbacakblboodeaaPlanC
namespace Go.Proofs.Ytbacakblboodeaa
open Go.RowKit
set_option linter.unusedVariables false

theorem WorldIn.below {w w' : World} {x : Wd} (h : WorldIn w x) (hb : Below w.heap.size w w') : WorldIn w' x := ⟨h.n, h.dl, h.dx, h.tl, h.tx, h.ml, h.mx, h.kl, h.kx, h.D.below hb, h.T.below hb, h.os.below hb, h.ts.below hb⟩
theorem RouteIn.below {w w' : World} {r : Rd} (h : RouteIn w r) (hb : Below w.heap.size w w') : RouteIn w' r := ⟨h.sl, h.sc, h.sx, h.st.below hb⟩
theorem PlanIn.below {w w' : World} {p : Pd} (h : PlanIn w p) (hb : Below w.heap.size w w') : PlanIn w' p := ⟨h.rl, h.rx, h.rc, h.rows.below hb, fun r hr => (h.ra r hr).below hb, h.ul, h.ux, h.us.below hb⟩
theorem pbox0 {w : World} {b : Nat} {p : Pd} (h : Box w b p.cells 45) : w.cell? ⟨b, 0, none⟩ = some (.slice p.rA p.rm p.rc) := h.cell 0 _ rfl
theorem pbox1 {w : World} {b : Nat} {p : Pd} (h : Box w b p.cells 45) : w.cell? ⟨b, 1, none⟩ = some (.slice p.uA p.um p.uc) := h.cell 1 _ rfl
/-- the boxes of a law's parameters -/
structure LBB (V : World) (b1 b2 b3 : Nat) (x : Wd) (q : Ct) (p : Pd) : Prop where
  w : Box V b1 x.cells 28
  c : Box V b2 q.cells 31
  p : Box V b3 p.cells 45
theorem LBB.below {V V' : World} {b1 b2 b3 : Nat} {x : Wd} {q : Ct} {p : Pd} (h : LBB V b1 b2 b3 x q p) (hb : Below V.heap.size V V') : LBB V' b1 b2 b3 x q p := ⟨h.w.below hb, h.c.below hb, h.p.below hb⟩
structure LX (V : World) (b1 b2 b3 : Nat) (x : Wd) (q : Ct) (p : Pd) : Prop where
  w : WX V b1 x
  c : CX V b2 q
  p : PX V b3 p
theorem LX.below {V V' : World} {b1 b2 b3 : Nat} {x : Wd} {q : Ct} {p : Pd} (h : LX V b1 b2 b3 x q p) (hb : Below V.heap.size V V') : LX V' b1 b2 b3 x q p := ⟨h.w.below hb, h.c.below hb, h.p.below hb⟩
theorem served_len {w : World} {p : Pd} (h : PAt w p) : (Pl.servedS (ros p.rs)).length ≤ 10000 := by
  unfold Pl.servedS
  rw [Pl.srt_len]
  exact h.tot
end Go.Proofs.Ytbacakblboodeaa
