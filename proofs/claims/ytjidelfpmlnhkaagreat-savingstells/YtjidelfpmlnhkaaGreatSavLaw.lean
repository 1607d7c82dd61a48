/- What the laws of package savings share. -/
import Derived.Test.YtjidelfpmlnhkaaGreatSavI
import Derived.Test.YtjidelfpmlnhkaaGreatRouteOpen
namespace Go.Proofs.YtjidelfpmlnhkaaGreat
open Go.RowKit
set_option linter.unusedVariables false
set_option maxRecDepth 100000

/-- so many stops -/
def rz (n : Nat) : Rd := ⟨0, none, n, 0, []⟩
theorem WorldIn.below {w w' : World} {x : Wd} (h : WorldIn w x) (hb : Below w.heap.size w w') : WorldIn w' x := ⟨h.n, h.dl, h.dx, h.tl, h.tx, h.ml, h.mx, h.kl, h.kx, h.D.below hb, h.T.below hb, h.os.below hb, h.ts.below hb⟩
end Go.Proofs.YtjidelfpmlnhkaaGreat
