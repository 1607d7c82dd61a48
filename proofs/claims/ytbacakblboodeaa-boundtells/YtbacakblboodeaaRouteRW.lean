/- The document's answer for worlds. -/
import Derived.Test.YtbacakblboodeaaLoadR3
import Derived.Test.YtbacakblboodeaaAreaR2
import Derived.Test.YtbacakblboodeaaRouteA
namespace Go.Proofs.Ytbacakblboodeaa
open Go.RowKit
set_option linter.unusedVariables false
set_option maxRecDepth 100000

set_option maxHeartbeats 1000000 in
theorem dworld_b (x : Wd) (w : World) (r : Int) (hr : Rt.worldE x.N x.D x.T x.os x.ts = r) (h : WAt w x) :
    Calls Try.prog 29 #[.agg #[.int .i64 x.N, .slice x.dA x.dm x.dc, .slice x.tA x.tm x.tc, .slice x.A x.m x.c, .slice x.B x.k x.d]] w fun e w' => e = .returned (.int .i64 r) ∧ Hid (Below w.heap.size w w') := by
  have HB0 : Hid (Below w.heap.size w (w.alloc (.cells #[.int .i64 x.N, .slice x.dA x.dm x.dc, .slice x.tA x.tm x.tc, .slice x.A x.m x.c, .slice x.B x.k x.d] 28))) := below_alloc _ _
  have HX := Lib.hid (WX.new h)
  clear h
  rcases Rt.check_01 x.N x.D x.T with ⟨h1, _⟩ | ⟨h1, _⟩
  · rw [Rt.world_rest h1] at hr
    have HC := Lib.hid (rcheck_any x.N x.dA x.dm x.dc x.D x.tA x.tm x.tc x.T _ HX.out.at_.ar)
    rw [h1] at HC
    have HC2 : Hid (∀ W, WX W w.heap.size x → Below w.heap.size w W → Calls Try.prog 54 #[.agg #[.int .i64 x.N, .slice x.dA x.dm x.dc, .slice x.tA x.tm x.tc, .slice x.A x.m x.c, .slice x.B x.k x.d]] W fun e w' => e = .returned (.int .i64 r) ∧ Hid (Below w.heap.size w w')) := fun W hx hb =>
      (rworld_val x.N _ _ x.A x.m x.c x.os x.B x.k x.d x.ts W r hr hx.at_.ml hx.at_.m2 hx.at_.kl hx.at_.k2 hx.at_.os hx.at_.ts).mono fun _ _ ⟨e1, e2⟩ => ⟨e1, below_next hb e2.out⟩
    clear hr h1
    go_enter Try.func29, Try.ntmps29
    go_wp2_with fail
    with_reducible refine HC.out.mono ?_
    rintro e w1 ⟨rfl, hb1⟩
    have HX1 := Lib.hid (HX.out.below hb1)
    have HBN := Lib.hid (below_next HB0.out hb1)
    clear hb1
    have x0 := HX1.out.c0
    have x1 := HX1.out.c1
    have x2 := HX1.out.c2
    have x3 := HX1.out.c3
    have x4 := HX1.out.c4
    go_wp2_with fail
    with_reducible refine (HC2.out w1 HX1.out HBN.out).mono ?_
    rintro e w2 ⟨rfl, hb2⟩
    clear x0 x1 x2 x3 x4
    go_wp2
    go_ret
    exact ⟨rfl, hb2.out⟩
  · rw [Rt.world_bad h1] at hr
    have HR := Lib.hid hr
    have HC := Lib.hid (rcheck_any x.N x.dA x.dm x.dc x.D x.tA x.tm x.tc x.T _ HX.out.at_.ar)
    rw [h1] at HC
    clear hr h1
    go_enter Try.func29, Try.ntmps29
    go_wp2_with fail
    with_reducible refine HC.out.mono ?_
    rintro e w1 ⟨rfl, hb1⟩
    have HBN := Lib.hid (below_next HB0.out hb1)
    clear hb1
    go_wp2
    go_ret
    exact ⟨by rw [← HR.out]; rfl, HBN.out⟩
end Go.Proofs.Ytbacakblboodeaa
