/- The document's answer for routes: World, Truck. -/
import Derived.Test.YtmidkjlikhngmaaGreatLoadR3
import Derived.Test.YtmidkjlikhngmaaGreatAreaR4
import Derived.Test.YtmidkjlikhngmaaGreatRouteE
namespace Go.Proofs.YtmidkjlikhngmaaGreat
open Go.RowKit
set_option linter.unusedVariables false
set_option maxRecDepth 100000

set_option maxHeartbeats 1000000 in
theorem dworld_b (x : Wd) (w : World) (r : Int) (hr : Rt.worldE x.N x.D x.T x.os x.ts = r) (h : WAt w x) :
    Calls Tryz.prog 25 #[.agg #[.int .i64 x.N, .slice x.dA x.dm x.dc, .slice x.tA x.tm x.tc, .slice x.A x.m x.c, .slice x.B x.k x.d]] w fun e w' => e = .returned (.int .i64 r) ∧ Hid (Below w.heap.size w w') := by
  have HB0 : Hid (Below w.heap.size w (w.alloc (.cells #[.int .i64 x.N, .slice x.dA x.dm x.dc, .slice x.tA x.tm x.tc, .slice x.A x.m x.c, .slice x.B x.k x.d] 28))) := below_alloc _ _
  have HX := Lib.hid (WX.new h)
  clear h
  rcases Rt.check_01 x.N x.D x.T with ⟨h1, _⟩ | ⟨h1, _⟩
  · rw [Rt.world_rest h1] at hr
    have HC := Lib.hid (rcheck_any x.N x.dA x.dm x.dc x.D x.tA x.tm x.tc x.T _ HX.out.at_.ar)
    rw [h1] at HC
    have HC2 : Hid (∀ W, WX W w.heap.size x → Below w.heap.size w W → Calls Tryz.prog 41 #[.agg #[.int .i64 x.N, .slice x.dA x.dm x.dc, .slice x.tA x.tm x.tc, .slice x.A x.m x.c, .slice x.B x.k x.d]] W fun e w' => e = .returned (.int .i64 r) ∧ Hid (Below w.heap.size w w')) := fun W hx hb =>
      (rworld_val x.N _ _ x.A x.m x.c x.os x.B x.k x.d x.ts W r hr hx.at_.ml hx.at_.m2 hx.at_.kl hx.at_.k2 hx.at_.os hx.at_.ts).mono fun _ _ ⟨e1, e2⟩ => ⟨e1, below_next hb e2.out⟩
    clear hr h1
    go_enter Tryz.func25, Tryz.ntmps25
    go_wp2_with fail
    with_reducible refine HC.out.mono ?_
    rintro e w1 ⟨rfl, hb1⟩
    have HX1 := Lib.hid (HX.out.below hb1)
    have HBN := Lib.hid (below_next HB0.out hb1)
    clear hb1
    have x0 := HX1.out.c0
    have x1 := HX1.out.c1
    have x2 := HX1.out.c2
    have x3 := HX1.out.c3
    have x4 := HX1.out.c4
    go_wp2_with fail
    with_reducible refine (HC2.out w1 HX1.out HBN.out).mono ?_
    rintro e w2 ⟨rfl, hb2⟩
    clear x0 x1 x2 x3 x4
    go_wp2
    go_ret
    exact ⟨rfl, hb2.out⟩
  · rw [Rt.world_bad h1] at hr
    have HR := Lib.hid hr
    have HC := Lib.hid (rcheck_any x.N x.dA x.dm x.dc x.D x.tA x.tm x.tc x.T _ HX.out.at_.ar)
    rw [h1] at HC
    clear hr h1
    go_enter Tryz.func25, Tryz.ntmps25
    go_wp2_with fail
    with_reducible refine HC.out.mono ?_
    rintro e w1 ⟨rfl, hb1⟩
    have HBN := Lib.hid (below_next HB0.out hb1)
    clear hb1
    go_wp2
    go_ret
    exact ⟨by rw [← HR.out]; rfl, HBN.out⟩

set_option maxHeartbeats 2000000 in
theorem dtruck_b (x : Wd) (id : Int) (w : World) (r : Int) (hr : Ld.findI (x.ts.map Ld.T.id) id = r) (h : WAt w x) :
    Calls Tryz.prog 42 #[.agg #[.int .i64 x.N, .slice x.dA x.dm x.dc, .slice x.tA x.tm x.tc, .slice x.A x.m x.c, .slice x.B x.k x.d], .int .i64 id] w fun e w' => e = .returned (.int .i64 r) ∧ Hid (Below w.heap.size w w') := by
  have HB0 : Hid (Below w.heap.size w (w.alloc (.cells #[.int .i64 x.N, .slice x.dA x.dm x.dc, .slice x.tA x.tm x.tc, .slice x.A x.m x.c, .slice x.B x.k x.d] 28))) := below_alloc _ _
  have HX := Lib.hid (WX.new h)
  have hk := h.k2
  have HK := Lib.hid h.kl
  have HY : Hid (∀ k : Nat, x.k ≤ k → (∀ (i : Nat), i < k → (x.ts.map Ld.T.id)[i]? ≠ some id) → r = -1) := fun k hk h => by rw [← hr]; exact Ld.find_none fun j hj => h j (by rw [List.length_map, HK.out] at hj; omega)
  have HN : Hid (∀ (k : Nat), (x.ts.map Ld.T.id)[k]? = some id → (∀ (i : Nat), i < k → (x.ts.map Ld.T.id)[i]? ≠ some id) → r = (k : Int)) := fun k h1 h2 => by rw [← hr]; exact Ld.find_at h1 h2
  clear hr h
  go_enter Tryz.func42, Tryz.ntmps42
  go_wp2_with fail
  generalize w.alloc (.cells #[.int .i64 x.N, .slice x.dA x.dm x.dc, .slice x.tA x.tm x.tc, .slice x.A x.m x.c, .slice x.B x.k x.d] 28) = V at *
  generalize hb : w.heap.size = b at HX ⊢
  clear hb
  go_loopg [4, 5] x.k (fun gk s4 s5 W => ∃ (k : Nat), k + gk = x.k ∧ s4 = .int .i64 0 ∧ s5 = .int .i64 (k : Int) ∧ V = W ∧ Hid (∀ (i : Nat), i < k → (x.ts.map Ld.T.id)[i]? ≠ some id))
  case atStart => exact ⟨0, by omega, rfl, rfl, rfl, fun i hi => by omega⟩
  case round =>
    obtain ⟨k, hkg, rfl, rfl, rfl, HK2⟩ := hrel
    have x4 := HX.out.c4
    by_cases hlt : k < x.k
    · obtain ⟨gk, rfl⟩ : ∃ j, gk = j + 1 := ⟨gk - 1, by omega⟩
      obtain ⟨s, hs⟩ := mlist_at x.ts k (by rw [HK.out]; exact hlt)
      obtain ⟨ad, hB, hc⟩ := HX.out.at_.ts.at_ hs
      have c0 := hc.c0
      have hid : (x.ts.map Ld.T.id)[k]? = some s.id := by rw [List.getElem?_map, hs]; rfl
      rw [hB] at x4
      clear hc hB
      have i1 : (k : Int) < (x.k : Int) := by omega
      by_cases h1 : s.id = id
      · have HR := Lib.hid (HN.out k (by rw [hid, h1]) HK2.out)
        have d1 : (s.id == id) = true := beq_iff_eq.2 h1
        clear hs hid h1
        go_wp2
        go_ret
        exact ⟨by rw [HR.out]; rfl, HB0.out⟩
      · have d1 : (s.id == id) = false := beq_eq_false_iff_ne.2 h1
        have HK3 : Hid (∀ (i : Nat), i < k + 1 → (x.ts.map Ld.T.id)[i]? ≠ some id) := fun i hi => by
          by_cases h : i < k
          · exact HK2.out i h
          · obtain rfl : i = k := by omega
            rw [hid]
            exact fun e => h1 (Option.some.inj e)
        clear hs hid h1
        go_wp2
        go_roundg gk
        case measure => omega
        case rel => exact ⟨k + 1, by omega, rfl, by first | rfl | go_num, rfl, HK3.out⟩
    · have HR := Lib.hid (HY.out k (by omega) HK2.out)
      have hk : k = x.k := by omega
      subst hk
      go_wp2
      go_ret
      exact ⟨by rw [HR.out]; rfl, HB0.out⟩
end Go.Proofs.YtmidkjlikhngmaaGreat
