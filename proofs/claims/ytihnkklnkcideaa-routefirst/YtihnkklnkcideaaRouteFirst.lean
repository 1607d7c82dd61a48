/- Every call of the law that visits of the first stops are those of a route of them alone, where that can be run, answers true: for every world, route and number of stops. No conditions. -/
import Derived.Test.YtihnkklnkcideaaRows
import Derived.Test.YtihnkklnkcideaaRouteOpen
import Derived.Test.YtihnkklnkcideaaRouteAw
import Derived.Test.YtihnkklnkcideaaRouteMath2
import Derived.Deep.RegionHeld3
import Derived.Deep.RegionLaw
import Derived.RegionTactic
import Derived.WalkKit
import Derived.ProofKit
import Derived.OpenShut
import Derived.ShutString
import Derived.ChangeOld
import Derived.Below
import Derived.SizedLaws
namespace Go.Proofs.Ytihnkklnkcideaa.routeFirst
open Go.ChangeShapes Go.WideShapes Go.ChangeAt Go.RowKit
open Go.ChangeMaps (open_string shut_string)
set_option linter.unusedVariables false

theorem own : ownKnob Try.prog.godebug = none := by kernel_rfl
theorem laidOut : laidOutB Try.prog = true := by kernel_rfl

open Go.Proofs.Ytihnkklnkcideaa
set_option maxRecDepth 100000

set_option maxHeartbeats 2000000 in
theorem long_any (x : Wd) (r : Rd) (many : Int) (w : World) (hx : WorldIn w x) (hr : RouteIn w r) (h : Large x r) :
    Calls Try.prog 6 #[.agg #[.int .i64 x.N, .slice x.dA x.dm x.dc, .slice x.tA x.tm x.tc, .slice x.A x.m x.c, .slice x.B x.k x.d], .agg #[.int .i64 r.tr, .slice r.sA r.sm r.sc], .int .i64 many] w fun e w' => e = .returned (.bool true) ∧ Below w.heap.size w w' := by
  have HB0 : Hid (Below w.heap.size w ((w.alloc (.cells #[.int .i64 x.N, .slice x.dA x.dm x.dc, .slice x.tA x.tm x.tc, .slice x.A x.m x.c, .slice x.B x.k x.d] 28)).alloc (.cells #[.int .i64 r.tr, .slice r.sA r.sm r.sc] 31))) := below_more (below_alloc _ _) _
  have HX := Lib.hid (LB.new w x r)
  have HC : Hid (∀ W, _) := fun W => large_yes x r W hx.mx hx.kx hx.dx hx.tx (Nat.le_trans hr.sc hr.sx) h
  have hsm : r.sm ≤ 9223372036854775807 := by have := hr.sc; have := hr.sx; unfold maxLen at this; omega
  clear h hx hr
  go_enter Try.func6, Try.ntmps6
  go_wp2_with fail
  with_reducible refine (awake_any _).mono ?_
  rintro e w1 ⟨rfl, hb1⟩
  have HB1 := Lib.hid (below_next HB0.out hb1)
  have HX1 := Lib.hid (HX.out.below hb1)
  have c0 := wbox0 HX1.out.w
  have c1 := wbox1 HX1.out.w
  have c2 := wbox2 HX1.out.w
  have c3 := wbox3 HX1.out.w
  have c4 := wbox4 HX1.out.w
  have r1 := rbox1 HX1.out.r
  clear hb1
  go_wp2_with fail
  with_reducible refine (HC.out _).mono ?_
  rintro e w2 ⟨rfl, hb2⟩
  clear c0 c1 c2 c3 c4 r1
  go_wp2
  go_ret
  exact ⟨rfl, below_next HB1.out hb2.out⟩

set_option maxHeartbeats 2000000 in
theorem out_any (x : Wd) (r : Rd) (many : Int) (w : World) (h : ¬ Large x r) (hs : r.sm ≤ 100) (hm : many < 1 ∨ (r.sm : Int) < many) :
    Calls Try.prog 6 #[.agg #[.int .i64 x.N, .slice x.dA x.dm x.dc, .slice x.tA x.tm x.tc, .slice x.A x.m x.c, .slice x.B x.k x.d], .agg #[.int .i64 r.tr, .slice r.sA r.sm r.sc], .int .i64 many] w fun e w' => e = .returned (.bool true) ∧ Below w.heap.size w w' := by
  have HB0 : Hid (Below w.heap.size w ((w.alloc (.cells #[.int .i64 x.N, .slice x.dA x.dm x.dc, .slice x.tA x.tm x.tc, .slice x.A x.m x.c, .slice x.B x.k x.d] 28)).alloc (.cells #[.int .i64 r.tr, .slice r.sA r.sm r.sc] 31))) := below_more (below_alloc _ _) _
  have HX := Lib.hid (LB.new w x r)
  have HC : Hid (∀ W, _) := fun W => large_no x r W h
  have h0 : many < 1 ∨ (1 ≤ many ∧ (r.sm : Int) < many) := by omega
  clear h hm
  rcases h0 with h0 | ⟨h0, h1⟩
  · have d0 : decide (many < 1) = true := decide_eq_true h0
    go_enter Try.func6, Try.ntmps6
    go_wp2_with fail
    with_reducible refine (awake_any _).mono ?_
    rintro e w1 ⟨rfl, hb1⟩
    have HB1 := Lib.hid (below_next HB0.out hb1)
    have HX1 := Lib.hid (HX.out.below hb1)
    have c0 := wbox0 HX1.out.w
    have c1 := wbox1 HX1.out.w
    have c2 := wbox2 HX1.out.w
    have c3 := wbox3 HX1.out.w
    have c4 := wbox4 HX1.out.w
    have r1 := rbox1 HX1.out.r
    clear hb1
    go_wp2_with fail
    with_reducible refine (HC.out _).mono ?_
    rintro e w2 ⟨rfl, hb2⟩
    clear c0 c1 c2 c3 c4 r1
    go_wp2
    go_ret
    exact ⟨rfl, below_next HB1.out hb2.out⟩
  · have d0 : decide (many < 1) = false := decide_eq_false (by omega)
    have d1 : decide ((r.sm : Int) < many) = true := decide_eq_true h1
    go_enter Try.func6, Try.ntmps6
    go_wp2_with fail
    with_reducible refine (awake_any _).mono ?_
    rintro e w1 ⟨rfl, hb1⟩
    have HB1 := Lib.hid (below_next HB0.out hb1)
    have HX1 := Lib.hid (HX.out.below hb1)
    have c0 := wbox0 HX1.out.w
    have c1 := wbox1 HX1.out.w
    have c2 := wbox2 HX1.out.w
    have c3 := wbox3 HX1.out.w
    have c4 := wbox4 HX1.out.w
    have r1 := rbox1 HX1.out.r
    clear hb1
    go_wp2_with fail
    with_reducible refine (HC.out _).mono ?_
    rintro e w2 ⟨rfl, hb2⟩
    clear c0 c1 c2 c3 c4 r1
    have r1 := rbox1 (HX1.out.below hb2.out).r
    go_wp2
    go_ret
    exact ⟨rfl, below_next HB1.out hb2.out⟩

/-- the second trip in its box -/
def TB (V1 : World) (r2 : Rt.R) (n2 : Nat) (s : Value) (W : World) : Prop := ∃ q A c, s = .pointer (some ⟨q, 0, none⟩) ∧ Hid (Box W q #[.slice A n2 c, .int .i64 r2.back, .int .i64 r2.dist, .int .i64 r2.cost] 36 ∧ Below V1.heap.size V1 W ∧ VisAt W A r2.vs)
theorem tb_new {V1 w5 : World} {r2 : Rt.R} {n2 : Nat} {A : Option Addr} {c : Nat} (hb : Below V1.heap.size V1 w5) (hv : VisAt w5 A r2.vs) :
    TB V1 r2 n2 (.pointer (some ⟨w5.heap.size, 0, none⟩)) (w5.alloc (.cells #[.slice A n2 c, .int .i64 r2.back, .int .i64 r2.dist, .int .i64 r2.cost] 36)) :=
  ⟨_, A, c, rfl, Box.new _ _ _, below_more hb _, hv.below (below_alloc _ _)⟩
theorem tb_set {V1 w5 : World} {r2 : Rt.R} {n2 : Nat} {A : Option Addr} {c : Nat} (hU : Below (V1.alloc (.cells #[.slice none 0 0, .int .i64 0, .int .i64 0, .int .i64 0] 36)).drew.heap.size (V1.alloc (.cells #[.slice none 0 0, .int .i64 0, .int .i64 0, .int .i64 0] 36)).drew w5) (hv : VisAt w5 A r2.vs) (hf : ∀ ad, A = some ad → (V1.alloc (.cells #[.slice none 0 0, .int .i64 0, .int .i64 0, .int .i64 0] 36)).drew.heap.size ≤ ad.block) :
    TB V1 r2 n2 (.pointer (some ⟨V1.heap.size, 0, none⟩)) ((((w5.setCell ⟨V1.heap.size, 0, none⟩ (.slice A n2 c)).setCell ⟨V1.heap.size, 1, none⟩ (.int .i64 r2.back)).setCell ⟨V1.heap.size, 2, none⟩ (.int .i64 r2.dist)).setCell ⟨V1.heap.size, 3, none⟩ (.int .i64 r2.cost)) := by
  have hbx : Box (V1.alloc (.cells #[.slice none 0 0, .int .i64 0, .int .i64 0, .int .i64 0] 36)).drew V1.heap.size #[.slice none 0 0, .int .i64 0, .int .i64 0, .int .i64 0] 36 := Box.new V1 _ _
  refine ⟨_, A, c, rfl, trip_set (hbx.below hU) _ _ _ _, below_set4 (below_next (below_alloc V1 (.cells #[.slice none 0 0, .int .i64 0, .int .i64 0, .int .i64 0] 36)).drew hU) _ (Nat.le_refl _) _ _ _ _, IntsAt.blocks hv fun ad e => but_set4 _ _ _ _ _ _ _ ?_⟩
  have h1 := hf ad e
  have h2 : (V1.alloc (.cells #[.slice none 0 0, .int .i64 0, .int .i64 0, .int .i64 0] 36)).drew.heap.size = V1.heap.size + 1 := by show (V1.alloc (.cells #[.slice none 0 0, .int .i64 0, .int .i64 0, .int .i64 0] 36)).heap.size = _; simp
  omega

set_option maxHeartbeats 20000000 in
theorem short_any (x : Wd) (r : Rd) (k : Nat) (w : World) (hx : WorldIn w x) (hr : RouteIn w r) (h : ¬ Large x r) (hs : r.sm ≤ 100) (hk1 : 1 ≤ k) (hk2 : k ≤ r.sm) :
    Calls Try.prog 6 #[.agg #[.int .i64 x.N, .slice x.dA x.dm x.dc, .slice x.tA x.tm x.tc, .slice x.A x.m x.c, .slice x.B x.k x.d], .agg #[.int .i64 r.tr, .slice r.sA r.sm r.sc], .int .i64 (k : Int)] w fun e w' => e = .returned (.bool true) ∧ Below w.heap.size w w' := by
  have HB0 : Hid (Below w.heap.size w ((w.alloc (.cells #[.int .i64 x.N, .slice x.dA x.dm x.dc, .slice x.tA x.tm x.tc, .slice x.A x.m x.c, .slice x.B x.k x.d] 28)).alloc (.cells #[.int .i64 r.tr, .slice r.sA r.sm r.sc] 31))) := below_more (below_alloc _ _) _
  have HX : Hid (LW ((w.alloc (.cells #[.int .i64 x.N, .slice x.dA x.dm x.dc, .slice x.tA x.tm x.tc, .slice x.A x.m x.c, .slice x.B x.k x.d] 28)).alloc (.cells #[.int .i64 r.tr, .slice r.sA r.sm r.sc] 31)) w.heap.size (w.heap.size + 1) x r) := ⟨LB.new w x r, (hx.at_ h).below HB0.out, (hr.at_ h).below HB0.out⟩
  have HC : Hid (∀ W, _) := fun W => large_no x r W h
  have hsc := hr.sc
  have hsx := hr.sx
  unfold maxLen at hsx
  have HSL := Lib.hid hr.sl
  have d0 : decide ((k : Int) < 1) = false := decide_eq_false (by omega)
  have d1 : decide ((r.sm : Int) < (k : Int)) = false := decide_eq_false (by omega)
  have d1' : decide (r.sm < k) = false := decide_eq_false (by omega)
  clear h hx hr
  go_enter Try.func6, Try.ntmps6
  go_wp2_with fail
  generalize ((w.alloc (.cells #[.int .i64 x.N, .slice x.dA x.dm x.dc, .slice x.tA x.tm x.tc, .slice x.A x.m x.c, .slice x.B x.k x.d] 28)).alloc (.cells #[.int .i64 r.tr, .slice r.sA r.sm r.sc] 31)) = V at *
  generalize w.heap.size + 1 = b2 at *
  generalize hb1 : w.heap.size = b1 at HX ⊢
  clear hb1
  with_reducible refine (awake_any _).mono ?_
  rintro e w1 ⟨rfl, hb1⟩
  have HB1 := Lib.hid (below_next HB0.out hb1)
  have HX1 := Lib.hid (HX.out.below hb1)
  have c0 := wbox0 HX1.out.b.w
  have c1 := wbox1 HX1.out.b.w
  have c2 := wbox2 HX1.out.b.w
  have c3 := wbox3 HX1.out.b.w
  have c4 := wbox4 HX1.out.b.w
  have r1 := rbox1 HX1.out.b.r
  clear hb1 HX HB0
  go_wp2_with fail
  with_reducible refine (HC.out _).mono ?_
  rintro e w2 ⟨rfl, hb2⟩
  clear c0 c1 c2 c3 c4 r1
  have HB2 := Lib.hid (below_next HB1.out hb2.out)
  have HX2 := Lib.hid (HX1.out.below hb2.out)
  have c0 := wbox0 HX2.out.b.w
  have c1 := wbox1 HX2.out.b.w
  have c2 := wbox2 HX2.out.b.w
  have c3 := wbox3 HX2.out.b.w
  have c4 := wbox4 HX2.out.b.w
  have r0 := rbox0 HX2.out.b.r
  have r1 := rbox1 HX2.out.b.r
  clear hb2 HX1 HB1 HC
  obtain ⟨res, hres⟩ : ∃ z, Rt.runS x.N x.D x.T x.os x.ts r.tr r.st = z := ⟨_, rfl⟩
  have HRES := Lib.hid hres
  have HC := Lib.hid (run_b x r w2 res hres HX2.out.x HX2.out.r)
  clear hres
  go_wp2_with fail
  with_reducible refine HC.out.mono ?_
  rintro e w3 ⟨A, cA, rfl, h3⟩
  clear c0 c1 c2 c3 c4 r0 r1 HC
  obtain ⟨n, hn⟩ : ∃ n, res.vs.length = n := ⟨_, rfl⟩
  have HN := Lib.hid hn
  rw [hn]
  clear hn
  have HV3 := Lib.hid h3.out.2.1
  have HB3 := Lib.hid (below_next HB2.out h3.out.1)
  have HX3 := Lib.hid (HX2.out.below h3.out.1)
  have HTA : Hid (Box (w3.alloc (.cells #[.slice A n cA, .int .i64 res.back, .int .i64 res.dist, .int .i64 res.cost] 36)) w3.heap.size #[.slice A n cA, .int .i64 res.back, .int .i64 res.dist, .int .i64 res.cost] 36) := Box.new _ _ _
  have HVA := Lib.hid (HV3.out.below (below_alloc w3 (.cells #[.slice A n cA, .int .i64 res.back, .int .i64 res.dist, .int .i64 res.cost] 36)))
  have HBA := Lib.hid (below_more HB3.out (.cells #[.slice A n cA, .int .i64 res.back, .int .i64 res.dist, .int .i64 res.cost] 36))
  have HXA := Lib.hid (HX3.out.below (below_alloc w3 (.cells #[.slice A n cA, .int .i64 res.back, .int .i64 res.dist, .int .i64 res.cost] 36)))
  clear h3 HV3 HB3 HX3 HX2 HB2
  have c0 := wbox0 HXA.out.b.w
  have c1 := wbox1 HXA.out.b.w
  have c2 := wbox2 HXA.out.b.w
  have c3 := wbox3 HXA.out.b.w
  have c4 := wbox4 HXA.out.b.w
  have r0 := rbox0 HXA.out.b.r
  have r1 := rbox1 HXA.out.b.r
  have rl1 : ∀ W : World, (Instr.slice 29 (.slice r.sA r.sm r.sc) none (some (.int .i64 (k : Int))) none).run Try.prog W = .ok (.slice r.sA k r.sc) W := front_ints r.sA r.sm r.sc k hsc hk2
  go_wp2_with fail
  generalize w3.alloc (.cells #[.slice A n cA, .int .i64 res.back, .int .i64 res.dist, .int .i64 res.cost] 36) = V1 at *
  generalize w3.heap.size = q1 at *
  obtain ⟨rs2, hrs2⟩ : ∃ z, Rt.runS x.N x.D x.T x.os x.ts r.tr (r.st.take k) = z := ⟨_, rfl⟩
  have HRS2 := Lib.hid hrs2
  obtain ⟨n2, hn2⟩ : ∃ n, rs2.vs.length = n := ⟨_, rfl⟩
  have HN2 := Lib.hid hn2
  have HC : Hid (∀ U : World, Below V1.heap.size V1 U → Calls Try.prog 9 #[.agg #[.int .i64 x.N, .slice x.dA x.dm x.dc, .slice x.tA x.tm x.tc, .slice x.A x.m x.c, .slice x.B x.k x.d], .agg #[.int .i64 r.tr, .slice r.sA k r.sc]] U fun e w' => ∃ A3 c3, e = .returned (.tuple #[.agg #[.slice A3 n2 c3, .int .i64 rs2.back, .int .i64 rs2.dist, .int .i64 rs2.cost], .int .i64 rs2.e]) ∧ (∀ b o, b < U.heap.size → w'.cell? ⟨b, o, none⟩ = U.cell? ⟨b, o, none⟩) ∧ (∀ b o, b < U.heap.size → w'.frozen? ⟨b, o, none⟩ = U.frozen? ⟨b, o, none⟩) ∧ Hid (Below U.heap.size U w' ∧ VisAt w' A3 rs2.vs ∧ ∀ ad, A3 = some ad → U.heap.size ≤ ad.block)) := by
    intro U hU
    refine (run_b x ⟨r.tr, r.sA, k, r.sc, r.st.take k⟩ U rs2 hrs2 (HXA.out.x.below hU) ⟨by show (r.st.take k).length = k; rw [List.length_take, HSL.out]; omega, by show k ≤ 1000; omega, ints_take (HXA.out.r.below hU).st k⟩).mono ?_
    rintro e w' ⟨A3, c3, rfl, h5⟩
    rw [hn2]
    exact ⟨A3, c3, rfl, fun b o hb => h5.out.1.cell (p := ⟨b, o, none⟩) hb, fun b o hb => h5.out.1.frozen (p := ⟨b, o, none⟩) hb, h5.out.1, h5.out.2.1, h5.out.2.2.2⟩
  have HB : Hid (Below V1.heap.size V1 V1.drew) := (Below.refl V1.heap.size V1).drew
  have HBa : Hid (Below V1.heap.size V1 (V1.alloc (.cells #[.slice none 0 0, .int .i64 0, .int .i64 0, .int .i64 0] 36)).drew) := (below_alloc V1 (.cells #[.slice none 0 0, .int .i64 0, .int .i64 0, .int .i64 0] 36)).drew
  clear hrs2 hn2
  go_upto_region 6 with fail
  go_cut [9, 10] (fun s9 s10 W => s10 = .int .i64 rs2.e ∧ TB V1 rs2 n2 s9 W)
  case first =>
    have a0 := wbox0 (HXA.out.b.below (below_alloc V1 (.cells #[.slice none 0 0, .int .i64 0, .int .i64 0, .int .i64 0] 36))).w
    have a1 := wbox1 (HXA.out.b.below (below_alloc V1 (.cells #[.slice none 0 0, .int .i64 0, .int .i64 0, .int .i64 0] 36))).w
    have a2 := wbox2 (HXA.out.b.below (below_alloc V1 (.cells #[.slice none 0 0, .int .i64 0, .int .i64 0, .int .i64 0] 36))).w
    have a3 := wbox3 (HXA.out.b.below (below_alloc V1 (.cells #[.slice none 0 0, .int .i64 0, .int .i64 0, .int .i64 0] 36))).w
    have a4 := wbox4 (HXA.out.b.below (below_alloc V1 (.cells #[.slice none 0 0, .int .i64 0, .int .i64 0, .int .i64 0] 36))).w
    have s0 := rbox0 (HXA.out.b.below (below_alloc V1 (.cells #[.slice none 0 0, .int .i64 0, .int .i64 0, .int .i64 0] 36))).r
    have s1 := rbox1 (HXA.out.b.below (below_alloc V1 (.cells #[.slice none 0 0, .int .i64 0, .int .i64 0, .int .i64 0] 36))).r
    go_region_law (first
      | (go_simp; go_at_call 9; ((with_reducible refine (HC.out (V1.drew) HB.out).mono ?_)); rintro e w5 ⟨A3, cA3, rfl, kc, kf, kU⟩)
      | (go_simp; go_at_call 9; ((with_reducible refine (HC.out ((V1.alloc (.cells #[.slice none 0 0, .int .i64 0, .int .i64 0, .int .i64 0] 36)).drew) HBa.out).mono ?_)); rintro e w5 ⟨A3, cA3, rfl, kc, kf, kU⟩))
    all_goals
      clear kc kf a0 a1 a2 a3 a4 s0 s1 c0 c1 c2 c3 c4 r0 r1 rl1
      go_wp2
      go_meet
      case rel =>
        refine ⟨rfl, ?_⟩
        first
          | with_reducible exact tb_new (below_next HB.out kU.out.1) kU.out.2.1
          | with_reducible exact tb_set kU.out.1 kU.out.2.1 kU.out.2.2
  case rest =>
    obtain ⟨rfl, q2, A3, cA3, rfl, HTB⟩ := hcut
    clear c0 c1 c2 c3 c4 r0 r1 rl1 HC HB HBa
    have HBW := Lib.hid (below_next HBA.out HTB.out.2.1)
    have HTA2 := Lib.hid (HTA.out.below HTB.out.2.1)
    have HVA2 := Lib.hid (HVA.out.below HTB.out.2.1)
    by_cases e0 : res.e = 0
    · have e1 : (res.e != 0) = false := by rw [e0]; rfl
      obtain ⟨hruns, htrip⟩ := Rt.runs_of (by rw [HRES.out]; exact e0)
      rw [HRES.out] at htrip
      have hvs : res.vs = Rt.visits x.N x.D x.T ⟨0, (Rt.truckAt x.ts r.tr).start, 0⟩ (Rt.ordersOf x.os r.st) := by rw [htrip]; rfl
      rcases Rt.first_of hruns k hk1 (by rw [HSL.out]; exact hk2) with hlate | ⟨hf, hfv⟩
      · rw [HRS2.out] at hlate
        have e2 : rs2.e = 10 := by rw [hlate]; rfl
        clear hruns htrip hvs hlate e0 HTA HVA HBA HXA HTB HTA2 HVA2
        generalize rs2.e = re2 at *
        subst e2
        have e3 : ((10 : Int) != (0 : Int)) = true := by decide
        go_wp2
        go_ret
        exact ⟨rfl, HBW.out⟩
      · rw [HRS2.out] at hf hfv
        rw [← hvs] at hfv
        have hl2 : n2 = k := by
          rw [← HN2.out, hfv, List.length_take, hvs, Rt.visits_len, Rt.ordersOf_len, HSL.out]
          omega
        have hl1 : n = r.sm := by rw [← HN.out, hvs, Rt.visits_len, Rt.ordersOf_len, HSL.out]
        subst hl2 hl1
        have e2 : (rs2.e != 0) = false := by rw [hf]; rfl
        have HVV : Hid (∀ i, i < n2 → ∃ v, rs2.vs[i]? = some v ∧ res.vs[i]? = some v) := fun i hi => by
          obtain ⟨v, hv⟩ := mlist_at rs2.vs i (by rw [HN2.out]; exact hi)
          refine ⟨v, hv, ?_⟩
          rw [hfv, List.getElem?_take_of_lt hi] at hv
          exact hv
        have HV2 := Lib.hid HTB.out.2.2
        have HT2 := Lib.hid HTB.out.1
        have z0 := HT2.out.cell 0 _ rfl
        clear hruns htrip hvs hf hfv e0 HTA HVA HBA HXA HTB
        go_wp2_with fail
        clear z0
        go_loopg [6, 58] n2 (fun gk s6 s58 W => ∃ (i : Nat) (W0 : World), W0 = W ∧ i + gk = n2 ∧ s6 = .bool false ∧ s58 = .int .i64 i ∧ Hid (Below wc.heap.size wc W0))
        case atStart => exact ⟨0, _, rfl, by omega, rfl, rfl, Below.refl _ _⟩
        case round =>
          obtain ⟨i, W0, rfl, hkg, rfl, rfl, HB⟩ := hrel
          by_cases hlt : i < n2
          · obtain ⟨gk, rfl⟩ : ∃ j, gk = j + 1 := ⟨gk - 1, by omega⟩
            obtain ⟨v, hv1, hv2⟩ := HVV.out i hlt
            obtain ⟨ad, hA3, c0, c1, c2, c3⟩ := (HV2.out.below HB.out).at_ hv1
            have HVB := Lib.hid ((HVA2.out.below HB.out).below (below_alloc W0 (.cells #[.int .i64 v.order, .int .i64 v.arrive, .int .i64 v.start, .int .i64 v.leave] 53)))
            obtain ⟨ae, hA, g0, g1, g2, g3⟩ := HVB.out.at_ hv2
            have z0 := ((HTA2.out.below HB.out).below (below_alloc W0 (.cells #[.int .i64 v.order, .int .i64 v.arrive, .int .i64 v.start, .int .i64 v.leave] 53))).cell 0 _ rfl
            have HBI := Lib.hid (below_more HB.out (.cells #[.int .i64 v.order, .int .i64 v.arrive, .int .i64 v.start, .int .i64 v.leave] 53))
            have i1 : (i : Int) < (n2 : Int) := by omega
            have i2 : (i : Int) < (r.sm : Int) := by omega
            obtain ⟨v0, v1, v2, v3⟩ := v
            simp only at c0 c1 c2 c3 g0 g1 g2 g3 z0 HBI HVB
            subst hA3
            subst hA
            clear hv1 hv2 HVB
            go_wp2
            go_quiet (fail)
            go_wp2
            go_roundg gk
            case measure => omega
            case rel => exact ⟨i + 1, _, rfl, by omega, rfl, by first | rfl | go_num, HBI.out.trans ⟨rfl, rfl, rfl, Nat.le_refl _, fun _ _ => rfl⟩⟩
          · obtain rfl : i = n2 := by omega
            have z0 := (HT2.out.below HB.out).cell 0 _ rfl
            have e5 : ((i : Int) == (i : Int)) = true := by simp
            go_wp2
            go_ret
            exact ⟨rfl, below_next HBW.out HB.out⟩
    · have e1 : (res.e != 0) = true := bne_iff_ne.2 e0
      clear e0 HTA HVA HBA HXA HTB HTA2 HVA2
      go_wp2
      go_ret
      exact ⟨rfl, HBW.out⟩

theorem walk (x : Wd) {W : World} (hx : WorldIn W x) (r : Rd) (hr : RouteIn W r) (many : Int) (_h : (Lit.int .i64 many).wf = true) :
    Calls Try.prog 6 #[.agg #[.int .i64 x.N, .slice x.dA x.dm x.dc, .slice x.tA x.tm x.tc, .slice x.A x.m x.c, .slice x.B x.k x.d], .agg #[.int .i64 r.tr, .slice r.sA r.sm r.sc], .int .i64 many] W fun e w' => e = .returned (.bool true) ∧ Below W.heap.size W w' := by
  by_cases h : Large x r
  · exact long_any x r many W hx hr h
  · have hs : r.sm ≤ 100 := by unfold Large at h; omega
    by_cases hm : many < 1 ∨ (r.sm : Int) < many
    · exact out_any x r many W h hs hm
    · obtain ⟨k, rfl⟩ : ∃ k : Nat, many = (k : Int) := ⟨many.toNat, by omega⟩
      exact short_any x r k W hx hr h hs (by omega) (by omega)

set_option maxRecDepth 100000 in
theorem lifted (os : Os) (started : os.Started) (H : Type) (enc : TypeId × Value → H) :
    ReturnsInHanded {} Try.checked os 6 .any (Rows.routeFirstSpec.pre6 enc Try.prog Try.f6 Rows.routeFirstRow.domain false) (Rows.routeFirstSpec.post enc Try.prog Try.f6 false true false false) := by
  refine returnsInHanded_of_change_sized (C := Try.checked) own started (by kernel_rfl) Try.func6
    (ChangeSpec.witness6 (enc := enc) (C := Try.checked) false ⟨#[], #[.agg #[.int .i64 0, .slice none 0 0, .slice none 0 0, .slice none 0 0, .slice none 0 0], .agg #[.int .i64 0, .slice none 0 0], .int .i64 0], []⟩ 8 (by kernel_rfl) (by kernel_rfl) (by kernel_rfl) (by kernel_rfl)) ?_
  intro W base args ds gs before hval0 hW _ hsz0 _
  have hsz : (DataW.weightsEach Try.prog (Try.f6.params.toList ++ Rows.routeFirstSpec.plain.varTypes Try.prog) (ds ++ gs)).all (· ≤ reachBytes) = true := hsz0
  have hval : ∀ (j : Nat) t v, Try.f6.params[j]? = some t → args[j]? = some v → Value.okWide Try.prog W .any base t v := hval0
  have hW' := hW
  obtain ⟨p, q, hA0, hV, rfl, hfz, hnd⟩ := hW
  have hA : DataW.TrodAll enc Try.prog W 0 (fun _ => true) true Try.f6.params.toList args.toList ds p := hA0
  rw [Try.params6] at hA hval hsz
  obtain ⟨v0, vs0, d0, ds0, p0, q0, hargs, rfl, rfl, h0, r0⟩ := trodAll_cons hA
  obtain ⟨v1, vs1, d1, ds1, p1, q1, rfl, rfl, rfl, h1, r1⟩ := trodAll_cons r0
  obtain ⟨v2, vs2, d2, ds2, p2, q2, rfl, rfl, rfl, h2, r2⟩ := trodAll_cons r1
  obtain ⟨rfl, rfl, rfl⟩ := trodAll_nil r2
  obtain rfl : args = #[v0, v1, v2] := by cases args; simp_all
  obtain ⟨rfl, rfl⟩ := trodVars_none hV
  have k0 := h0
  have lt0 : ∀ x ∈ p0, x.block < W.heap.size := by obtain ⟨m, hm⟩ := k0; exact DataW.trod_lt m _ _ _ hm
  obtain ⟨x0, rfl, hv0⟩ := open_world_in (hval 0 28 v0 rfl rfl) h0
  have k1 := h1
  have lt1 : ∀ x ∈ p1, x.block < W.heap.size := by obtain ⟨m, hm⟩ := k1; exact DataW.trod_lt m _ _ _ hm
  obtain ⟨x1, rfl, hv1⟩ := open_route_in (hval 1 31 v1 rfl rfl) h1
  obtain ⟨a2, rfl, rfl, rfl, w2⟩ := open_int Try.underlying3 (hval 2 3 v2 rfl rfl) h2
  clear hA0 hval0
  refine (walk x0 hv0 x1 hv1 a2 w2).mono fun e W' ⟨he, bel⟩ => ?_
  subst he
  exact ⟨_, rfl, _, _, _, [], _, [], hW', trodAll_mk1 (shut_bool Try.underlying4 _), (trodAll_cons_mk (Below.trod laidOut (by kernel_rfl) (of_decide_eq_true (by kernel_rfl)) k0 bel lt0) (trodAll_cons_mk (Below.trod laidOut (by kernel_rfl) (of_decide_eq_true (by kernel_rfl)) k1 bel lt1) (trodAll_cons_mk (shut_int Try.underlying3 w2) trodAll_mk0))), rfl, bel.frame _, fun h => by cases h⟩

theorem over : Rows.routeFirstRow.holds Try.pinned (OpenSpec.ofChange Rows.routeFirstSpec) :=
  OpenClaim.holds_of_wide 6 Try.f6 rfl rfl rfl rfl rfl rfl rfl ⟨rfl, rfl, rfl, rfl, rfl⟩ rfl rfl rfl rfl rfl (by kernel_rfl) Try.func6 (by kernel_rfl)
    (of_decide_eq_true (by kernel_rfl)) (by unfold Func.isWrapper; first | (rw [if_pos (by decide +kernel)]; kernel_rfl) | (rw [if_neg (by decide +kernel)]; exact ⟨rfl, rfl⟩))
    (fun os started H enc _ => lifted os started H enc)

theorem proved : Rows.RouteFirstSaid := over
end Go.Proofs.Ytihnkklnkcideaa.routeFirst
