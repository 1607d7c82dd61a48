/- Every call of the law that the trip of any route in any world, or why there is none, whether the world may be, and where any truck is, are as the document says, answers true: for every world and route. No conditions. -/
import Derived.Test.YtihnkklnkcideaaRows
import Derived.Test.YtihnkklnkcideaaRouteOpen
import Derived.Test.YtihnkklnkcideaaRouteAw
import Derived.Test.YtihnkklnkcideaaRouteRD
import Derived.WalkKit
import Derived.ProofKit
import Derived.OpenShut
import Derived.ShutString
import Derived.ChangeOld
import Derived.Below
import Derived.SizedLaws
namespace Go.Proofs.Ytihnkklnkcideaa.routeTells
open Go.ChangeShapes Go.WideShapes Go.ChangeAt Go.RowKit
open Go.ChangeMaps (open_string shut_string)
set_option linter.unusedVariables false

theorem own : ownKnob Try.prog.godebug = none := by kernel_rfl
theorem laidOut : laidOutB Try.prog = true := by kernel_rfl

open Go.Proofs.Ytihnkklnkcideaa
set_option maxRecDepth 100000

set_option maxHeartbeats 2000000 in
theorem long_any (x : Wd) (r : Rd) (w : World) (hx : WorldIn w x) (hr : RouteIn w r) (h : Large x r) :
    Calls Try.prog 3 #[.agg #[.int .i64 x.N, .slice x.dA x.dm x.dc, .slice x.tA x.tm x.tc, .slice x.A x.m x.c, .slice x.B x.k x.d], .agg #[.int .i64 r.tr, .slice r.sA r.sm r.sc]] w fun e w' => e = .returned (.bool true) ∧ Below w.heap.size w w' := by
  have HB0 : Hid (Below w.heap.size w ((w.alloc (.cells #[.int .i64 x.N, .slice x.dA x.dm x.dc, .slice x.tA x.tm x.tc, .slice x.A x.m x.c, .slice x.B x.k x.d] 28)).alloc (.cells #[.int .i64 r.tr, .slice r.sA r.sm r.sc] 31))) := below_more (below_alloc _ _) _
  have HX := Lib.hid (LB.new w x r)
  have HC : Hid (∀ W, _) := fun W => large_yes x r W hx.mx hx.kx hx.dx hx.tx (Nat.le_trans hr.sc hr.sx) h
  have hsm : r.sm ≤ 9223372036854775807 := by have := hr.sc; have := hr.sx; unfold maxLen at this; omega
  clear h hx hr

  go_enter Try.func3, Try.ntmps3
  go_wp2_with fail
  with_reducible refine (awake_any _).mono ?_
  rintro e w1 ⟨rfl, hb1⟩
  have HB1 := Lib.hid (below_next HB0.out hb1)
  have HX1 := Lib.hid (HX.out.below hb1)
  have c0 := wbox0 HX1.out.w
  have c1 := wbox1 HX1.out.w
  have c2 := wbox2 HX1.out.w
  have c3 := wbox3 HX1.out.w
  have c4 := wbox4 HX1.out.w
  have r1 := rbox1 HX1.out.r
  clear hb1
  go_wp2_with fail
  with_reducible refine (HC.out _).mono ?_
  rintro e w2 ⟨rfl, hb2⟩
  clear c0 c1 c2 c3 c4 r1
  go_wp2
  go_ret
  exact ⟨rfl, below_next HB1.out hb2.out⟩

/-- the boxes of the law: the world and the route, both trips -/
structure TL (V : World) (b1 b2 q1 q2 : Nat) (x : Wd) (r : Rd) (vs : List Rt.V) (bk di co : Int) (A : Option Addr) (n cA : Nat) (A2 : Option Addr) (cA2 : Nat) : Prop where
  l : LW V b1 b2 x r
  t : Box V q1 #[.slice A n cA, .int .i64 bk, .int .i64 di, .int .i64 co] 36
  v : VisAt V A vs
  u : Box V q2 #[.slice A2 n cA2, .int .i64 bk, .int .i64 di, .int .i64 co] 42
  v2 : VisAt V A2 vs
theorem TL.below {V V' : World} {b1 b2 q1 q2 : Nat} {x : Wd} {r : Rd} {vs : List Rt.V} {bk di co : Int} {A : Option Addr} {n cA : Nat} {A2 : Option Addr} {cA2 : Nat} (h : TL V b1 b2 q1 q2 x r vs bk di co A n cA A2 cA2) (hb : Below V.heap.size V V') : TL V' b1 b2 q1 q2 x r vs bk di co A n cA A2 cA2 :=
  ⟨h.l.below hb, h.t.below hb, h.v.below hb, h.u.below hb, h.v2.below hb⟩

theorem res_len {N : Int} {D T : List Int} {os : List Ld.O} {ts : List Ld.T} {tr : Int} {st : List Int} : (Rt.runS N D T os ts tr st).vs.length ≤ 1000 := by
  by_cases h : (Rt.runS N D T os ts tr st).e = 0
  · obtain ⟨h1, h2⟩ := Rt.runs_of h
    rw [h2, Rt.trip_len, Rt.ordersOf_len]
    have := h1.l2
    omega
  · rw [(Rt.run_err h).1]
    exact Nat.zero_le _

set_option maxHeartbeats 20000000 in
theorem short_any (x : Wd) (r : Rd) (w : World) (hx : WorldIn w x) (hr : RouteIn w r) (h : ¬ Large x r) (hs : r.sm ≤ 100) :
    Calls Try.prog 3 #[.agg #[.int .i64 x.N, .slice x.dA x.dm x.dc, .slice x.tA x.tm x.tc, .slice x.A x.m x.c, .slice x.B x.k x.d], .agg #[.int .i64 r.tr, .slice r.sA r.sm r.sc]] w fun e w' => e = .returned (.bool true) ∧ Below w.heap.size w w' := by
  have HB0 : Hid (Below w.heap.size w ((w.alloc (.cells #[.int .i64 x.N, .slice x.dA x.dm x.dc, .slice x.tA x.tm x.tc, .slice x.A x.m x.c, .slice x.B x.k x.d] 28)).alloc (.cells #[.int .i64 r.tr, .slice r.sA r.sm r.sc] 31))) := below_more (below_alloc _ _) _
  have HX : Hid (LW ((w.alloc (.cells #[.int .i64 x.N, .slice x.dA x.dm x.dc, .slice x.tA x.tm x.tc, .slice x.A x.m x.c, .slice x.B x.k x.d] 28)).alloc (.cells #[.int .i64 r.tr, .slice r.sA r.sm r.sc] 31)) w.heap.size (w.heap.size + 1) x r) := ⟨LB.new w x r, (hx.at_ h).below HB0.out, (hr.at_ h).below HB0.out⟩
  have HC : Hid (∀ W, _) := fun W => large_no x r W h
  clear h hx hr
  go_enter Try.func3, Try.ntmps3
  go_wp2_with fail
  generalize ((w.alloc (.cells #[.int .i64 x.N, .slice x.dA x.dm x.dc, .slice x.tA x.tm x.tc, .slice x.A x.m x.c, .slice x.B x.k x.d] 28)).alloc (.cells #[.int .i64 r.tr, .slice r.sA r.sm r.sc] 31)) = V at *
  generalize w.heap.size + 1 = b2 at *
  generalize hb1 : w.heap.size = b1 at HX ⊢
  clear hb1
  with_reducible refine (awake_any _).mono ?_
  rintro e w1 ⟨rfl, hb1⟩
  have HB1 := Lib.hid (below_next HB0.out hb1)
  have HX1 := Lib.hid (HX.out.below hb1)
  have c0 := wbox0 HX1.out.b.w
  have c1 := wbox1 HX1.out.b.w
  have c2 := wbox2 HX1.out.b.w
  have c3 := wbox3 HX1.out.b.w
  have c4 := wbox4 HX1.out.b.w
  have r1 := rbox1 HX1.out.b.r
  clear hb1 HX HB0
  go_wp2_with fail
  with_reducible refine (HC.out _).mono ?_
  rintro e w2 ⟨rfl, hb2⟩
  clear c0 c1 c2 c3 c4 r1
  have HB2 := Lib.hid (below_next HB1.out hb2.out)
  have HX2 := Lib.hid (HX1.out.below hb2.out)
  have c0 := wbox0 HX2.out.b.w
  have c1 := wbox1 HX2.out.b.w
  have c2 := wbox2 HX2.out.b.w
  have c3 := wbox3 HX2.out.b.w
  have c4 := wbox4 HX2.out.b.w
  have r0 := rbox0 HX2.out.b.r
  have r1 := rbox1 HX2.out.b.r
  clear hb2 HX1 HB1 HC
  obtain ⟨res, hres⟩ : ∃ z, Rt.runS x.N x.D x.T x.os x.ts r.tr r.st = z := ⟨_, rfl⟩
  have HRES := Lib.hid hres
  have hnl : res.vs.length ≤ 1000 := by rw [← hres]; exact res_len
  have HC := Lib.hid (run_b x r w2 res hres HX2.out.x HX2.out.r)
  clear hres
  obtain ⟨n, hn⟩ : ∃ n, res.vs.length = n := ⟨_, rfl⟩
  rw [hn] at hnl
  have HN := Lib.hid hn
  clear hn
  go_wp2_with fail
  with_reducible refine HC.out.mono ?_
  rintro e w3 ⟨A, cA, rfl, h3⟩
  clear c0 c1 c2 c3 c4 r0 r1 HC
  rw [HN.out]
  have HVA := Lib.hid (VisAt.below h3.out.2.1 (below_alloc w3 (.cells #[.slice A n cA, .int .i64 res.back, .int .i64 res.dist, .int .i64 res.cost] 36)))
  have HBA := Lib.hid (below_more (below_next HB2.out h3.out.1) (.cells #[.slice A n cA, .int .i64 res.back, .int .i64 res.dist, .int .i64 res.cost] 36))
  have HXA := Lib.hid ((HX2.out.below h3.out.1).below (below_alloc w3 (.cells #[.slice A n cA, .int .i64 res.back, .int .i64 res.dist, .int .i64 res.cost] 36)))
  have HTA : Hid (Box (w3.alloc (.cells #[.slice A n cA, .int .i64 res.back, .int .i64 res.dist, .int .i64 res.cost] 36)) w3.heap.size #[.slice A n cA, .int .i64 res.back, .int .i64 res.dist, .int .i64 res.cost] 36) := Box.new _ _ _
  clear h3 HX2 HB2
  have c0 := wbox0 HXA.out.b.w
  have c1 := wbox1 HXA.out.b.w
  have c2 := wbox2 HXA.out.b.w
  have c3 := wbox3 HXA.out.b.w
  have c4 := wbox4 HXA.out.b.w
  have r0 := rbox0 HXA.out.b.r
  have r1 := rbox1 HXA.out.b.r
  go_wp2_with fail
  clear c0 c1 c2 c3 c4 r0 r1
  generalize w3.alloc (.cells #[.slice A n cA, .int .i64 res.back, .int .i64 res.dist, .int .i64 res.cost] 36) = V1 at *
  generalize w3.heap.size = q1 at *
  with_reducible refine (drun_b x r V1 res HRES.out HXA.out.x HXA.out.r).mono ?_
  rintro e w4 ⟨A2, cA2, rfl, h4⟩
  rw [HN.out]
  have HTL : Hid (TL (w4.alloc (.cells #[.slice A2 n cA2, .int .i64 res.back, .int .i64 res.dist, .int .i64 res.cost] 42)) b1 b2 q1 w4.heap.size x r res.vs res.back res.dist res.cost A n cA A2 cA2) :=
    ⟨(HXA.out.below h4.out.1).below (below_alloc _ _), (HTA.out.below h4.out.1).below (below_alloc _ _), (HVA.out.below h4.out.1).below (below_alloc _ _), Box.new _ _ _, VisAt.below h4.out.2.1 (below_alloc _ _)⟩
  have HBW := Lib.hid (below_more (below_next HBA.out h4.out.1) (.cells #[.slice A2 n cA2, .int .i64 res.back, .int .i64 res.dist, .int .i64 res.cost] 42))
  clear h4 HVA HBA HXA HTA
  go_wp2_with fail
  generalize w4.alloc (.cells #[.slice A2 n cA2, .int .i64 res.back, .int .i64 res.dist, .int .i64 res.cost] 42) = V2 at *
  generalize w4.heap.size = q2 at *
  have b0 : (res.e == res.e) = true := by simp
  generalize res.back = bk at *
  generalize res.dist = di at *
  generalize res.cost = co at *
  generalize res.e = re at *
  generalize res.vs = vs at *
  obtain ⟨wf, hwf⟩ : ∃ f, Rt.worldE x.N x.D x.T x.os x.ts = f := ⟨_, rfl⟩
  obtain ⟨kt, hkt⟩ : ∃ f, Ld.findI (x.ts.map Ld.T.id) r.tr = f := ⟨_, rfl⟩
  have HWF := Lib.hid hwf
  have HKT := Lib.hid hkt
  have b1' : (wf == wf) = true := by simp
  have b2' : (kt == kt) = true := by simp
  clear hwf hkt HRES
  have HCE : Hid (∀ U : World, Below V2.heap.size V2 U → (U.cell? ⟨b1, 0, none⟩ = some (.int .i64 x.N) ∧ U.cell? ⟨b1, 1, none⟩ = some (.slice x.dA x.dm x.dc) ∧ U.cell? ⟨b1, 2, none⟩ = some (.slice x.tA x.tm x.tc) ∧ U.cell? ⟨b1, 3, none⟩ = some (.slice x.A x.m x.c) ∧ U.cell? ⟨b1, 4, none⟩ = some (.slice x.B x.k x.d) ∧ U.cell? ⟨b2, 0, none⟩ = some (.int .i64 r.tr) ∧ U.cell? ⟨q1, 0, none⟩ = some (.slice A n cA) ∧ U.cell? ⟨q1, 1, none⟩ = some (.int .i64 bk) ∧ U.cell? ⟨q1, 2, none⟩ = some (.int .i64 di) ∧ U.cell? ⟨q1, 3, none⟩ = some (.int .i64 co) ∧ U.cell? ⟨q2, 0, none⟩ = some (.slice A2 n cA2) ∧ U.cell? ⟨q2, 1, none⟩ = some (.int .i64 bk) ∧ U.cell? ⟨q2, 2, none⟩ = some (.int .i64 di) ∧ U.cell? ⟨q2, 3, none⟩ = some (.int .i64 co) ∧ Below V2.heap.size V2 U)) := fun U hU => by
    have h := HTL.out.below hU
    exact ⟨wbox0 h.l.b.w, wbox1 h.l.b.w, wbox2 h.l.b.w, wbox3 h.l.b.w, wbox4 h.l.b.w, rbox0 h.l.b.r, h.t.cell 0 _ rfl, h.t.cell 1 _ rfl, h.t.cell 2 _ rfl, h.t.cell 3 _ rfl, h.u.cell 0 _ rfl, h.u.cell 1 _ rfl, h.u.cell 2 _ rfl, h.u.cell 3 _ rfl, hU⟩
  have HC0 : Hid (∀ U : World, (U.cell? ⟨b1, 0, none⟩ = some (.int .i64 x.N) ∧ U.cell? ⟨b1, 1, none⟩ = some (.slice x.dA x.dm x.dc) ∧ U.cell? ⟨b1, 2, none⟩ = some (.slice x.tA x.tm x.tc) ∧ U.cell? ⟨b1, 3, none⟩ = some (.slice x.A x.m x.c) ∧ U.cell? ⟨b1, 4, none⟩ = some (.slice x.B x.k x.d) ∧ U.cell? ⟨b2, 0, none⟩ = some (.int .i64 r.tr) ∧ U.cell? ⟨q1, 0, none⟩ = some (.slice A n cA) ∧ U.cell? ⟨q1, 1, none⟩ = some (.int .i64 bk) ∧ U.cell? ⟨q1, 2, none⟩ = some (.int .i64 di) ∧ U.cell? ⟨q1, 3, none⟩ = some (.int .i64 co) ∧ U.cell? ⟨q2, 0, none⟩ = some (.slice A2 n cA2) ∧ U.cell? ⟨q2, 1, none⟩ = some (.int .i64 bk) ∧ U.cell? ⟨q2, 2, none⟩ = some (.int .i64 di) ∧ U.cell? ⟨q2, 3, none⟩ = some (.int .i64 co) ∧ Below V2.heap.size V2 U) → Calls Try.prog 12 #[.agg #[.slice A n cA, .int .i64 bk, .int .i64 di, .int .i64 co]] U fun e U => ∃ A3 c3, e = .returned (.agg #[.slice A3 n c3, .int .i64 bk, .int .i64 di, .int .i64 co]) ∧ Hid (VisAt U A3 vs) ∧ (U.cell? ⟨b1, 0, none⟩ = some (.int .i64 x.N) ∧ U.cell? ⟨b1, 1, none⟩ = some (.slice x.dA x.dm x.dc) ∧ U.cell? ⟨b1, 2, none⟩ = some (.slice x.tA x.tm x.tc) ∧ U.cell? ⟨b1, 3, none⟩ = some (.slice x.A x.m x.c) ∧ U.cell? ⟨b1, 4, none⟩ = some (.slice x.B x.k x.d) ∧ U.cell? ⟨b2, 0, none⟩ = some (.int .i64 r.tr) ∧ U.cell? ⟨q1, 0, none⟩ = some (.slice A n cA) ∧ U.cell? ⟨q1, 1, none⟩ = some (.int .i64 bk) ∧ U.cell? ⟨q1, 2, none⟩ = some (.int .i64 di) ∧ U.cell? ⟨q1, 3, none⟩ = some (.int .i64 co) ∧ U.cell? ⟨q2, 0, none⟩ = some (.slice A2 n cA2) ∧ U.cell? ⟨q2, 1, none⟩ = some (.int .i64 bk) ∧ U.cell? ⟨q2, 2, none⟩ = some (.int .i64 di) ∧ U.cell? ⟨q2, 3, none⟩ = some (.int .i64 co) ∧ Below V2.heap.size V2 U)) := by
    rintro U ⟨_, _, _, _, _, _, _, _, _, _, _, _, _, _, h⟩
    exact (own_b A n cA bk di co vs U HN.out hnl (HTL.out.below h).v).mono fun _ _ ⟨A3, c3, e1, e2⟩ => ⟨A3, c3, e1, e2.out.2, HCE.out _ (below_next h e2.out.1)⟩
  have HC1 : Hid (∀ (U : World) (A3 : Option Addr) (c3 : Nat), (U.cell? ⟨b1, 0, none⟩ = some (.int .i64 x.N) ∧ U.cell? ⟨b1, 1, none⟩ = some (.slice x.dA x.dm x.dc) ∧ U.cell? ⟨b1, 2, none⟩ = some (.slice x.tA x.tm x.tc) ∧ U.cell? ⟨b1, 3, none⟩ = some (.slice x.A x.m x.c) ∧ U.cell? ⟨b1, 4, none⟩ = some (.slice x.B x.k x.d) ∧ U.cell? ⟨b2, 0, none⟩ = some (.int .i64 r.tr) ∧ U.cell? ⟨q1, 0, none⟩ = some (.slice A n cA) ∧ U.cell? ⟨q1, 1, none⟩ = some (.int .i64 bk) ∧ U.cell? ⟨q1, 2, none⟩ = some (.int .i64 di) ∧ U.cell? ⟨q1, 3, none⟩ = some (.int .i64 co) ∧ U.cell? ⟨q2, 0, none⟩ = some (.slice A2 n cA2) ∧ U.cell? ⟨q2, 1, none⟩ = some (.int .i64 bk) ∧ U.cell? ⟨q2, 2, none⟩ = some (.int .i64 di) ∧ U.cell? ⟨q2, 3, none⟩ = some (.int .i64 co) ∧ Below V2.heap.size V2 U) → Hid (VisAt U A3 vs) → Calls Try.prog 11 #[.agg #[.slice A3 n c3, .int .i64 bk, .int .i64 di, .int .i64 co], .agg #[.slice A2 n cA2, .int .i64 bk, .int .i64 di, .int .i64 co]] U fun e U => e = .returned (.bool true) ∧ (U.cell? ⟨b1, 0, none⟩ = some (.int .i64 x.N) ∧ U.cell? ⟨b1, 1, none⟩ = some (.slice x.dA x.dm x.dc) ∧ U.cell? ⟨b1, 2, none⟩ = some (.slice x.tA x.tm x.tc) ∧ U.cell? ⟨b1, 3, none⟩ = some (.slice x.A x.m x.c) ∧ U.cell? ⟨b1, 4, none⟩ = some (.slice x.B x.k x.d) ∧ U.cell? ⟨b2, 0, none⟩ = some (.int .i64 r.tr) ∧ U.cell? ⟨q1, 0, none⟩ = some (.slice A n cA) ∧ U.cell? ⟨q1, 1, none⟩ = some (.int .i64 bk) ∧ U.cell? ⟨q1, 2, none⟩ = some (.int .i64 di) ∧ U.cell? ⟨q1, 3, none⟩ = some (.int .i64 co) ∧ U.cell? ⟨q2, 0, none⟩ = some (.slice A2 n cA2) ∧ U.cell? ⟨q2, 1, none⟩ = some (.int .i64 bk) ∧ U.cell? ⟨q2, 2, none⟩ = some (.int .i64 di) ∧ U.cell? ⟨q2, 3, none⟩ = some (.int .i64 co) ∧ Below V2.heap.size V2 U)) := by
    rintro U A3 c3 ⟨_, _, _, _, _, _, _, _, _, _, _, _, _, _, h⟩ hv
    exact (same_b A3 A2 n c3 cA2 bk di co vs U HN.out hnl hv.out (HTL.out.below h).v2).mono fun _ _ ⟨e1, e2⟩ => ⟨e1, HCE.out _ (below_next h e2.out)⟩
  have HC2 : Hid (∀ U : World, (U.cell? ⟨b1, 0, none⟩ = some (.int .i64 x.N) ∧ U.cell? ⟨b1, 1, none⟩ = some (.slice x.dA x.dm x.dc) ∧ U.cell? ⟨b1, 2, none⟩ = some (.slice x.tA x.tm x.tc) ∧ U.cell? ⟨b1, 3, none⟩ = some (.slice x.A x.m x.c) ∧ U.cell? ⟨b1, 4, none⟩ = some (.slice x.B x.k x.d) ∧ U.cell? ⟨b2, 0, none⟩ = some (.int .i64 r.tr) ∧ U.cell? ⟨q1, 0, none⟩ = some (.slice A n cA) ∧ U.cell? ⟨q1, 1, none⟩ = some (.int .i64 bk) ∧ U.cell? ⟨q1, 2, none⟩ = some (.int .i64 di) ∧ U.cell? ⟨q1, 3, none⟩ = some (.int .i64 co) ∧ U.cell? ⟨q2, 0, none⟩ = some (.slice A2 n cA2) ∧ U.cell? ⟨q2, 1, none⟩ = some (.int .i64 bk) ∧ U.cell? ⟨q2, 2, none⟩ = some (.int .i64 di) ∧ U.cell? ⟨q2, 3, none⟩ = some (.int .i64 co) ∧ Below V2.heap.size V2 U) → Calls Try.prog 13 #[.agg #[.int .i64 x.N, .slice x.dA x.dm x.dc, .slice x.tA x.tm x.tc, .slice x.A x.m x.c, .slice x.B x.k x.d]] U fun e U => e = .returned (.int .i64 wf) ∧ (U.cell? ⟨b1, 0, none⟩ = some (.int .i64 x.N) ∧ U.cell? ⟨b1, 1, none⟩ = some (.slice x.dA x.dm x.dc) ∧ U.cell? ⟨b1, 2, none⟩ = some (.slice x.tA x.tm x.tc) ∧ U.cell? ⟨b1, 3, none⟩ = some (.slice x.A x.m x.c) ∧ U.cell? ⟨b1, 4, none⟩ = some (.slice x.B x.k x.d) ∧ U.cell? ⟨b2, 0, none⟩ = some (.int .i64 r.tr) ∧ U.cell? ⟨q1, 0, none⟩ = some (.slice A n cA) ∧ U.cell? ⟨q1, 1, none⟩ = some (.int .i64 bk) ∧ U.cell? ⟨q1, 2, none⟩ = some (.int .i64 di) ∧ U.cell? ⟨q1, 3, none⟩ = some (.int .i64 co) ∧ U.cell? ⟨q2, 0, none⟩ = some (.slice A2 n cA2) ∧ U.cell? ⟨q2, 1, none⟩ = some (.int .i64 bk) ∧ U.cell? ⟨q2, 2, none⟩ = some (.int .i64 di) ∧ U.cell? ⟨q2, 3, none⟩ = some (.int .i64 co) ∧ Below V2.heap.size V2 U)) := by
    rintro U ⟨_, _, _, _, _, _, _, _, _, _, _, _, _, _, h⟩
    exact (rworld_b x U wf HWF.out (HTL.out.below h).l.x).mono fun _ _ ⟨e1, e2⟩ => ⟨e1, HCE.out _ (below_next h e2.out)⟩
  have HC3 : Hid (∀ U : World, (U.cell? ⟨b1, 0, none⟩ = some (.int .i64 x.N) ∧ U.cell? ⟨b1, 1, none⟩ = some (.slice x.dA x.dm x.dc) ∧ U.cell? ⟨b1, 2, none⟩ = some (.slice x.tA x.tm x.tc) ∧ U.cell? ⟨b1, 3, none⟩ = some (.slice x.A x.m x.c) ∧ U.cell? ⟨b1, 4, none⟩ = some (.slice x.B x.k x.d) ∧ U.cell? ⟨b2, 0, none⟩ = some (.int .i64 r.tr) ∧ U.cell? ⟨q1, 0, none⟩ = some (.slice A n cA) ∧ U.cell? ⟨q1, 1, none⟩ = some (.int .i64 bk) ∧ U.cell? ⟨q1, 2, none⟩ = some (.int .i64 di) ∧ U.cell? ⟨q1, 3, none⟩ = some (.int .i64 co) ∧ U.cell? ⟨q2, 0, none⟩ = some (.slice A2 n cA2) ∧ U.cell? ⟨q2, 1, none⟩ = some (.int .i64 bk) ∧ U.cell? ⟨q2, 2, none⟩ = some (.int .i64 di) ∧ U.cell? ⟨q2, 3, none⟩ = some (.int .i64 co) ∧ Below V2.heap.size V2 U) → Calls Try.prog 14 #[.agg #[.int .i64 x.N, .slice x.dA x.dm x.dc, .slice x.tA x.tm x.tc, .slice x.A x.m x.c, .slice x.B x.k x.d]] U fun e U => e = .returned (.int .i64 wf) ∧ (U.cell? ⟨b1, 0, none⟩ = some (.int .i64 x.N) ∧ U.cell? ⟨b1, 1, none⟩ = some (.slice x.dA x.dm x.dc) ∧ U.cell? ⟨b1, 2, none⟩ = some (.slice x.tA x.tm x.tc) ∧ U.cell? ⟨b1, 3, none⟩ = some (.slice x.A x.m x.c) ∧ U.cell? ⟨b1, 4, none⟩ = some (.slice x.B x.k x.d) ∧ U.cell? ⟨b2, 0, none⟩ = some (.int .i64 r.tr) ∧ U.cell? ⟨q1, 0, none⟩ = some (.slice A n cA) ∧ U.cell? ⟨q1, 1, none⟩ = some (.int .i64 bk) ∧ U.cell? ⟨q1, 2, none⟩ = some (.int .i64 di) ∧ U.cell? ⟨q1, 3, none⟩ = some (.int .i64 co) ∧ U.cell? ⟨q2, 0, none⟩ = some (.slice A2 n cA2) ∧ U.cell? ⟨q2, 1, none⟩ = some (.int .i64 bk) ∧ U.cell? ⟨q2, 2, none⟩ = some (.int .i64 di) ∧ U.cell? ⟨q2, 3, none⟩ = some (.int .i64 co) ∧ Below V2.heap.size V2 U)) := by
    rintro U ⟨_, _, _, _, _, _, _, _, _, _, _, _, _, _, h⟩
    exact (dworld_b x U wf HWF.out (HTL.out.below h).l.x).mono fun _ _ ⟨e1, e2⟩ => ⟨e1, HCE.out _ (below_next h e2.out)⟩
  have HC4 : Hid (∀ U : World, (U.cell? ⟨b1, 0, none⟩ = some (.int .i64 x.N) ∧ U.cell? ⟨b1, 1, none⟩ = some (.slice x.dA x.dm x.dc) ∧ U.cell? ⟨b1, 2, none⟩ = some (.slice x.tA x.tm x.tc) ∧ U.cell? ⟨b1, 3, none⟩ = some (.slice x.A x.m x.c) ∧ U.cell? ⟨b1, 4, none⟩ = some (.slice x.B x.k x.d) ∧ U.cell? ⟨b2, 0, none⟩ = some (.int .i64 r.tr) ∧ U.cell? ⟨q1, 0, none⟩ = some (.slice A n cA) ∧ U.cell? ⟨q1, 1, none⟩ = some (.int .i64 bk) ∧ U.cell? ⟨q1, 2, none⟩ = some (.int .i64 di) ∧ U.cell? ⟨q1, 3, none⟩ = some (.int .i64 co) ∧ U.cell? ⟨q2, 0, none⟩ = some (.slice A2 n cA2) ∧ U.cell? ⟨q2, 1, none⟩ = some (.int .i64 bk) ∧ U.cell? ⟨q2, 2, none⟩ = some (.int .i64 di) ∧ U.cell? ⟨q2, 3, none⟩ = some (.int .i64 co) ∧ Below V2.heap.size V2 U) → Calls Try.prog 15 #[.agg #[.int .i64 x.N, .slice x.dA x.dm x.dc, .slice x.tA x.tm x.tc, .slice x.A x.m x.c, .slice x.B x.k x.d], .int .i64 r.tr] U fun e U => e = .returned (.int .i64 kt) ∧ (U.cell? ⟨b1, 0, none⟩ = some (.int .i64 x.N) ∧ U.cell? ⟨b1, 1, none⟩ = some (.slice x.dA x.dm x.dc) ∧ U.cell? ⟨b1, 2, none⟩ = some (.slice x.tA x.tm x.tc) ∧ U.cell? ⟨b1, 3, none⟩ = some (.slice x.A x.m x.c) ∧ U.cell? ⟨b1, 4, none⟩ = some (.slice x.B x.k x.d) ∧ U.cell? ⟨b2, 0, none⟩ = some (.int .i64 r.tr) ∧ U.cell? ⟨q1, 0, none⟩ = some (.slice A n cA) ∧ U.cell? ⟨q1, 1, none⟩ = some (.int .i64 bk) ∧ U.cell? ⟨q1, 2, none⟩ = some (.int .i64 di) ∧ U.cell? ⟨q1, 3, none⟩ = some (.int .i64 co) ∧ U.cell? ⟨q2, 0, none⟩ = some (.slice A2 n cA2) ∧ U.cell? ⟨q2, 1, none⟩ = some (.int .i64 bk) ∧ U.cell? ⟨q2, 2, none⟩ = some (.int .i64 di) ∧ U.cell? ⟨q2, 3, none⟩ = some (.int .i64 co) ∧ Below V2.heap.size V2 U)) := by
    rintro U ⟨_, _, _, _, _, _, _, _, _, _, _, _, _, _, h⟩
    exact (truck_b x r.tr U kt HKT.out (HTL.out.below h).l.x).mono fun _ _ ⟨e1, e2⟩ => ⟨e1, HCE.out _ (below_next h e2.out)⟩
  have HC5 : Hid (∀ U : World, (U.cell? ⟨b1, 0, none⟩ = some (.int .i64 x.N) ∧ U.cell? ⟨b1, 1, none⟩ = some (.slice x.dA x.dm x.dc) ∧ U.cell? ⟨b1, 2, none⟩ = some (.slice x.tA x.tm x.tc) ∧ U.cell? ⟨b1, 3, none⟩ = some (.slice x.A x.m x.c) ∧ U.cell? ⟨b1, 4, none⟩ = some (.slice x.B x.k x.d) ∧ U.cell? ⟨b2, 0, none⟩ = some (.int .i64 r.tr) ∧ U.cell? ⟨q1, 0, none⟩ = some (.slice A n cA) ∧ U.cell? ⟨q1, 1, none⟩ = some (.int .i64 bk) ∧ U.cell? ⟨q1, 2, none⟩ = some (.int .i64 di) ∧ U.cell? ⟨q1, 3, none⟩ = some (.int .i64 co) ∧ U.cell? ⟨q2, 0, none⟩ = some (.slice A2 n cA2) ∧ U.cell? ⟨q2, 1, none⟩ = some (.int .i64 bk) ∧ U.cell? ⟨q2, 2, none⟩ = some (.int .i64 di) ∧ U.cell? ⟨q2, 3, none⟩ = some (.int .i64 co) ∧ Below V2.heap.size V2 U) → Calls Try.prog 16 #[.agg #[.int .i64 x.N, .slice x.dA x.dm x.dc, .slice x.tA x.tm x.tc, .slice x.A x.m x.c, .slice x.B x.k x.d], .int .i64 r.tr] U fun e U => e = .returned (.int .i64 kt) ∧ (U.cell? ⟨b1, 0, none⟩ = some (.int .i64 x.N) ∧ U.cell? ⟨b1, 1, none⟩ = some (.slice x.dA x.dm x.dc) ∧ U.cell? ⟨b1, 2, none⟩ = some (.slice x.tA x.tm x.tc) ∧ U.cell? ⟨b1, 3, none⟩ = some (.slice x.A x.m x.c) ∧ U.cell? ⟨b1, 4, none⟩ = some (.slice x.B x.k x.d) ∧ U.cell? ⟨b2, 0, none⟩ = some (.int .i64 r.tr) ∧ U.cell? ⟨q1, 0, none⟩ = some (.slice A n cA) ∧ U.cell? ⟨q1, 1, none⟩ = some (.int .i64 bk) ∧ U.cell? ⟨q1, 2, none⟩ = some (.int .i64 di) ∧ U.cell? ⟨q1, 3, none⟩ = some (.int .i64 co) ∧ U.cell? ⟨q2, 0, none⟩ = some (.slice A2 n cA2) ∧ U.cell? ⟨q2, 1, none⟩ = some (.int .i64 bk) ∧ U.cell? ⟨q2, 2, none⟩ = some (.int .i64 di) ∧ U.cell? ⟨q2, 3, none⟩ = some (.int .i64 co) ∧ Below V2.heap.size V2 U)) := by
    rintro U ⟨_, _, _, _, _, _, _, _, _, _, _, _, _, _, h⟩
    exact (dtruck_b x r.tr U kt HKT.out (HTL.out.below h).l.x).mono fun _ _ ⟨e1, e2⟩ => ⟨e1, HCE.out _ (below_next h e2.out)⟩
  obtain ⟨c0, c1, c2, c3, c4, c5, c6, c7, c8, c9, c10, c11, c12, c13, _⟩ := HCE.out V2 (Below.refl _ _)
  have hB := (Below.refl V2.heap.size V2).drew
  clear HCE
  go_wp2
  go_region_held3 (fun U : World => (U.cell? ⟨b1, 0, none⟩ = some (.int .i64 x.N) ∧ U.cell? ⟨b1, 1, none⟩ = some (.slice x.dA x.dm x.dc) ∧ U.cell? ⟨b1, 2, none⟩ = some (.slice x.tA x.tm x.tc) ∧ U.cell? ⟨b1, 3, none⟩ = some (.slice x.A x.m x.c) ∧ U.cell? ⟨b1, 4, none⟩ = some (.slice x.B x.k x.d) ∧ U.cell? ⟨b2, 0, none⟩ = some (.int .i64 r.tr) ∧ U.cell? ⟨q1, 0, none⟩ = some (.slice A n cA) ∧ U.cell? ⟨q1, 1, none⟩ = some (.int .i64 bk) ∧ U.cell? ⟨q1, 2, none⟩ = some (.int .i64 di) ∧ U.cell? ⟨q1, 3, none⟩ = some (.int .i64 co) ∧ U.cell? ⟨q2, 0, none⟩ = some (.slice A2 n cA2) ∧ U.cell? ⟨q2, 1, none⟩ = some (.int .i64 bk) ∧ U.cell? ⟨q2, 2, none⟩ = some (.int .i64 di) ∧ U.cell? ⟨q2, 3, none⟩ = some (.int .i64 co) ∧ Below V2.heap.size V2 U)) (first | exact ⟨c0, c1, c2, c3, c4, c5, c6, c7, c8, c9, c10, c11, c12, c13, hB⟩ | exact ⟨k0, k1, k2, k3, k4, k5, k6, k7, k8, k9, k10, k11, k12, k13, kb⟩ | assumption)
    (first
      | (go_at_call 11; ((with_reducible refine (HC1.out _ _ _ (by assumption) HVO).mono ?_)); rintro e w7 ⟨rfl, k0, k1, k2, k3, k4, k5, k6, k7, k8, k9, k10, k11, k12, k13, kb⟩)
      | (go_at_call 12; ((with_reducible refine (HC0.out _ (by assumption)).mono ?_)); rintro e w7 ⟨A3, cA3, rfl, HVO, k0, k1, k2, k3, k4, k5, k6, k7, k8, k9, k10, k11, k12, k13, kb⟩)
      | (go_at_call 13; ((with_reducible refine (HC2.out _ (by assumption)).mono ?_)); rintro e w7 ⟨rfl, k0, k1, k2, k3, k4, k5, k6, k7, k8, k9, k10, k11, k12, k13, kb⟩)
      | (go_at_call 14; ((with_reducible refine (HC3.out _ (by assumption)).mono ?_)); rintro e w7 ⟨rfl, k0, k1, k2, k3, k4, k5, k6, k7, k8, k9, k10, k11, k12, k13, kb⟩)
      | (go_at_call 15; ((with_reducible refine (HC4.out _ (by assumption)).mono ?_)); rintro e w7 ⟨rfl, k0, k1, k2, k3, k4, k5, k6, k7, k8, k9, k10, k11, k12, k13, kb⟩)
      | (go_at_call 16; ((with_reducible refine (HC5.out _ (by assumption)).mono ?_)); rintro e w7 ⟨rfl, k0, k1, k2, k3, k4, k5, k6, k7, k8, k9, k10, k11, k12, k13, kb⟩))
  all_goals
    have KB := Lib.hid (below_next HBW.out kb)
    clear k0 k1 k2 k3 k4 k5 k6 k7 k8 k9 k10 k11 k12 k13 kb c0 c1 c2 c3 c4 c5 c6 c7 c8 c9 c10 c11 c12 c13
    go_wp2
    go_ret
    exact ⟨rfl, KB.out⟩

theorem walk (x : Wd) {W : World} (hx : WorldIn W x) (r : Rd) (hr : RouteIn W r) :
    Calls Try.prog 3 #[.agg #[.int .i64 x.N, .slice x.dA x.dm x.dc, .slice x.tA x.tm x.tc, .slice x.A x.m x.c, .slice x.B x.k x.d], .agg #[.int .i64 r.tr, .slice r.sA r.sm r.sc]] W fun e w' => e = .returned (.bool true) ∧ Below W.heap.size W w' := by
  by_cases h : Large x r
  · exact long_any x r W hx hr h
  · exact short_any x r W hx hr h (by unfold Large at h; omega)

set_option maxRecDepth 100000 in
theorem lifted (os : Os) (started : os.Started) (H : Type) (enc : TypeId × Value → H) :
    ReturnsInHanded {} Try.checked os 3 .any (Rows.routeTellsSpec.pre6 enc Try.prog Try.f3 Rows.routeTellsRow.domain false) (Rows.routeTellsSpec.post enc Try.prog Try.f3 false true false false) := by
  refine returnsInHanded_of_change_sized (C := Try.checked) own started (by kernel_rfl) Try.func3
    (ChangeSpec.witness6 (enc := enc) (C := Try.checked) false ⟨#[], #[.agg #[.int .i64 0, .slice none 0 0, .slice none 0 0, .slice none 0 0, .slice none 0 0], .agg #[.int .i64 0, .slice none 0 0]], []⟩ 8 (by kernel_rfl) (by kernel_rfl) (by kernel_rfl) (by kernel_rfl)) ?_
  intro W base args ds gs before hval0 hW _ hsz0 _
  have hsz : (DataW.weightsEach Try.prog (Try.f3.params.toList ++ Rows.routeTellsSpec.plain.varTypes Try.prog) (ds ++ gs)).all (· ≤ reachBytes) = true := hsz0
  have hval : ∀ (j : Nat) t v, Try.f3.params[j]? = some t → args[j]? = some v → Value.okWide Try.prog W .any base t v := hval0
  have hW' := hW
  obtain ⟨p, q, hA0, hV, rfl, hfz, hnd⟩ := hW
  have hA : DataW.TrodAll enc Try.prog W 0 (fun _ => true) true Try.f3.params.toList args.toList ds p := hA0
  rw [Try.params3] at hA hval hsz
  obtain ⟨v0, vs0, d0, ds0, p0, q0, hargs, rfl, rfl, h0, r0⟩ := trodAll_cons hA
  obtain ⟨v1, vs1, d1, ds1, p1, q1, rfl, rfl, rfl, h1, r1⟩ := trodAll_cons r0
  obtain ⟨rfl, rfl, rfl⟩ := trodAll_nil r1
  obtain rfl : args = #[v0, v1] := by cases args; simp_all
  obtain ⟨rfl, rfl⟩ := trodVars_none hV
  have k0 := h0
  have lt0 : ∀ x ∈ p0, x.block < W.heap.size := by obtain ⟨m, hm⟩ := k0; exact DataW.trod_lt m _ _ _ hm
  obtain ⟨x0, rfl, hv0⟩ := open_world_in (hval 0 28 v0 rfl rfl) h0
  have k1 := h1
  have lt1 : ∀ x ∈ p1, x.block < W.heap.size := by obtain ⟨m, hm⟩ := k1; exact DataW.trod_lt m _ _ _ hm
  obtain ⟨x1, rfl, hv1⟩ := open_route_in (hval 1 31 v1 rfl rfl) h1
  clear hA0 hval0
  refine (walk x0 hv0 x1 hv1).mono fun e W' ⟨he, bel⟩ => ?_
  subst he
  exact ⟨_, rfl, _, _, _, [], _, [], hW', trodAll_mk1 (shut_bool Try.underlying4 _), (trodAll_cons_mk (Below.trod laidOut (by kernel_rfl) (of_decide_eq_true (by kernel_rfl)) k0 bel lt0) (trodAll_cons_mk (Below.trod laidOut (by kernel_rfl) (of_decide_eq_true (by kernel_rfl)) k1 bel lt1) trodAll_mk0)), rfl, bel.frame _, fun h => by cases h⟩

theorem over : Rows.routeTellsRow.holds Try.pinned (OpenSpec.ofChange Rows.routeTellsSpec) :=
  OpenClaim.holds_of_wide 3 Try.f3 rfl rfl rfl rfl rfl rfl rfl ⟨rfl, rfl, rfl, rfl, rfl⟩ rfl rfl rfl rfl rfl (by kernel_rfl) Try.func3 (by kernel_rfl)
    (of_decide_eq_true (by kernel_rfl)) (by unfold Func.isWrapper; first | (rw [if_pos (by decide +kernel)]; kernel_rfl) | (rw [if_neg (by decide +kernel)]; exact ⟨rfl, rfl⟩))
    (fun os started H enc _ => lifted os started H enc)

theorem proved : Rows.RouteTellsSaid := over
end Go.Proofs.Ytihnkklnkcideaa.routeTells
