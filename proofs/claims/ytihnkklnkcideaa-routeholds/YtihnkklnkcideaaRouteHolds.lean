/- Every call of the law that a trip holds what a route must, each order begun within its time, the truck back in time, and carrying all, answers true: for every world and route. No conditions. -/
import Derived.Test.YtihnkklnkcideaaRows
import Derived.Test.YtihnkklnkcideaaRouteOpen
import Derived.Test.YtihnkklnkcideaaRouteAw
import Derived.Test.YtihnkklnkcideaaRouteMath3
import Derived.BigRegion
import Derived.RegionTactic
import Derived.WalkKit
import Derived.ProofKit
import Derived.OpenShut
import Derived.ShutString
import Derived.ChangeOld
import Derived.Below
import Derived.SizedLaws
namespace Go.Proofs.Ytihnkklnkcideaa.routeHolds
open Go.ChangeShapes Go.WideShapes Go.ChangeAt Go.RowKit
open Go.ChangeMaps (open_string shut_string)
set_option linter.unusedVariables false

theorem own : ownKnob Try.prog.godebug = none := by kernel_rfl
theorem laidOut : laidOutB Try.prog = true := by kernel_rfl

open Go.Proofs.Ytihnkklnkcideaa
set_option maxRecDepth 100000

set_option maxHeartbeats 2000000 in
theorem long_any (x : Wd) (r : Rd) (w : World) (hx : WorldIn w x) (hr : RouteIn w r) (h : Large x r) :
    Calls Try.prog 5 #[.agg #[.int .i64 x.N, .slice x.dA x.dm x.dc, .slice x.tA x.tm x.tc, .slice x.A x.m x.c, .slice x.B x.k x.d], .agg #[.int .i64 r.tr, .slice r.sA r.sm r.sc]] w fun e w' => e = .returned (.bool true) ∧ Below w.heap.size w w' := by
  have HB0 : Hid (Below w.heap.size w ((w.alloc (.cells #[.int .i64 x.N, .slice x.dA x.dm x.dc, .slice x.tA x.tm x.tc, .slice x.A x.m x.c, .slice x.B x.k x.d] 28)).alloc (.cells #[.int .i64 r.tr, .slice r.sA r.sm r.sc] 31))) := below_more (below_alloc _ _) _
  have HX := Lib.hid (LB.new w x r)
  have HC : Hid (∀ W, _) := fun W => large_yes x r W hx.mx hx.kx hx.dx hx.tx (Nat.le_trans hr.sc hr.sx) h
  have hsm : r.sm ≤ 9223372036854775807 := by have := hr.sc; have := hr.sx; unfold maxLen at this; omega
  clear h hx hr

  go_enter Try.func5, Try.ntmps5
  go_wp2_with fail
  with_reducible refine (awake_any _).mono ?_
  rintro e w1 ⟨rfl, hb1⟩
  have HB1 := Lib.hid (below_next HB0.out hb1)
  have HX1 := Lib.hid (HX.out.below hb1)
  have c0 := wbox0 HX1.out.w
  have c1 := wbox1 HX1.out.w
  have c2 := wbox2 HX1.out.w
  have c3 := wbox3 HX1.out.w
  have c4 := wbox4 HX1.out.w
  have r1 := rbox1 HX1.out.r
  clear hb1
  go_wp2_with fail
  with_reducible refine (HC.out _).mono ?_
  rintro e w2 ⟨rfl, hb2⟩
  clear c0 c1 c2 c3 c4 r1
  go_wp2
  go_ret
  exact ⟨rfl, below_next HB1.out hb2.out⟩

/-- what the walk's rounds hold on to: the boxes, the trip, the truck -/
structure HB (V : World) (b1 b2 q1 tb : Nat) (x : Wd) (r : Rd) (res : Rt.R) (A : Option Addr) (n cA : Nat) (t0 t1 t2 t3 t4 t5 t6 : Int) : Prop where
  l : LW V b1 b2 x r
  t : Box V q1 #[.slice A n cA, .int .i64 res.back, .int .i64 res.dist, .int .i64 res.cost] 36
  v : VisAt V A res.vs
  k : Box V tb #[.int .i64 t0, .int .i64 t1, .int .i64 t2, .int .i64 t3, .int .i64 t4, .int .i64 t5, .int .i64 t6] 51
theorem HB.below {V V' : World} {b1 b2 q1 tb : Nat} {x : Wd} {r : Rd} {res : Rt.R} {A : Option Addr} {n cA : Nat} {t0 t1 t2 t3 t4 t5 t6 : Int} (h : HB V b1 b2 q1 tb x r res A n cA t0 t1 t2 t3 t4 t5 t6) (hb : Below V.heap.size V V') : HB V' b1 b2 q1 tb x r res A n cA t0 t1 t2 t3 t4 t5 t6 :=
  ⟨h.l.below hb, h.t.below hb, h.v.below hb, h.k.below hb⟩

set_option maxHeartbeats 10000000 in
theorem short_any (x : Wd) (r : Rd) (w : World) (hx : WorldIn w x) (hr : RouteIn w r) (h : ¬ Large x r) (hs : r.sm ≤ 100) :
    Calls Try.prog 5 #[.agg #[.int .i64 x.N, .slice x.dA x.dm x.dc, .slice x.tA x.tm x.tc, .slice x.A x.m x.c, .slice x.B x.k x.d], .agg #[.int .i64 r.tr, .slice r.sA r.sm r.sc]] w fun e w' => e = .returned (.bool true) ∧ Below w.heap.size w w' := by
  have HB0 : Hid (Below w.heap.size w ((w.alloc (.cells #[.int .i64 x.N, .slice x.dA x.dm x.dc, .slice x.tA x.tm x.tc, .slice x.A x.m x.c, .slice x.B x.k x.d] 28)).alloc (.cells #[.int .i64 r.tr, .slice r.sA r.sm r.sc] 31))) := below_more (below_alloc _ _) _
  have HX : Hid (LW ((w.alloc (.cells #[.int .i64 x.N, .slice x.dA x.dm x.dc, .slice x.tA x.tm x.tc, .slice x.A x.m x.c, .slice x.B x.k x.d] 28)).alloc (.cells #[.int .i64 r.tr, .slice r.sA r.sm r.sc] 31)) w.heap.size (w.heap.size + 1) x r) := ⟨LB.new w x r, (hx.at_ h).below HB0.out, (hr.at_ h).below HB0.out⟩
  have HC : Hid (∀ W, _) := fun W => large_no x r W h
  have HSL := Lib.hid hr.sl
  have HKL := Lib.hid hx.kl
  have HML := Lib.hid hx.ml
  have hk50 : x.k ≤ 50 := by unfold Large at h; omega
  have hm50 : x.m ≤ 50 := by unfold Large at h; omega
  clear h hx hr
  go_enter Try.func5, Try.ntmps5
  go_wp2_with fail
  generalize ((w.alloc (.cells #[.int .i64 x.N, .slice x.dA x.dm x.dc, .slice x.tA x.tm x.tc, .slice x.A x.m x.c, .slice x.B x.k x.d] 28)).alloc (.cells #[.int .i64 r.tr, .slice r.sA r.sm r.sc] 31)) = V at *
  generalize w.heap.size + 1 = b2 at *
  generalize hb1 : w.heap.size = b1 at HX ⊢
  clear hb1
  with_reducible refine (awake_any _).mono ?_
  rintro e w1 ⟨rfl, hb1⟩
  have HB1 := Lib.hid (below_next HB0.out hb1)
  have HX1 := Lib.hid (HX.out.below hb1)
  have c0 := wbox0 HX1.out.b.w
  have c1 := wbox1 HX1.out.b.w
  have c2 := wbox2 HX1.out.b.w
  have c3 := wbox3 HX1.out.b.w
  have c4 := wbox4 HX1.out.b.w
  have r1 := rbox1 HX1.out.b.r
  clear hb1 HX HB0
  go_wp2_with fail
  with_reducible refine (HC.out _).mono ?_
  rintro e w2 ⟨rfl, hb2⟩
  clear c0 c1 c2 c3 c4 r1
  have HB2 := Lib.hid (below_next HB1.out hb2.out)
  have HX2 := Lib.hid (HX1.out.below hb2.out)
  have c0 := wbox0 HX2.out.b.w
  have c1 := wbox1 HX2.out.b.w
  have c2 := wbox2 HX2.out.b.w
  have c3 := wbox3 HX2.out.b.w
  have c4 := wbox4 HX2.out.b.w
  have r0 := rbox0 HX2.out.b.r
  have r1 := rbox1 HX2.out.b.r
  clear hb2 HX1 HB1 HC
  obtain ⟨res, hres⟩ : ∃ z, Rt.runS x.N x.D x.T x.os x.ts r.tr r.st = z := ⟨_, rfl⟩
  have HRES := Lib.hid hres
  have HC := Lib.hid (run_b x r w2 res hres HX2.out.x HX2.out.r)
  clear hres
  go_wp2_with fail
  with_reducible refine HC.out.mono ?_
  rintro e w3 ⟨A, cA, rfl, h3⟩
  clear c0 c1 c2 c3 c4 r0 r1 HC
  obtain ⟨n, hn⟩ : ∃ n, res.vs.length = n := ⟨_, rfl⟩
  have HN := Lib.hid hn
  rw [hn]
  clear hn
  have HVA := Lib.hid (VisAt.below h3.out.2.1 (below_alloc w3 (.cells #[.slice A n cA, .int .i64 res.back, .int .i64 res.dist, .int .i64 res.cost] 36)))
  have HBA := Lib.hid (below_more (below_next HB2.out h3.out.1) (.cells #[.slice A n cA, .int .i64 res.back, .int .i64 res.dist, .int .i64 res.cost] 36))
  have HXA := Lib.hid ((HX2.out.below h3.out.1).below (below_alloc w3 (.cells #[.slice A n cA, .int .i64 res.back, .int .i64 res.dist, .int .i64 res.cost] 36)))
  have HTA : Hid (Box (w3.alloc (.cells #[.slice A n cA, .int .i64 res.back, .int .i64 res.dist, .int .i64 res.cost] 36)) w3.heap.size #[.slice A n cA, .int .i64 res.back, .int .i64 res.dist, .int .i64 res.cost] 36) := Box.new _ _ _
  clear h3 HX2 HB2
  by_cases e0 : res.e = 0
  · have e1 : (res.e != 0) = false := by rw [e0]; rfl
    have hruns := (Rt.runs_of (by rw [HRES.out]; exact e0)).1
    have HRU := Lib.hid hruns
    obtain ⟨kt, t, hkt, hktl, htk, hti⟩ := Rt.find_mem Ld.T.id x.ts r.tr hruns.tk
    have HTT := Lib.hid (Rt.truckAt_eq hkt htk)
    have htok := (Rt.ok_of hruns.w).tt t (List.mem_of_getElem? htk)
    have hvs : res.vs = Rt.visits x.N x.D x.T ⟨0, t.start, 0⟩ (Rt.ordersOf x.os r.st) := by
      rw [← HRES.out, hruns.run]
      show Rt.visits x.N x.D x.T ⟨0, (Rt.truckAt x.ts r.tr).start, 0⟩ _ = _
      rw [Rt.truckAt_eq hkt htk]
    have hit := hruns.it
    rw [Rt.truckAt_eq hkt htk] at hit
    have hl : n = r.sm := by rw [← HN.out, hvs, Rt.visits_len, Rt.ordersOf_len, HSL.out]
    have HIT := Lib.hid hit
    have HVS := Lib.hid hvs
    have HKT := Lib.hid hkt
    have HTK := Lib.hid htk
    obtain ⟨t0, t1, t2, t3, t4, t5, t6⟩ := t
    have hb0 := htok.st0
    have hb1 : t3 ≤ 1000000 := Int.le_trans htok.st1 htok.fi1
    have hb2 := htok.fx0
    have hb3 := htok.fx1
    have hb4 := htok.ra0
    have hb5 := htok.ra1
    simp only at hb0 hb2 hb3 hb4 hb5 HVS HIT
    have i1 : (kt : Int) < (x.k : Int) := by rw [← HKL.out]; omega
    have i2 : decide ((kt : Int) < 0) = false := decide_eq_false (by omega)
    have k1 : ((n : Int) != (r.sm : Int)) = false := by rw [hl]; simp
    have k1' : (n != r.sm) = false := by rw [hl]; simp
    have HLN := Lib.hid hl
    clear hl hruns hkt hktl htk hti htok hvs hit e0
    have c0 := wbox0 HXA.out.b.w
    have c1 := wbox1 HXA.out.b.w
    have c2 := wbox2 HXA.out.b.w
    have c3 := wbox3 HXA.out.b.w
    have c4 := wbox4 HXA.out.b.w
    have r0 := rbox0 HXA.out.b.r
    go_wp2_with fail
    generalize w3.alloc (.cells #[.slice A n cA, .int .i64 res.back, .int .i64 res.dist, .int .i64 res.cost] 36) = V1 at *
    generalize w3.heap.size = q1 at *
    with_reducible refine (truck_b x r.tr V1 (kt : Int) HKT.out HXA.out.x).mono ?_
    rintro e w4 ⟨rfl, h4⟩
    have HB4 := Lib.hid (below_next HBA.out h4.out)
    have HX4 := Lib.hid (HXA.out.below h4.out)
    have HT4 := Lib.hid (HTA.out.below h4.out)
    have HV4 := Lib.hid (HVA.out.below h4.out)
    clear h4 c0 c1 c2 c3 c4 r0 HXA HTA HVA HBA
    have c4 := wbox4 HX4.out.b.w
    have r1 := rbox1 HX4.out.b.r
    have z0 := HT4.out.cell 0 _ rfl
    obtain ⟨ab, hab, c0, c1, c2, c3, g4, c5, c6⟩ := HX4.out.x.ts.at_ HTK.out
    simp only at c0 c1 c2 c3 g4 c5 c6
    have HAB := Lib.hid hab
    clear hab
    generalize x.B = xB at *
    obtain rfl := HAB.out
    have HH : Hid (HB (w4.alloc (.cells #[.int .i64 t0, .int .i64 t1, .int .i64 t2, .int .i64 t3, .int .i64 t4, .int .i64 t5, .int .i64 t6] 51)) b1 b2 q1 w4.heap.size x r res A n cA t0 t1 t2 t3 t4 t5 t6) := ⟨HX4.out.below (below_alloc _ _), HT4.out.below (below_alloc _ _), HV4.out.below (below_alloc _ _), Box.new _ _ _⟩
    have HBT := Lib.hid (below_more HB4.out (.cells #[.int .i64 t0, .int .i64 t1, .int .i64 t2, .int .i64 t3, .int .i64 t4, .int .i64 t5, .int .i64 t6] 51))
    have z0' := HH.out.t.cell 0 _ rfl
    clear HX4 HT4 HV4 HB4
    go_wp2_with fail
    clear z0 z0' c0 c1 c2 c3 c4 g4 c5 c6 r1 k1 k1' i2
    generalize w4.alloc (.cells #[.int .i64 t0, .int .i64 t1, .int .i64 t2, .int .i64 t3, .int .i64 t4, .int .i64 t5, .int .i64 t6] 51) = U at *
    generalize w4.heap.size = tb at *
    have hok := Rt.ok_of HRU.out.w
    obtain ⟨nn, hnn⟩ : ∃ nn, x.N.toNat = nn := ⟨_, rfl⟩
    rw [hnn] at hok
    have HAR := Lib.hid hok.ar
    have hn16 := hok.ar.n16
    have hn1 := hok.ar.n1
    have HOO := Lib.hid HRU.out.oo
    have hl12 : Hid ((Rt.ordersOf x.os r.st).length ≤ 12) := by unfold Hid; rw [Rt.ordersOf_len]; exact HRU.out.l2
    have hsm12 : r.sm ≤ 12 := by rw [← HSL.out]; exact HRU.out.l2
    obtain ⟨id0, hid0⟩ := mlist_at r.st 0 HRU.out.l1
    obtain ⟨p0, o0, hp0, _, _, _⟩ := HRU.out.order hid0
    obtain ⟨aq, has, _⟩ := HH.out.l.r.st 0 id0 hid0
    obtain ⟨ao, hao, _⟩ := HH.out.l.x.os.at_ hp0
    obtain ⟨_, ad, at', _, _, _, had, hat, _, _⟩ := at_ok HAR.out HH.out.l.x.ar (f := 0) (t := 0) (by omega) (by omega)
    obtain ⟨v9, hv9⟩ := mlist_at res.vs 0 (by rw [HN.out, HLN.out, ← HSL.out]; exact HRU.out.l1)
    obtain ⟨av, hav, _⟩ := HH.out.v.at_ hv9
    have HWC : Hid (∀ U' : World, Below U.heap.size U U' → (U'.cell? ⟨b1, 0, none⟩ = some (.int .i64 (nn : Int)) ∧ U'.cell? ⟨b1, 1, none⟩ = some (.slice (some ad) x.dm x.dc) ∧ U'.cell? ⟨b1, 2, none⟩ = some (.slice (some at') x.tm x.tc) ∧ U'.cell? ⟨b1, 3, none⟩ = some (.slice (some ao) x.m x.c) ∧ U'.cell? ⟨b2, 1, none⟩ = some (.slice (some aq) r.sm r.sc))) := fun U' hU => by
      have h := HH.out.below hU
      exact ⟨by rw [← HAR.out.cast]; exact wbox0 h.l.b.w, by rw [← had]; exact wbox1 h.l.b.w, by rw [← hat]; exact wbox2 h.l.b.w, by rw [← hao]; exact wbox3 h.l.b.w, by rw [← has]; exact rbox1 h.l.b.r⟩
    have HST : Hid (∀ U' : World, Below U.heap.size U U' → ∀ (i : Nat) (id : Int), r.st[i]? = some id → U'.cell? (aq.add i) = some (.int .i64 id)) := fun U' hU i id hi => by
      obtain ⟨aq', e, hc⟩ := (HH.out.below hU).l.r.st i id hi
      rw [has] at e
      obtain rfl := Option.some.inj e
      exact hc
    have HOA : Hid (∀ U' : World, Below U.heap.size U U' → ∀ (j : Nat) (o : Ld.O), x.os[j]? = some o → OAt U' (ao.add (j * 8)) o) := fun U' hU j o hj => by
      obtain ⟨ao', e, hc⟩ := (HH.out.below hU).l.x.os.at_ hj
      rw [hao] at e
      obtain rfl := Option.some.inj e
      exact hc
    have HVI : Hid (∀ U' : World, Below U.heap.size U U' → ∀ (i : Nat) (v : Rt.V), res.vs[i]? = some v → VAt U' (av.add (i * 4)) v) := fun U' hU i v hi => by
      obtain ⟨av', e, hc⟩ := (HH.out.below hU).v.at_ hi
      rw [hav] at e
      obtain rfl := Option.some.inj e
      exact hc
    have HLEG : Hid (∀ U' : World, Below U.heap.size U U' → ∀ (f t : Nat), f < nn → t < nn → f * nn + t < x.dm ∧ f * nn + t < x.tm ∧ U'.cell? (ad.add (f * nn + t)) = some (.int .i64 (Ar.at2 x.N x.D (f : Int) (t : Int))) ∧ U'.cell? (at'.add (f * nn + t)) = some (.int .i64 (Ar.at2 x.N x.T (f : Int) (t : Int)))) := fun U' hU f t hf ht => by
      obtain ⟨p, ad', at2', hp, h1, h2, e1, e2, h3, h4⟩ := at_ok HAR.out (HH.out.below hU).l.x.ar hf ht
      rw [had] at e1
      rw [hat] at e2
      obtain rfl := Option.some.inj e1
      obtain rfl := Option.some.inj e2
      subst hp
      exact ⟨h1, h2, h3, h4⟩
    have HAV := Lib.hid hav
    clear hok hnn hid0 hp0 has hao had hat hv9 hav
    generalize A = AA at *
    obtain rfl := HAV.out
    go_loopg [4, 9, 10, 11, 12, 13, 60] n (fun gk s4 s9 s10 s11 s12 s13 s60 W => ∃ (i f : Nat) (tim dis we vo : Int) (W0 : World), W0 = W ∧ i + gk = n ∧ s4 = .bool false ∧ s9 = .int .i64 tim ∧ s10 = .int .i64 (f : Int) ∧ s11 = .int .i64 we ∧ s12 = .int .i64 vo ∧ s13 = .int .i64 dis ∧ s60 = .int .i64 (i : Int) ∧ Hid (Below U.heap.size U W0) ∧ Hid (Rt.St x.N x.D x.T t3 (Rt.ordersOf x.os r.st) i (f : Int) tim dis we vo))
    case atStart => exact ⟨0, 0, t3, 0, 0, 0, _, rfl, by omega, rfl, rfl, rfl, rfl, rfl, rfl, rfl, Below.refl _ _, Rt.St.zero _ _ _ _ _⟩
    case round =>
      obtain ⟨i, f, tim, dis, we, vo, W0, rfl, hig, rfl, rfl, rfl, rfl, rfl, rfl, rfl, HBW, HS⟩ := hrel
      by_cases hlt : i < n
      · obtain ⟨go, rfl⟩ : ∃ j, gk = j + 1 := ⟨gk - 1, by omega⟩
        obtain ⟨v, hv⟩ := mlist_at res.vs i (by rw [HN.out]; exact hlt)
        obtain ⟨c0, c1, c2, c3⟩ := HVI.out W0 HBW.out i v hv
        obtain ⟨v0, v1, v2, v3⟩ := v
        simp only at c0 c1 c2 c3
        obtain ⟨id, hid⟩ := mlist_at r.st i (by rw [HSL.out, ← HLN.out]; exact hlt)
        obtain ⟨p, o, hp1, hp2, hp3, hp4⟩ := HRU.out.order hid
        have hpm : p < x.m := by rw [← HML.out]; exact (List.getElem?_eq_some_iff.1 hp1).1
        have HID := Lib.hid hid
        have HV := Lib.hid hv
        have HP1 := Lib.hid hp1
        have HP2 := Lib.hid hp2
        have HP4 := Lib.hid hp4
        have HP3 : Hid (∀ a : Ld.O, a = o → a.id = id) := fun a e => by rw [e]; exact hp3
        have i3 : (i : Int) < (n : Int) := by omega
        have hism : i < r.sm := by rw [← HLN.out]; exact hlt
        have HBI := Lib.hid (below_more HBW.out (.cells #[.int .i64 v0, .int .i64 v1, .int .i64 v2, .int .i64 v3] 53))
        have HVB : Hid (Box (W0.alloc (.cells #[.int .i64 v0, .int .i64 v1, .int .i64 v2, .int .i64 v3] 53)) W0.heap.size #[.int .i64 v0, .int .i64 v1, .int .i64 v2, .int .i64 v3] 53) := Box.new _ _ _
        have x3 := (HWC.out _ HBI.out).2.2.2.1
        clear hv hid hp1 hp2 hp3 hp4
        go_wp2_with fail
        clear c0 c1 c2 c3 x3
        generalize W0.alloc (.cells #[.int .i64 v0, .int .i64 v1, .int .i64 v2, .int .i64 v3] 53) = W1 at *
        generalize W0.heap.size = vb at *
        go_loopg [4, 9, 10, 11, 12, 13, 68] x.m (fun gk s4 s9 s10 s11 s12 s13 s68 W => ∃ (j f : Nat) (tim dis we vo : Int) (W2 : World), W2 = W ∧ j + gk = x.m ∧ s4 = .bool false ∧ s9 = .int .i64 tim ∧ s10 = .int .i64 (f : Int) ∧ s11 = .int .i64 we ∧ s12 = .int .i64 vo ∧ s13 = .int .i64 dis ∧ s68 = .int .i64 (j : Int) ∧ Hid (Below W1.heap.size W1 W2) ∧ Hid (Rt.St x.N x.D x.T t3 (Rt.ordersOf x.os r.st) (if j ≤ p then i else i + 1) (f : Int) tim dis we vo))
        case atStart => exact ⟨0, f, tim, dis, we, vo, _, rfl, by omega, rfl, rfl, rfl, rfl, rfl, rfl, rfl, Below.refl _ _, by unfold Hid; rw [if_pos (by omega)]; exact HS.out⟩
        case round =>
          clear HS HBW
          obtain ⟨j, f, tim, dis, we, vo, W2, rfl, hjg, rfl, rfl, rfl, rfl, rfl, rfl, rfl, HB2, HS⟩ := hrel
          have HBU := Lib.hid (below_next HBI.out HB2.out)
          by_cases hjl : j < x.m
          · obtain ⟨gi, rfl⟩ : ∃ j, gk = j + 1 := ⟨gk - 1, by omega⟩
            obtain ⟨u, hu⟩ := mlist_at x.os j (by rw [HML.out]; exact hjl)
            obtain ⟨c0, c1, c2, c3, c4, c5, c6, c7⟩ := HOA.out W2 HBU.out j u hu
            obtain ⟨a0, a1, a2, a3, a4, a5, a6, a7⟩ := u
            simp only at c0 c1 c2 c3 c4 c5 c6 c7
            have HBA := Lib.hid (below_more HBU.out (.cells #[.int .i64 a0, .int .i64 a1, .int .i64 a2, .int .i64 a3, .int .i64 a4, .int .i64 a5, .int .i64 a6, .int .i64 a7] 56))
            have HB2A := Lib.hid (below_more HB2.out (.cells #[.int .i64 a0, .int .i64 a1, .int .i64 a2, .int .i64 a3, .int .i64 a4, .int .i64 a5, .int .i64 a6, .int .i64 a7] 56))
            have HVA := Lib.hid (HVB.out.below HB2A.out)
            obtain ⟨x0, x1, x2, x3, x4⟩ := HWC.out _ HBA.out
            have s0 := HST.out _ HBA.out i id HID.out
            have i4 : (i : Int) < (r.sm : Int) := by omega
            by_cases hid : a0 = id
            · have hjp : j = p := HP4.out j _ hu hid
              subst hjp
              have h2 := HP2.out
              rw [show o = ⟨a0, a1, a2, a3, a4, a5, a6, a7⟩ from by have h1 := HP1.out; rw [hu] at h1; exact (Option.some.inj h1).symm] at h2
              have hst := HS.out
              rw [if_pos (Nat.le_refl _)] at hst
              obtain ⟨hnd, ⟨g1, g2⟩, ⟨g3, g4⟩, ⟨g5, g6⟩, g7, g8⟩ := hst.bd HAR.out HOO.out hl12.out hb0 hb1
              have hoo := HOO.out _ (List.mem_of_getElem? h2)
              have hn2 := Rt.OOk.has hoo
              obtain ⟨dd, tt, z, y, e, hnx⟩ := hst.next h2 HIT.out
              have hvv := hnx.hv
              rw [← HVS.out, HV.out] at hvv
              injection Option.some.inj hvv with e1 e2 e3 e4
              subst e2 e3 e4
              have hbd := HAR.out.at_d hnd hn2
              have hbt := HAR.out.at_t hnd hn2
              rw [hnx.hd] at hbd
              rw [hnx.ht] at hbt
              have hfn : f < nn := by have h5 := ((Ar.has_iff _ _).1 hnd).2; rw [HAR.out.cast] at h5; omega
              have ho2 : 1 ≤ a2 := hoo.no0
              have ho3 : a2 < (nn : Int) := by rw [← HAR.out.cast]; exact hoo.no1
              have o3 : 1 ≤ a3 ∧ a3 ≤ 1000000 := ⟨hoo.we0, hoo.we1⟩
              have o4 : 1 ≤ a4 ∧ a4 ≤ 1000000 := ⟨hoo.vo0, hoo.vo1⟩
              have o5 : 0 ≤ a5 ∧ a5 ≤ a6 ∧ a6 ≤ 1000000 := ⟨hoo.fr0, hoo.fr1, hoo.to1⟩
              have o7 : 0 ≤ a7 ∧ a7 ≤ 10000 := ⟨hoo.se0, hoo.se1⟩
              obtain ⟨t, rfl⟩ : ∃ t : Nat, a2 = (t : Int) := ⟨a2.toNat, by omega⟩
              obtain ⟨l1, l2, y1, y2⟩ := HLEG.out _ HBA.out f t hfn (by omega)
              rw [hnx.hd] at y1
              rw [hnx.ht] at y2
              obtain ⟨q, hq⟩ : ∃ q, f * nn = q := ⟨_, rfl⟩
              rw [hq] at l1 l2 y1 y2
              have hqc : (f : Int) * (nn : Int) = (q : Int) := by rw [← hq]; simp
              have h400 := HH.out.l.x.ar.d400
              have hz := hnx.hz
              have hy := hnx.hy
              have he := hnx.he
              have hh := hnx.hh
              have HS2 : Hid (Rt.St x.N x.D x.T t3 (Rt.ordersOf x.os r.st) (if j + 1 ≤ j then i else i + 1) (t : Int) v3 (dis + dd) (we + a3) (vo + a4)) := by
                unfold Hid
                rw [if_neg (by omega)]
                exact hnx.hs
              have m0 : (a0 != id) = false := by rw [hid]; simp
              have m1 : (v0 != a0) = false := by rw [e1]; simp
              have m2 : (v1 != tim + tt) = false := by rw [hz]; simp
              have m4 : decide (a6 < v2) = false := decide_eq_false (by omega)
              have m5 : (v3 != v2 + a7) = false := by rw [he]; simp
              have hv2 : 0 ≤ v2 ∧ v2 ≤ 1000000 := by omega
              have w1 : IntKind.i64.wrap (tim + tt) = tim + tt := IntWalk.i64_in _ (by omega)
              have w2 : IntKind.i64.wrap (v2 + a7) = v2 + a7 := IntWalk.i64_in _ (by omega)
              have w3 : IntKind.i64.wrap (we + a3) = we + a3 := IntWalk.i64_in _ (by omega)
              have w4 : IntKind.i64.wrap (vo + a4) = vo + a4 := IntWalk.i64_in _ (by omega)
              have w5 : IntKind.i64.wrap (dis + dd) = dis + dd := IntWalk.i64_in _ (by omega)
              have i5 : (0 : Int) ≤ (q : Int) + (t : Int) := by omega
              have i6 : (q : Int) + (t : Int) < (x.tm : Int) := by omega
              have i7 : (q : Int) + (t : Int) < (x.dm : Int) := by omega
              have i8 : ((q : Int) + (t : Int)).toNat = q + t := by omega
              have q0 := HVA.out.cell 0 _ rfl
              have q1' := HVA.out.cell 1 _ rfl
              have q2 := HVA.out.cell 2 _ rfl
              have q3 := HVA.out.cell 3 _ rfl
              have hmx : (a5 ≤ v1 ∧ v2 = v1) ∨ (v1 < a5 ∧ v2 = a5) := by omega
              clear hu h2 hst hnd hoo hn2 hnx hvv e1 hid HS hfn ho2 ho3 hq hz hy he hh o3 o4 o5 o7 hbd hbt
              rcases hmx with ⟨hm1, hm2⟩ | ⟨hm1, hm2⟩
              · have hm3 : ¬ v1 < a5 := by omega
                have m3 : (v2 != v1) = false := by rw [hm2]; simp
                clear hm2
                go_wp2
                go_quiet (fail)
                go_wp2
                go_quiet (fail)
                go_wp2
                go_quiet (fail)
                go_wp2
                go_quiet (fail)
                go_wp2
                go_roundg gi
                case measure => omega
                case rel => exact ⟨j + 1, t, v3, dis + dd, we + a3, vo + a4, _, rfl, by omega, rfl, rfl, rfl, rfl, rfl, rfl, by first | rfl | go_num, HB2A.out.trans ⟨rfl, rfl, rfl, Nat.le_refl _, fun _ _ => rfl⟩, HS2.out⟩
              · have hm3 : ¬ a5 ≤ v1 := by omega
                have m3 : (v2 != a5) = false := by rw [hm2]; simp
                clear hm2
                go_wp2
                go_quiet (fail)
                go_wp2
                go_quiet (fail)
                go_wp2
                go_quiet (fail)
                go_wp2
                go_quiet (fail)
                go_wp2
                go_roundg gi
                case measure => omega
                case rel => exact ⟨j + 1, t, v3, dis + dd, we + a3, vo + a4, _, rfl, by omega, rfl, rfl, rfl, rfl, rfl, rfl, by first | rfl | go_num, HB2A.out.trans ⟨rfl, rfl, rfl, Nat.le_refl _, fun _ _ => rfl⟩, HS2.out⟩
            · have m0 : (a0 != id) = true := bne_iff_ne.2 hid
              have hjp : j ≠ p := fun e => by
                subst e
                have h1 := HP1.out
                rw [hu] at h1
                exact hid (HP3.out _ (Option.some.inj h1))
              have HS2 : Hid (Rt.St x.N x.D x.T t3 (Rt.ordersOf x.os r.st) (if j + 1 ≤ p then i else i + 1) (f : Int) tim dis we vo) := by
                have h1 := HS.out
                by_cases h2 : j ≤ p
                · rw [if_pos h2] at h1
                  unfold Hid
                  rw [if_pos (by omega)]
                  exact h1
                · rw [if_neg h2] at h1
                  unfold Hid
                  rw [if_neg (by omega)]
                  exact h1
              clear hu hid hjp x0 x1 x2 x3
              go_wp2
              go_quiet (fail)
              go_wp2
              go_roundg gi
              case measure => omega
              case rel => exact ⟨j + 1, f, tim, dis, we, vo, _, rfl, by omega, rfl, rfl, rfl, rfl, rfl, rfl, by first | rfl | go_num, HB2A.out.trans ⟨rfl, rfl, rfl, Nat.le_refl _, fun _ _ => rfl⟩, HS2.out⟩
          · have hjm : j = x.m := by omega
            have HS2 : Hid (Rt.St x.N x.D x.T t3 (Rt.ordersOf x.os r.st) (i + 1) (f : Int) tim dis we vo) := by
              have h1 := HS.out
              rw [if_neg (by omega)] at h1
              exact h1
            subst hjm
            go_wp2
            go_roundg go
            case measure => omega
            case rel => exact ⟨i + 1, f, tim, dis, we, vo, _, rfl, by omega, rfl, rfl, rfl, rfl, rfl, rfl, by first | rfl | go_num, HBU.out, HS2.out⟩
      · have hin : i = n := by omega
        have hst := HS.out
        rw [show i = r.st.length from by rw [hin, HLN.out, HSL.out]] at hst
        obtain ⟨hnd, ⟨g1, g2⟩, ⟨g3, g4⟩, ⟨g5, g6⟩, g7, g8⟩ := hst.bd HAR.out HOO.out hl12.out hb0 hb1
        obtain ⟨l1, l2, l3, l4, l5, l6⟩ := HRU.out.last HTT.out hst
        rw [HRES.out] at l4 l5 l6
        have hbd := HAR.out.at_d hnd HAR.out.has0
        have hbt := HAR.out.at_t hnd HAR.out.has0
        have hfn : f < nn := by have h5 := ((Ar.has_iff _ _).1 hnd).2; rw [HAR.out.cast] at h5; omega
        obtain ⟨j1, j2, y1, y2⟩ := HLEG.out _ HBW.out f 0 hfn (by omega)
        rw [show ((0 : Nat) : Int) = 0 from rfl] at y1 y2
        generalize Ar.at2 x.N x.D (f : Int) 0 = dd at *
        generalize Ar.at2 x.N x.T (f : Int) 0 = tt at *
        obtain ⟨q, hq⟩ : ∃ q, f * nn = q := ⟨_, rfl⟩
        rw [hq, Nat.add_zero] at j1 j2 y1 y2
        have hqc : (f : Int) * (nn : Int) = (q : Int) := by rw [← hq]; simp
        have h400 := HH.out.l.x.ar.d400
        have HT0 := Lib.hid (HH.out.below HBW.out)
        obtain ⟨x0, x1, x2, x3, x4⟩ := HWC.out _ HBW.out
        have z1 : W0.cell? ⟨q1, 1, none⟩ = some (.int .i64 res.back) := HT0.out.t.cell 1 _ rfl
        have z2 : W0.cell? ⟨q1, 2, none⟩ = some (.int .i64 res.dist) := HT0.out.t.cell 2 _ rfl
        have z3 : W0.cell? ⟨q1, 3, none⟩ = some (.int .i64 res.cost) := HT0.out.t.cell 3 _ rfl
        have k1 : W0.cell? ⟨tb, 1, none⟩ = some (.int .i64 t1) := HT0.out.k.cell 1 _ rfl
        have k2 : W0.cell? ⟨tb, 2, none⟩ = some (.int .i64 t2) := HT0.out.k.cell 2 _ rfl
        have k4 : W0.cell? ⟨tb, 4, none⟩ = some (.int .i64 t4) := HT0.out.k.cell 4 _ rfl
        have k5 : W0.cell? ⟨tb, 5, none⟩ = some (.int .i64 t5) := HT0.out.k.cell 5 _ rfl
        have k6 : W0.cell? ⟨tb, 6, none⟩ = some (.int .i64 t6) := HT0.out.k.cell 6 _ rfl
        have bdi : 0 ≤ res.dist ∧ res.dist ≤ 30000000 := by omega
        have e4 : 0 ≤ t6 * res.dist := Int.mul_nonneg hb4 bdi.1
        have e5 : t6 * res.dist ≤ 30000000000 := by
          have h1 : t6 * res.dist ≤ 1000 * res.dist := Int.mul_le_mul_of_nonneg_right hb5 bdi.1
          omega
        have m1 : decide (we ≤ t1) = true := decide_eq_true l1
        have m2 : decide (vo ≤ t2) = true := decide_eq_true l2
        have m3 : (res.back == tim + tt) = true := by rw [l4]; simp
        have m4 : decide (res.back ≤ t4) = true := decide_eq_true (by omega)
        have m5 : (res.dist == dis + dd) = true := by rw [l5]; simp
        have m6 : (res.cost == t5 + t6 * res.dist) = true := by rw [l6, l5]; simp
        have w1 : IntKind.i64.wrap (tim + tt) = tim + tt := IntWalk.i64_in _ (by omega)
        have w2 : IntKind.i64.wrap (dis + dd) = dis + dd := IntWalk.i64_in _ (by omega)
        have w3 : IntKind.i64.wrap (t6 * res.dist) = t6 * res.dist := IntWalk.i64_in _ (by omega)
        have w4 : IntKind.i64.wrap (t5 + t6 * res.dist) = t5 + t6 * res.dist := IntWalk.i64_in _ (by omega)
        have i6 : (q : Int) < (x.tm : Int) := by omega
        have i7 : (q : Int) < (x.dm : Int) := by omega
        clear hst hnd l1 l2 l3 l4 l5 l6 hbd hbt hfn hq hin HS
        go_wp2
        go_quiet (fail)
        go_wp2
        go_ret
        exact ⟨rfl, (below_next HBT.out HBW.out).trans ⟨rfl, rfl, rfl, Nat.le_refl _, fun _ _ => rfl⟩⟩
  · have e1 : (res.e != 0) = true := bne_iff_ne.2 e0
    clear e0
    go_wp2
    go_ret
    exact ⟨rfl, HBA.out⟩

theorem walk (x : Wd) {W : World} (hx : WorldIn W x) (r : Rd) (hr : RouteIn W r) :
    Calls Try.prog 5 #[.agg #[.int .i64 x.N, .slice x.dA x.dm x.dc, .slice x.tA x.tm x.tc, .slice x.A x.m x.c, .slice x.B x.k x.d], .agg #[.int .i64 r.tr, .slice r.sA r.sm r.sc]] W fun e w' => e = .returned (.bool true) ∧ Below W.heap.size W w' := by
  by_cases h : Large x r
  · exact long_any x r W hx hr h
  · exact short_any x r W hx hr h (by unfold Large at h; omega)

set_option maxRecDepth 100000 in
theorem lifted (os : Os) (started : os.Started) (H : Type) (enc : TypeId × Value → H) :
    ReturnsInHanded {} Try.checked os 5 .any (Rows.routeHoldsSpec.pre6 enc Try.prog Try.f5 Rows.routeHoldsRow.domain false) (Rows.routeHoldsSpec.post enc Try.prog Try.f5 false true false false) := by
  refine returnsInHanded_of_change_sized (C := Try.checked) own started (by kernel_rfl) Try.func5
    (ChangeSpec.witness6 (enc := enc) (C := Try.checked) false ⟨#[], #[.agg #[.int .i64 0, .slice none 0 0, .slice none 0 0, .slice none 0 0, .slice none 0 0], .agg #[.int .i64 0, .slice none 0 0]], []⟩ 8 (by kernel_rfl) (by kernel_rfl) (by kernel_rfl) (by kernel_rfl)) ?_
  intro W base args ds gs before hval0 hW _ hsz0 _
  have hsz : (DataW.weightsEach Try.prog (Try.f5.params.toList ++ Rows.routeHoldsSpec.plain.varTypes Try.prog) (ds ++ gs)).all (· ≤ reachBytes) = true := hsz0
  have hval : ∀ (j : Nat) t v, Try.f5.params[j]? = some t → args[j]? = some v → Value.okWide Try.prog W .any base t v := hval0
  have hW' := hW
  obtain ⟨p, q, hA0, hV, rfl, hfz, hnd⟩ := hW
  have hA : DataW.TrodAll enc Try.prog W 0 (fun _ => true) true Try.f5.params.toList args.toList ds p := hA0
  rw [Try.params5] at hA hval hsz
  obtain ⟨v0, vs0, d0, ds0, p0, q0, hargs, rfl, rfl, h0, r0⟩ := trodAll_cons hA
  obtain ⟨v1, vs1, d1, ds1, p1, q1, rfl, rfl, rfl, h1, r1⟩ := trodAll_cons r0
  obtain ⟨rfl, rfl, rfl⟩ := trodAll_nil r1
  obtain rfl : args = #[v0, v1] := by cases args; simp_all
  obtain ⟨rfl, rfl⟩ := trodVars_none hV
  have k0 := h0
  have lt0 : ∀ x ∈ p0, x.block < W.heap.size := by obtain ⟨m, hm⟩ := k0; exact DataW.trod_lt m _ _ _ hm
  obtain ⟨x0, rfl, hv0⟩ := open_world_in (hval 0 28 v0 rfl rfl) h0
  have k1 := h1
  have lt1 : ∀ x ∈ p1, x.block < W.heap.size := by obtain ⟨m, hm⟩ := k1; exact DataW.trod_lt m _ _ _ hm
  obtain ⟨x1, rfl, hv1⟩ := open_route_in (hval 1 31 v1 rfl rfl) h1
  clear hA0 hval0
  refine (walk x0 hv0 x1 hv1).mono fun e W' ⟨he, bel⟩ => ?_
  subst he
  exact ⟨_, rfl, _, _, _, [], _, [], hW', trodAll_mk1 (shut_bool Try.underlying4 _), (trodAll_cons_mk (Below.trod laidOut (by kernel_rfl) (of_decide_eq_true (by kernel_rfl)) k0 bel lt0) (trodAll_cons_mk (Below.trod laidOut (by kernel_rfl) (of_decide_eq_true (by kernel_rfl)) k1 bel lt1) trodAll_mk0)), rfl, bel.frame _, fun h => by cases h⟩

theorem over : Rows.routeHoldsRow.holds Try.pinned (OpenSpec.ofChange Rows.routeHoldsSpec) :=
  OpenClaim.holds_of_wide 5 Try.f5 rfl rfl rfl rfl rfl rfl rfl ⟨rfl, rfl, rfl, rfl, rfl⟩ rfl rfl rfl rfl rfl (by kernel_rfl) Try.func5 (by kernel_rfl)
    (of_decide_eq_true (by kernel_rfl)) (by unfold Func.isWrapper; first | (rw [if_pos (by decide +kernel)]; kernel_rfl) | (rw [if_neg (by decide +kernel)]; exact ⟨rfl, rfl⟩))
    (fun os started H enc _ => lifted os started H enc)

theorem proved : Rows.RouteHoldsSaid := over
end Go.Proofs.Ytihnkklnkcideaa.routeHolds
