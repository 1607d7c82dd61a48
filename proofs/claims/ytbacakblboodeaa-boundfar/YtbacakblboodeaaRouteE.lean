/- Contracts of package route: Run. -/
import Derived.Test.YtbacakblboodeaaRouteD
namespace Go.Proofs.Ytbacakblboodeaa
open Go.RowKit
set_option linter.unusedVariables false
set_option maxRecDepth 100000

/-- the boxes of a run: the world, the route, what is answered -/
structure UB (V : World) (b1 b2 b3 : Nat) (x : Wd) (r : Rd) : Prop where
  w : WX V b1 x
  r : RX V b2 r
  t : Box V b3 #[.slice none 0 0, .int .i64 0, .int .i64 0, .int .i64 0] 94
theorem UB.below {V V' : World} {b1 b2 b3 : Nat} {x : Wd} {r : Rd} (h : UB V b1 b2 b3 x r) (hb : Below V.heap.size V V') : UB V' b1 b2 b3 x r := ⟨h.w.below hb, h.r.below hb, h.t.below hb⟩
theorem UB.new {w : World} {x : Wd} {r : Rd} (hx : WAt w x) (hr : RAt w r) :
    UB (((w.alloc (.cells #[.int .i64 x.N, .slice x.dA x.dm x.dc, .slice x.tA x.tm x.tc, .slice x.A x.m x.c, .slice x.B x.k x.d] 28)).alloc (.cells #[.int .i64 r.tr, .slice r.sA r.sm r.sc] 78)).alloc (.cells #[.slice none 0 0, .int .i64 0, .int .i64 0, .int .i64 0] 94)) w.heap.size (w.heap.size + 1) (w.heap.size + 1 + 1) x r := by
  refine ⟨((WX.new hx).below (below_alloc _ _)).below (below_alloc _ _), ?_, ?_⟩
  · rw [size_one w (.cells #[.int .i64 x.N, .slice x.dA x.dm x.dc, .slice x.tA x.tm x.tc, .slice x.A x.m x.c, .slice x.B x.k x.d] 28)]
    exact (RX.new (hr.below (below_alloc _ _))).below (below_alloc _ _)
  · rw [size_one w (.cells #[.int .i64 x.N, .slice x.dA x.dm x.dc, .slice x.tA x.tm x.tc, .slice x.A x.m x.c, .slice x.B x.k x.d] 28), size_one (w.alloc (.cells #[.int .i64 x.N, .slice x.dA x.dm x.dc, .slice x.tA x.tm x.tc, .slice x.A x.m x.c, .slice x.B x.k x.d] 28)) (.cells #[.int .i64 r.tr, .slice r.sA r.sm r.sc] 78)]
    exact Box.new _ _ _

theorem trip_out {w W5 W6 : World} {b3 : Nat} {res : Rt.R} {A : Option Addr} {c : Nat} {x0 x1 x2 x3 : Value} (hb : Below w.heap.size w W5) (h : Below W5.heap.size W5 W6 ∧ VisAt W6 A res.vs ∧ res.vs.length ≤ c ∧ ∀ ad, A = some ad → W5.heap.size ≤ ad.block) (hb3 : w.heap.size ≤ b3) (hl : b3 < W5.heap.size) :
    TripPost w res (.returned (.tuple #[.agg #[.slice A res.vs.length c, .int .i64 res.back, .int .i64 res.dist, .int .i64 res.cost], .int .i64 res.e])) ((((W6.setCell ⟨b3, 0, none⟩ x0).setCell ⟨b3, 1, none⟩ x1).setCell ⟨b3, 2, none⟩ x2).setCell ⟨b3, 3, none⟩ x3) := by
  refine ⟨A, c, rfl, below_set4 (below_next hb h.1) _ hb3 _ _ _ _, IntsAt.blocks h.2.1 fun ad e => but_set4 _ _ _ _ _ _ _ ?_, h.2.2.1, fun ad e => Nat.le_trans hb.size (h.2.2.2 ad e)⟩
  have := h.2.2.2 ad e
  omega

set_option maxHeartbeats 4000000 in
theorem run_b (x : Wd) (r : Rd) (w : World) (res : Rt.R) (hres : Rt.runS x.N x.D x.T x.os x.ts r.tr r.st = res) (hx : WAt w x) (hr : RAt w r) :
    Calls Try.prog 57 #[.agg #[.int .i64 x.N, .slice x.dA x.dm x.dc, .slice x.tA x.tm x.tc, .slice x.A x.m x.c, .slice x.B x.k x.d], .agg #[.int .i64 r.tr, .slice r.sA r.sm r.sc]] w (TripPost w res) := by
  have HX := Lib.hid (UB.new hx hr)
  have HB0 : Hid (Below w.heap.size w (((w.alloc (.cells #[.int .i64 x.N, .slice x.dA x.dm x.dc, .slice x.tA x.tm x.tc, .slice x.A x.m x.c, .slice x.B x.k x.d] 28)).alloc (.cells #[.int .i64 r.tr, .slice r.sA r.sm r.sc] 78)).alloc (.cells #[.slice none 0 0, .int .i64 0, .int .i64 0, .int .i64 0] 94))) := below_more (below_more (below_alloc _ _) _) _
  have HB3 : Hid (w.heap.size ≤ w.heap.size + 1 + 1) := by unfold Hid; omega
  have hsm := hr.s2
  have HSL := Lib.hid hr.sl
  have HRES := Lib.hid hres
  clear hx hr hres
  obtain ⟨f, hf⟩ : ∃ f, Rt.worldE x.N x.D x.T x.os x.ts = f := ⟨_, rfl⟩
  have HF := Lib.hid hf
  go_enter Try.func57, Try.ntmps57
  go_wp2_with fail
  generalize (((w.alloc (.cells #[.int .i64 x.N, .slice x.dA x.dm x.dc, .slice x.tA x.tm x.tc, .slice x.A x.m x.c, .slice x.B x.k x.d] 28)).alloc (.cells #[.int .i64 r.tr, .slice r.sA r.sm r.sc] 78)).alloc (.cells #[.slice none 0 0, .int .i64 0, .int .i64 0, .int .i64 0] 94)) = V at *
  generalize w.heap.size + 1 + 1 = b3 at *
  generalize w.heap.size + 1 = b2 at *
  generalize hb1 : w.heap.size = b1 at HX ⊢
  clear hb1
  have HC := Lib.hid (rworld_b x V f hf HX.out.w.at_)
  clear hf
  by_cases hf0 : f = 0
  · subst hf0
    have e1 : ((0 : Int) != (0 : Int)) = false := by decide
    by_cases hlen : r.sm < 1 ∨ 12 < r.sm
    · have HRE : Hid (Rt.err 2 = res) := by rw [← HRES.out]; exact (Rt.run_form HF.out (by rw [HSL.out]; exact hlen)).symm
      have HB1r : Hid (∀ w1, Below V.heap.size V w1 → UB w1 b1 b2 b3 x r) := fun w1 h => HX.out.below h
      rcases hlen with hlen | hlen
      · have e2 : decide ((r.sm : Int) < (1 : Int)) = true := decide_eq_true (by omega)
        clear hlen
        go_wp2_with fail
        with_reducible refine HC.out.mono ?_
        rintro e w1 ⟨rfl, hb1⟩
        have HX1 := Lib.hid (HX.out.below hb1.out)
        have HBW := Lib.hid (below_next HB0.out hb1.out)
        have x1 := HX1.out.r.c1
        have z0 := HX1.out.t.cell 0 _ rfl
        have g0 := HX1.out.t.fz 0
        have z1 := HX1.out.t.cell 1 _ rfl
        have g1 := HX1.out.t.fz 1
        have z2 := HX1.out.t.cell 2 _ rfl
        have g2 := HX1.out.t.fz 2
        have z3 := HX1.out.t.cell 3 _ rfl
        have g3 := HX1.out.t.fz 3
        clear hb1 HC
        go_wp2
        exact bodyPost_ret (results_trip (v := .int .i64 2) rfl _ (trip_set HX1.out.t _ _ _ _) rfl rfl rfl) rfl (TripPost.err HRE.out (below_set4 HBW.out _ HB3.out _ _ _ _))
      · have e2 : decide ((r.sm : Int) < (1 : Int)) = false := decide_eq_false (by omega)
        have e3 : decide ((12 : Int) < (r.sm : Int)) = true := decide_eq_true (by omega)
        clear hlen
        go_wp2_with fail
        with_reducible refine HC.out.mono ?_
        rintro e w1 ⟨rfl, hb1⟩
        have HX1 := Lib.hid (HX.out.below hb1.out)
        have HBW := Lib.hid (below_next HB0.out hb1.out)
        have x1 := HX1.out.r.c1
        have z0 := HX1.out.t.cell 0 _ rfl
        have g0 := HX1.out.t.fz 0
        have z1 := HX1.out.t.cell 1 _ rfl
        have g1 := HX1.out.t.fz 1
        have z2 := HX1.out.t.cell 2 _ rfl
        have g2 := HX1.out.t.fz 2
        have z3 := HX1.out.t.cell 3 _ rfl
        have g3 := HX1.out.t.fz 3
        clear hb1 HC
        go_wp2
        exact bodyPost_ret (results_trip (v := .int .i64 2) rfl _ (trip_set HX1.out.t _ _ _ _) rfl rfl rfl) rfl (TripPost.err HRE.out (below_set4 HBW.out _ HB3.out _ _ _ _))
    · have e2 : decide ((r.sm : Int) < (1 : Int)) = false := decide_eq_false (by omega)
      have e3 : decide ((12 : Int) < (r.sm : Int)) = false := decide_eq_false (by omega)
      have hm12 : r.sm ≤ 12 := by omega
      have HLEN : Hid (¬ (r.st.length < 1 ∨ 12 < r.st.length)) := by unfold Hid; rw [HSL.out]; exact hlen
      clear hlen
      go_wp2_with fail
      with_reducible refine HC.out.mono ?_
      rintro e w1 ⟨rfl, hb1⟩
      have HX1 := Lib.hid (HX.out.below hb1.out)
      have HBW := Lib.hid (below_next HB0.out hb1.out)
      have x1 := HX1.out.r.c1
      have x0 := HX1.out.r.c0
      have w0 := HX1.out.w.c0
      have w1' := HX1.out.w.c1
      have w2' := HX1.out.w.c2
      have w3' := HX1.out.w.c3
      have w4' := HX1.out.w.c4
      have HNM := Lib.hid (named_b x r w1 HX1.out.w.at_ HX1.out.r.at_)
      clear hb1 HC HX
      go_wp2_with fail
      with_reducible refine HNM.out.mono ?_
      rintro e w2 ⟨⟨t0, t1, t2, t3, t4, t5, t6⟩, A, m, c, ec, rfl, HB2, HNP⟩
      clear HNM x1 x0 w0 w1' w2' w3' w4'
      have HX2 := Lib.hid (HX1.out.below HB2.out)
      have HBW2 := Lib.hid (below_next HBW.out HB2.out)
      have HXA := Lib.hid (HX2.out.below (below_alloc w2 (.cells #[.int .i64 t0, .int .i64 t1, .int .i64 t2, .int .i64 t3, .int .i64 t4, .int .i64 t5, .int .i64 t6] 59)))
      have HTK : Hid (Box (w2.alloc (.cells #[.int .i64 t0, .int .i64 t1, .int .i64 t2, .int .i64 t3, .int .i64 t4, .int .i64 t5, .int .i64 t6] 59)) w2.heap.size #[.int .i64 t0, .int .i64 t1, .int .i64 t2, .int .i64 t3, .int .i64 t4, .int .i64 t5, .int .i64 t6] 59) := Box.new _ _ _
      have HBWA : Hid (Below w.heap.size w (w2.alloc (.cells #[.int .i64 t0, .int .i64 t1, .int .i64 t2, .int .i64 t3, .int .i64 t4, .int .i64 t5, .int .i64 t6] 59))) := below_more HBW2.out _
      have HOA : Hid (∀ l, OrdersAt w2 A l → OrdersAt (w2.alloc (.cells #[.int .i64 t0, .int .i64 t1, .int .i64 t2, .int .i64 t3, .int .i64 t4, .int .i64 t5, .int .i64 t6] 59)) A l) := fun l h => h.below (below_alloc _ _)
      rcases HNP.out with ⟨rfl, hn1, hn2, hn3, rfl, hn4⟩ | ⟨rfl, hn1⟩
      · clear HNP
        have e4 : ((0 : Int) != (0 : Int)) = false := by decide
        have HO4 := Lib.hid (HOA.out _ hn4)
        have HN1 := Lib.hid hn1
        have HN2 := Lib.hid hn2
        have HN3 := Lib.hid hn3
        clear hn1 hn2 hn3 hn4 HOA HX2 HBW2 HB2
        have HTOK : Hid (Ld.TOk ⟨t0, t1, t2, t3, t4, t5, t6⟩) := by
          obtain ⟨kt, t, h1, h2, h3, h4⟩ := Rt.find_mem Ld.T.id x.ts r.tr HN1.out
          have h5 := (Rt.ok_of HF.out).tt t (List.mem_of_getElem? h3)
          rw [HN3.out, Rt.truckAt_eq h1 h3]
          exact h5
        obtain ⟨tw, htw⟩ : ∃ z, Ld.twB r.st = z := ⟨_, rfl⟩
        have HTW := Lib.hid htw
        clear htw
        have x1 := HXA.out.r.c1
        go_wp2_with fail
        generalize w2.alloc (.cells #[.int .i64 t0, .int .i64 t1, .int .i64 t2, .int .i64 t3, .int .i64 t4, .int .i64 t5, .int .i64 t6] 59) = WA at *
        generalize w2.heap.size = tb at *
        have HC := Lib.hid (twice_b r.sA r.sm r.sc r.st WA tw HTW.out HXA.out.r.at_.sl HXA.out.r.at_.s2 HXA.out.r.at_.st)
        cases tw with
        | true =>
          have HRE : Hid (Rt.err 6 = res) := by rw [← HRES.out]; exact (Rt.run_twice HF.out HLEN.out HN1.out HN2.out HTW.out).symm
          with_reducible refine HC.out.mono ?_
          rintro e w5 ⟨rfl, hb5⟩
          clear x1 HC
          have HX5 := Lib.hid (HXA.out.below hb5.out)
          have z0 := HX5.out.t.cell 0 _ rfl
          have g0 := HX5.out.t.fz 0
          have z1 := HX5.out.t.cell 1 _ rfl
          have g1 := HX5.out.t.fz 1
          have z2 := HX5.out.t.cell 2 _ rfl
          have g2 := HX5.out.t.fz 2
          have z3 := HX5.out.t.cell 3 _ rfl
          have g3 := HX5.out.t.fz 3
          go_wp2
          exact bodyPost_ret (results_trip (v := .int .i64 6) rfl _ (trip_set HX5.out.t _ _ _ _) rfl rfl rfl) rfl (TripPost.err HRE.out (below_set4 (below_next HBWA.out hb5.out) _ HB3.out _ _ _ _))
        | false =>
          obtain ⟨ce, hce⟩ : ∃ z, Ld.carE ⟨t0, t1, t2, t3, t4, t5, t6⟩ (Rt.ordersOf x.os r.st) = z := ⟨_, rfl⟩
          have HCE := Lib.hid hce
          have HLO : Hid ((Rt.ordersOf x.os r.st).length = r.sm) := by unfold Hid Rt.ordersOf; rw [List.length_map]; exact HSL.out
          clear hce
          with_reducible refine HC.out.mono ?_
          rintro e w5 ⟨rfl, hb5⟩
          clear x1 HC
          have HX5 := Lib.hid (HXA.out.below hb5.out)
          have HT5 := Lib.hid (HTK.out.below hb5.out)
          have HO5 := Lib.hid (HO4.out.below hb5.out)
          have HB5 := Lib.hid (below_next HBWA.out hb5.out)
          have HC := Lib.hid (car_val ⟨t0, t1, t2, t3, t4, t5, t6⟩ A r.sm c (Rt.ordersOf x.os r.st) w5 ce HCE.out HLO.out hsm HO5.out)
          have u0 : w5.cell? ⟨tb, 0, none⟩ = some (.int .i64 t0) := HT5.out.cell 0 _ rfl
          have u1 : w5.cell? ⟨tb, 1, none⟩ = some (.int .i64 t1) := HT5.out.cell 1 _ rfl
          have u2 : w5.cell? ⟨tb, 2, none⟩ = some (.int .i64 t2) := HT5.out.cell 2 _ rfl
          have u3 : w5.cell? ⟨tb, 3, none⟩ = some (.int .i64 t3) := HT5.out.cell 3 _ rfl
          have u4 : w5.cell? ⟨tb, 4, none⟩ = some (.int .i64 t4) := HT5.out.cell 4 _ rfl
          have u5 : w5.cell? ⟨tb, 5, none⟩ = some (.int .i64 t5) := HT5.out.cell 5 _ rfl
          have u6 : w5.cell? ⟨tb, 6, none⟩ = some (.int .i64 t6) := HT5.out.cell 6 _ rfl
          by_cases hc0 : ce = 0
          · subst hc0
            have e5 : ((0 : Int) != (0 : Int)) = false := by decide
            go_wp2_with fail
            with_reducible refine HC.out.mono ?_
            rintro e w6 ⟨rfl, hb6⟩
            clear u0 u1 u2 u3 u4 u5 u6 HC
            have HX6 := Lib.hid (HX5.out.below hb6.out)
            have HT6 := Lib.hid (HT5.out.below hb6.out)
            have HO6 := Lib.hid (HO5.out.below hb6.out)
            have HB6 := Lib.hid (below_next HB5.out hb6.out)
            have HDR : Hid (Rt.driveS x.N x.D x.T ⟨t0, t1, t2, t3, t4, t5, t6⟩ (Rt.ordersOf x.os r.st) = res) := by
              have h3 := HN3.out
              have h4 := HCE.out
              rw [← HRES.out, h3]
              rw [h3] at h4
              exact (Rt.run_go HF.out HLEN.out HN1.out HN2.out HTW.out h4).symm
            have hok := Rt.ok_of HF.out
            have htok := HTOK.out
            have HC := Lib.hid (drive_b x.N x.dA x.dm x.dc x.D x.tA x.tm x.tc x.T _ t0 t1 t2 t3 t4 t5 t6 A r.sm c (Rt.ordersOf x.os r.st) w6 res HX6.out.w.at_.ar (Rt.ok_area HF.out) hok.ar HLO.out hm12 HO6.out (fun o ho => hok.oo o (Rt.orders_mem HN2.out o ho)) htok.st0 (Int.le_trans htok.st1 htok.fi1) htok.fx0 htok.fx1 htok.ra0 htok.ra1 HDR.out)
            have x0 := HX6.out.w.c0
            have x1 := HX6.out.w.c1
            have x2 := HX6.out.w.c2
            have u0 : w6.cell? ⟨tb, 0, none⟩ = some (.int .i64 t0) := HT6.out.cell 0 _ rfl
            have u1 : w6.cell? ⟨tb, 1, none⟩ = some (.int .i64 t1) := HT6.out.cell 1 _ rfl
            have u2 : w6.cell? ⟨tb, 2, none⟩ = some (.int .i64 t2) := HT6.out.cell 2 _ rfl
            have u3 : w6.cell? ⟨tb, 3, none⟩ = some (.int .i64 t3) := HT6.out.cell 3 _ rfl
            have u4 : w6.cell? ⟨tb, 4, none⟩ = some (.int .i64 t4) := HT6.out.cell 4 _ rfl
            have u5 : w6.cell? ⟨tb, 5, none⟩ = some (.int .i64 t5) := HT6.out.cell 5 _ rfl
            have u6 : w6.cell? ⟨tb, 6, none⟩ = some (.int .i64 t6) := HT6.out.cell 6 _ rfl
            clear hok htok
            go_wp2_with fail
            with_reducible refine HC.out.mono ?_
            rintro e w7 ⟨A', c', rfl, h7⟩
            clear x0 x1 x2 u0 u1 u2 u3 u4 u5 u6 HC
            have HX7 := Lib.hid (HX6.out.below h7.out.1)
            have z0 := HX7.out.t.cell 0 _ rfl
            have g0 := HX7.out.t.fz 0
            have z1 := HX7.out.t.cell 1 _ rfl
            have g1 := HX7.out.t.fz 1
            have z2 := HX7.out.t.cell 2 _ rfl
            have g2 := HX7.out.t.fz 2
            have z3 := HX7.out.t.cell 3 _ rfl
            have g3 := HX7.out.t.fz 3
            go_wp2
            exact bodyPost_ret (results_trip (v := .int .i64 res.e) rfl _ (trip_set HX7.out.t _ _ _ _) rfl rfl rfl) rfl (trip_out HB6.out h7.out HB3.out HX6.out.t.lt)
          · have HRE : Hid (Rt.err ce = res) := by
              have h3 := HN3.out
              have h4 := HCE.out
              rw [h3] at h4
              rw [← HRES.out]
              exact (Rt.run_load HF.out HLEN.out HN1.out HN2.out HTW.out h4 hc0).symm
            have e5 : (ce != (0 : Int)) = true := bne_iff_ne.2 hc0
            clear hc0
            go_wp2_with fail
            with_reducible refine HC.out.mono ?_
            rintro e w6 ⟨rfl, hb6⟩
            clear u0 u1 u2 u3 u4 u5 u6 HC
            have HX6 := Lib.hid (HX5.out.below hb6.out)
            have z0 := HX6.out.t.cell 0 _ rfl
            have g0 := HX6.out.t.fz 0
            have z1 := HX6.out.t.cell 1 _ rfl
            have g1 := HX6.out.t.fz 1
            have z2 := HX6.out.t.cell 2 _ rfl
            have g2 := HX6.out.t.fz 2
            have z3 := HX6.out.t.cell 3 _ rfl
            have g3 := HX6.out.t.fz 3
            go_wp2
            exact bodyPost_ret (results_trip (v := .int .i64 ce) rfl _ (trip_set HX6.out.t _ _ _ _) rfl rfl rfl) rfl (TripPost.err HRE.out (below_set4 (below_next HB5.out hb6.out) _ HB3.out _ _ _ _))
      · clear HNP
        have HRE : Hid (Rt.err 5 = res) := by rw [← HRES.out]; exact (Rt.run_name HF.out HLEN.out hn1).symm
        have e4 : ((5 : Int) != (0 : Int)) = true := by decide
        have z0 := HXA.out.t.cell 0 _ rfl
        have g0 := HXA.out.t.fz 0
        have z1 := HXA.out.t.cell 1 _ rfl
        have g1 := HXA.out.t.fz 1
        have z2 := HXA.out.t.cell 2 _ rfl
        have g2 := HXA.out.t.fz 2
        have z3 := HXA.out.t.cell 3 _ rfl
        have g3 := HXA.out.t.fz 3
        clear hn1
        go_wp2
        exact bodyPost_ret (results_trip (v := .int .i64 5) rfl _ (trip_set HXA.out.t _ _ _ _) rfl rfl rfl) rfl (TripPost.err HRE.out (below_set4 HBWA.out _ HB3.out _ _ _ _))
  · have HRE : Hid (Rt.err f = res) := by rw [← HRES.out]; exact (Rt.run_world HF.out hf0).symm
    have e1 : (f != (0 : Int)) = true := bne_iff_ne.2 hf0
    clear hf0
    go_wp2_with fail
    with_reducible refine HC.out.mono ?_
    rintro e w1 ⟨rfl, hb1⟩
    have HX1 := Lib.hid (HX.out.below hb1.out)
    have HBW := Lib.hid (below_next HB0.out hb1.out)
    have z0 := HX1.out.t.cell 0 _ rfl
    have g0 := HX1.out.t.fz 0
    have z1 := HX1.out.t.cell 1 _ rfl
    have g1 := HX1.out.t.fz 1
    have z2 := HX1.out.t.cell 2 _ rfl
    have g2 := HX1.out.t.fz 2
    have z3 := HX1.out.t.cell 3 _ rfl
    have g3 := HX1.out.t.fz 3
    clear hb1 HC
    go_wp2
    exact bodyPost_ret (results_trip (v := .int .i64 f) rfl _ (trip_set HX1.out.t _ _ _ _) rfl rfl rfl) rfl (TripPost.err HRE.out (below_set4 HBW.out _ HB3.out _ _ _ _))
end Go.Proofs.Ytbacakblboodeaa
