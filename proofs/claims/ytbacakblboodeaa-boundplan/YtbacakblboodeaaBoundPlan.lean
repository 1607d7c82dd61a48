/- Every call of the law that what is made of the orders that a plan serves holds, is at most what the plan costs, and is the greatest that holds, answers true: for every world, plan and certificate. No conditions. -/
import Derived.Test.YtbacakblboodeaaRows
import Derived.Test.YtbacakblboodeaaBndL
import Derived.Deep.RegionHeld3
import Derived.WalkKit
import Derived.ProofKit
import Derived.OpenShut
import Derived.ShutString
import Derived.ChangeOld
import Derived.Below
import Derived.SizedLaws
namespace Go.Proofs.Ytbacakblboodeaa.boundPlan
open Go.ChangeShapes Go.WideShapes Go.ChangeAt Go.RowKit
open Go.ChangeMaps (open_string shut_string)
set_option linter.unusedVariables false

theorem own : ownKnob Try.prog.godebug = none := by kernel_rfl
theorem laidOut : laidOutB Try.prog = true := by kernel_rfl

open Go.Proofs.Ytbacakblboodeaa
set_option maxRecDepth 100000

set_option maxHeartbeats 20000000 in
theorem walk {w : World} (x : Wd) (hx : WorldIn w x) (hk : x.k ≤ x.d) (hd : x.dm ≤ x.dc) (p : Pd) (hp : PlanIn w p) (fp : Few p) (q : Ct) (hq : CertIn w q) :
    Calls Try.prog 5 #[.agg #[.int .i64 x.N, .slice x.dA x.dm x.dc, .slice x.tA x.tm x.tc, .slice x.A x.m x.c, .slice x.B x.k x.d], .agg #[.slice p.rA p.rm p.rc, .slice p.uA p.um p.uc], .agg #[.slice q.iA q.im q.ic, .slice q.nA q.nm q.nc, .int .i64 q.back, .int .i64 q.rate, .int .i64 q.fixed, .int .i64 q.bound]] w fun e w' => e = .returned (.bool true) ∧ Below w.heap.size w w' := by
  have HB0 : Hid (Below w.heap.size w (((w.alloc (.cells #[.int .i64 x.N, .slice x.dA x.dm x.dc, .slice x.tA x.tm x.tc, .slice x.A x.m x.c, .slice x.B x.k x.d] 28)).alloc (.cells #[.slice p.rA p.rm p.rc, .slice p.uA p.um p.uc] 45)).alloc (.cells #[.slice q.iA q.im q.ic, .slice q.nA q.nm q.nc, .int .i64 q.back, .int .i64 q.rate, .int .i64 q.fixed, .int .i64 q.bound] 31))) := (below_more (below_more (below_alloc _ _) _) _)
  have HX : Hid (LBB (((w.alloc (.cells #[.int .i64 x.N, .slice x.dA x.dm x.dc, .slice x.tA x.tm x.tc, .slice x.A x.m x.c, .slice x.B x.k x.d] 28)).alloc (.cells #[.slice p.rA p.rm p.rc, .slice p.uA p.um p.uc] 45)).alloc (.cells #[.slice q.iA q.im q.ic, .slice q.nA q.nm q.nc, .int .i64 q.back, .int .i64 q.rate, .int .i64 q.fixed, .int .i64 q.bound] 31)) (w.heap.size) (w.heap.size + 1 + 1) (w.heap.size + 1) x q p) := ⟨(((box_at _ _ _ _ (by simp)).below (below_alloc _ _)).below (below_alloc _ _)), (box_at _ _ _ _ (by simp)), ((box_at _ _ _ _ (by simp)).below (below_alloc _ _))⟩
  have HLO : Hid (w.heap.size ≤ w.heap.size + 1 ∧ w.heap.size < w.heap.size + 1 ∧ w.heap.size ≤ w.heap.size + 1 + 1 ∧ w.heap.size < w.heap.size + 1 + 1) := by unfold Hid; omega
  have HWI := Lib.hid hx
  have HQI := Lib.hid hq
  have HPI := Lib.hid hp
  have HFP := Lib.hid fp
  have HCAP := Lib.hid hk
  clear hx hq hp fp hk hd
  go_enter Try.func5, Try.ntmps5
  go_wp2_with fail
  generalize (((w.alloc (.cells #[.int .i64 x.N, .slice x.dA x.dm x.dc, .slice x.tA x.tm x.tc, .slice x.A x.m x.c, .slice x.B x.k x.d] 28)).alloc (.cells #[.slice p.rA p.rm p.rc, .slice p.uA p.um p.uc] 45)).alloc (.cells #[.slice q.iA q.im q.ic, .slice q.nA q.nm q.nc, .int .i64 q.back, .int .i64 q.rate, .int .i64 q.fixed, .int .i64 q.bound] 31)) = V at *
  generalize w.heap.size + 1 + 1 = b3 at *
  generalize w.heap.size + 1 = b2 at *
  generalize hb1 : w.heap.size = b1 at HX ⊢
  have HBE := Lib.hid hb1
  clear hb1
  with_reducible refine (awake_any _).mono ?_
  rintro e V1 ⟨rfl, hv1⟩
  have HX1 := Lib.hid (HX.out.below hv1)
  have HB1 := Lib.hid (below_next HB0.out hv1)
  clear hv1 HX HB0
  obtain ⟨r, hr⟩ : ∃ r : Bool, r = true ↔ LargeC x q := by
    by_cases h : LargeC x q
    · exact ⟨true, by simp [h]⟩
    · exact ⟨false, by simp [h]⟩
  have HR := Lib.hid hr
  have HC := Lib.hid (clarge_b x q V1 r hr (HWI.out.below HB1.out) (HQI.out.below HB1.out))
  clear hr
  have c0 := wbox0 HX1.out.w
  have c1 := wbox1 HX1.out.w
  have c2 := wbox2 HX1.out.w
  have c3 := wbox3 HX1.out.w
  have c4 := wbox4 HX1.out.w
  have y0 := qbox0 HX1.out.c
  have y1 := qbox1 HX1.out.c
  have y2 := qbox2 HX1.out.c
  have y3 := qbox3 HX1.out.c
  have y4 := qbox4 HX1.out.c
  have y5 := qbox5 HX1.out.c
  go_wp2_with fail
  clear c0 c1 c2 c3 c4 y0 y1 y2 y3 y4 y5
  with_reducible refine HC.out.mono ?_
  rintro e V2 ⟨rfl, hv2⟩
  have HX2 := Lib.hid (HX1.out.below hv2.out)
  have HB2 := Lib.hid (below_next HB1.out hv2.out)
  clear hv2 HX1 HB1 HC
  cases r with
  | true =>
    go_wp2_with fail
    go_ret
    exact ⟨rfl, HB2.out⟩
  | false =>
    have HNL : Hid (¬ LargeC x q) := fun h => by have := HR.out.2 h; cases this
    clear HR
    obtain ⟨r, hr⟩ : ∃ r, largeB p = r := ⟨_, rfl⟩
    have HR := Lib.hid hr
    have HC := Lib.hid (plarge_b p V2 r hr (HPI.out.below HB2.out) HFP.out)
    clear hr
    have a0 := pbox0 HX2.out.p
    have a1 := pbox1 HX2.out.p
    go_wp2_with fail
    clear a0 a1
    with_reducible refine HC.out.mono ?_
    rintro e V3 ⟨rfl, hv3⟩
    have HX3 := Lib.hid (HX2.out.below hv3.out)
    have HB := Lib.hid (below_next HB2.out hv3.out)
    clear hv3 HX2 HB2 HC
    cases r with
    | true =>
      go_wp2_with fail
      go_ret
      exact ⟨rfl, HB.out⟩
    | false =>
    have HX : Hid (LX V3 b1 b3 b2 x q p) := by
      have hl : ¬ LargeP p := fun h => by have := large_is.2 h; rw [HR.out] at this; cases this
      exact ⟨⟨HX3.out.w, (HWI.out.below HB.out).at_ (rd_of HNL.out)⟩, ⟨HX3.out.c, (HQI.out.below HB.out).small HNL.out⟩, ⟨HX3.out.p, (HPI.out.below HB.out).at_ hl⟩⟩
    have HAT : Hid (WAt w x ∧ CtAt w q) := ⟨HWI.out.at_ (rd_of HNL.out), HQI.out.small HNL.out⟩
    have HLEN : Hid ((Pl.servedS (ros p.rs)).length ≤ 200) := by
      have hl : ¬ LargeP p := fun h => by have := large_is.2 h; rw [HR.out] at this; cases this
      have h1 := many_stops p.rs (fun r hr => (HPI.out.ra r hr).sl) p.um
      unfold LargeP at hl
      unfold Hid Pl.servedS
      rw [Pl.srt_len]
      omega
    clear HX3 HR HNL HWI HQI HPI HFP
    obtain ⟨l, hl⟩ : ∃ z, Pl.servedS (ros p.rs) = z := ⟨_, rfl⟩
    obtain ⟨n, hn⟩ : ∃ z, l.length = z := ⟨_, rfl⟩
    have HL := Lib.hid hl
    have HN := Lib.hid hn
    have hn2 : n ≤ 200 := by rw [← hn, ← hl]; exact HLEN.out
    have HSV : Hid (Calls Try.prog 17 #[.agg #[.slice p.rA p.rm p.rc, .slice p.uA p.um p.uc]] V3 fun e w' => ∃ A5 c5, e = .returned (.slice A5 n c5) ∧ Hid (Below V3.heap.size V3 w' ∧ IntsAt w' A5 l ∧ ∀ ad, A5 = some ad → V3.heap.size ≤ ad.block)) :=
      (served_b p V3 HX.out.p.at_).mono fun e w' h => by
        obtain ⟨A5, c5, e1, h2, h3⟩ := h
        rw [hl] at e1 h3
        rw [hn] at e1
        exact ⟨A5, c5, e1, h3.out.1, h3.out.2.1, fun ad e => (h3.out.2.2 ad e).1⟩
    clear hl hn
    have a0 := HX.out.p.c0
    have a1 := HX.out.p.c1
    go_wp2_with fail
    clear a0 a1
    with_reducible refine HSV.out.mono ?_
    rintro e V4 ⟨A5, c5, rfl, h4⟩
    have HX4 := Lib.hid (HX.out.below h4.out.1)
    have HB4 := Lib.hid (below_next HB.out h4.out.1)
    have HI4 := Lib.hid h4.out.2.1
    have HA5 := Lib.hid h4.out.2.2
    have HLT : Hid (b3 < V3.heap.size) := HX.out.c.box.lt
    have HLT4 : Hid (b3 < V4.heap.size) := HX4.out.c.box.lt
    clear HSV HX HB h4
    obtain ⟨rm, hrm⟩ : ∃ z, Bo.makeS x.N x.D x.T x.os x.ts l = z := ⟨_, rfl⟩
    have HRM := Lib.hid hrm
    have HC := Lib.hid (make_b x A5 n c5 l V4 rm hrm HX4.out.w.at_ HCAP.out HN.out (by omega) HI4.out)
    clear hrm
    have c0 := HX4.out.w.c0
    have c1 := HX4.out.w.c1
    have c2 := HX4.out.w.c2
    have c3 := HX4.out.w.c3
    have c4 := HX4.out.w.c4
    go_wp2_with fail
    clear c0 c1 c2 c3 c4
    with_reducible refine HC.out.mono ?_
    rintro e w5 ⟨m, rfl, hmc, hm⟩
    have HMC := Lib.hid hmc
    have HX5 := Lib.hid ((HX4.out.below hm.out.1).below (below_alloc w5 (.cells #[.slice m.iA m.im m.ic, .slice m.nA m.nm m.nc, .int .i64 m.back, .int .i64 m.rate, .int .i64 m.fixed, .int .i64 m.bound] 31)))
    have HB5 := Lib.hid (below_more (below_next HB4.out hm.out.1) (.cells #[.slice m.iA m.im m.ic, .slice m.nA m.nm m.nc, .int .i64 m.back, .int .i64 m.rate, .int .i64 m.fixed, .int .i64 m.bound] 31))
    have HI5 := Lib.hid ((HI4.out.below hm.out.1).below (below_alloc w5 (.cells #[.slice m.iA m.im m.ic, .slice m.nA m.nm m.nc, .int .i64 m.back, .int .i64 m.rate, .int .i64 m.fixed, .int .i64 m.bound] 31)))
    have HM5 : Hid (CX (w5.alloc (.cells #[.slice m.iA m.im m.ic, .slice m.nA m.nm m.nc, .int .i64 m.back, .int .i64 m.rate, .int .i64 m.fixed, .int .i64 m.bound] 31)) w5.heap.size m) := CX.new hm.out.2
    have HNE : Hid (b3 ≠ w5.heap.size) := Nat.ne_of_lt (Nat.lt_of_lt_of_le HLT4.out hm.out.1.size)
    clear hmc hm HC HX4 HB4 HI4 HLT4
    have c0 := HX5.out.w.c0
    have c1 := HX5.out.w.c1
    have c2 := HX5.out.w.c2
    have c3 := HX5.out.w.c3
    have c4 := HX5.out.w.c4
    have a0 := HX5.out.p.c0
    have a1 := HX5.out.p.c1
    go_wp2_with fail
    clear c0 c1 c2 c3 c4 a0 a1
    generalize w5.alloc (.cells #[.slice m.iA m.im m.ic, .slice m.nA m.nm m.nc, .int .i64 m.back, .int .i64 m.rate, .int .i64 m.fixed, .int .i64 m.bound] 31) = V5 at *
    generalize w5.heap.size = b4 at *
    obtain ⟨⟨cost, er⟩, hck⟩ : ∃ z, Pl.checkS x.N x.D x.T x.os x.ts (ros p.rs) p.us = z := ⟨_, rfl⟩
    have HCK := Lib.hid hck
    have HC := Lib.hid (check_b x p V5 _ hck HX5.out.w.at_ HX5.out.p.at_)
    clear hck
    with_reducible refine HC.out.mono ?_
    rintro e V6 ⟨rfl, h6⟩
    have HX6 := Lib.hid (HX5.out.below h6.out)
    have HB6 := Lib.hid (below_next HB5.out h6.out)
    have HI6 := Lib.hid (HI5.out.below h6.out)
    have HM6 := Lib.hid (HM5.out.below h6.out)
    clear HC HX5 HB5 HI5 HM5 h6
    by_cases he : er = 0
    · have d3 : (er != (0 : Int)) = false := by rw [he]; rfl
      have HMAY := Lib.hid (Pl.may_of (N := x.N) (D := x.D) (T := x.T) (os := x.os) (ts := x.ts) (rs := ros p.rs) (us := p.us) (by rw [HCK.out]; exact he))
      have hms := Bo.make_served HMAY.out.1
      rw [HL.out, HRM.out] at hms
      have HMS := Lib.hid hms
      have HH : Hid (Bo.holdsB x.N x.D x.T x.os x.ts m.c = true) := by
        have h := Bo.make_holds (N := x.N) (D := x.D) (T := x.T) (os := x.os) (ts := x.ts) (ids := l) (by rw [HRM.out]; exact hms.1)
        rw [HRM.out, ← HMC.out] at h
        exact h
      have HLE : Hid (0 ≤ m.bound ∧ m.bound ≤ cost) := by
        have h := Bo.bound_le HMAY.out.1 HH.out (by rw [HL.out, HMC.out]; exact hms.2.symm)
        have h2 := HMAY.out.2
        rw [HCK.out] at h2
        injection h2 with h2 _
        unfold Hid
        rw [h2]
        exact h
      have d1 : (rm.2 != (0 : Int)) = false := by rw [hms.1]; rfl
      have d4 : decide (cost < m.bound) = false := decide_eq_false (by have := HLE.out; omega)
      have d5 : decide (m.bound < (0 : Int)) = false := decide_eq_false (by have := HLE.out; omega)
      clear he hms
      have HC := Lib.hid (holds_b x m V6 true HH.out HX6.out.w.at_ HCAP.out HM6.out.at_)
      have c0 := HX6.out.w.c0
      have c1 := HX6.out.w.c1
      have c2 := HX6.out.w.c2
      have c3 := HX6.out.w.c3
      have c4 := HX6.out.w.c4
      have m0 := HM6.out.c0
      have m1 := HM6.out.c1
      have m2 := HM6.out.c2
      have m3 := HM6.out.c3
      have m4 := HM6.out.c4
      have m5 := HM6.out.c5
      go_wp2_with fail
      clear c0 c1 c2 c3 c4
      clear m0 m1 m2 m3 m4 m5
      with_reducible refine HC.out.mono ?_
      rintro e V7 ⟨rfl, h7⟩
      have HX7 := Lib.hid (HX6.out.below h7.out)
      have HB7 := Lib.hid (below_next HB6.out h7.out)
      have HI7 := Lib.hid (HI6.out.below h7.out)
      have HM7 := Lib.hid (HM6.out.below h7.out)
      clear HC HX6 HB6 HI6 HM6 h7
      have HBW : Hid (Below w.heap.size w (V7.setCell ⟨b3, 0, none⟩ (.slice A5 n c5))) := HB7.out.setCell (p := ⟨b3, 0, none⟩) HLO.out.2.2.1 _
      have h13 : b1 ≠ b3 := Nat.ne_of_lt (HBE.out ▸ HLO.out.2.2.2)
      have HW8 : Hid (WX (V7.setCell ⟨b3, 0, none⟩ (.slice A5 n c5)) b1 x) := ⟨(Go.Deep.blk_setCell_other V7 ⟨b3, 0, none⟩ _ b1 h13).trans HX7.out.w.box, HAT.out.1.below HBW.out⟩
      have HM8 : Hid (Box (V7.setCell ⟨b3, 0, none⟩ (.slice A5 n c5)) b4 m.cells 31) := (Go.Deep.blk_setCell_other V7 ⟨b3, 0, none⟩ _ b4 (Ne.symm HNE.out)).trans HM7.out.box
      have HC8 : Hid (CX (V7.setCell ⟨b3, 0, none⟩ (.slice A5 n c5)) b3 ⟨A5, n, c5, l, q.nA, q.nm, q.nc, q.inn, q.back, q.rate, q.fixed, q.bound⟩) := by
        refine ⟨HX7.out.c.box.set 0 _ _ rfl, HN.out, by show n ≤ 900; omega, ?_, (HAT.out.2.below HBW.out).nl, (HAT.out.2.below HBW.out).n2, (HAT.out.2.below HBW.out).nn⟩
        exact IntsAt.blocks HI7.out fun ad e => Go.Deep.blk_setCell_other V7 ⟨b3, 0, none⟩ _ _ (Nat.ne_of_gt (Nat.lt_of_lt_of_le HLT.out (HA5.out ad e)))
      have y0 := HX7.out.c.c0
      have f0 := HX7.out.c.box.fz 0
      have m5 := HM7.out.c5
      go_upto_region 13 with fail
      clear y0 f0 m5 d1 d3 d4 d5
      generalize (V7.setCell ⟨b3, 0, none⟩ (.slice A5 n c5)) = W at *
      obtain ⟨bh, hbh⟩ : ∃ z, Bo.holdsB x.N x.D x.T x.os x.ts (Ct.c ⟨A5, n, c5, l, q.nA, q.nm, q.nc, q.inn, q.back, q.rate, q.fixed, q.bound⟩) = z := ⟨_, rfl⟩
      have HBH := Lib.hid hbh
      have HC := Lib.hid (holds_b x ⟨A5, n, c5, l, q.nA, q.nm, q.nc, q.inn, q.back, q.rate, q.fixed, q.bound⟩ W bh hbh HW8.out.at_ HCAP.out HC8.out.at_)
      clear hbh
      have c0 := HW8.out.c0
      have c1 := HW8.out.c1
      have c2 := HW8.out.c2
      have c3 := HW8.out.c3
      have c4 := HW8.out.c4
      have y0 := HC8.out.c0
      have y1 := HC8.out.c1
      have y2 := HC8.out.c2
      have y3 := HC8.out.c3
      have y4 := HC8.out.c4
      have y5 := HC8.out.c5
      go_wp2_with fail
      clear c0 c1 c2 c3 c4 y0 y1 y2 y3 y4 y5
      with_reducible refine HC.out.mono ?_
      rintro e W2 ⟨rfl, h8⟩
      have HB8 := Lib.hid (below_next HBW.out h8.out)
      cases bh
      · go_wp2
        go_ret
        exact ⟨rfl, HB8.out⟩
      · have d6 : decide (q.bound ≤ m.bound) = true := decide_eq_true (by
          have h := (Bo.holds_less HBH.out).2
          have h2 : q.bound ≤ (Bo.makeS x.N x.D x.T x.os x.ts l).1.bound := h
          rw [HRM.out, ← HMC.out] at h2
          exact h2)
        have y5 := (HC8.out.below h8.out).c5
        have m5 : W2.cell? ⟨b4, 5, none⟩ = some (.int .i64 m.bound) := (HM8.out.below h8.out).cell 5 _ rfl
        go_wp2
        go_ret
        exact ⟨rfl, HB8.out⟩
    · have d3 : (er != (0 : Int)) = true := bne_iff_ne.2 he
      by_cases h0 : rm.2 = 0
      · have d1 : (rm.2 != (0 : Int)) = false := by rw [h0]; rfl
        have HH : Hid (Bo.holdsB x.N x.D x.T x.os x.ts m.c = true) := by
          have h := Bo.make_holds (N := x.N) (D := x.D) (T := x.T) (os := x.os) (ts := x.ts) (ids := l) (by rw [HRM.out]; exact h0)
          rw [HRM.out, ← HMC.out] at h
          exact h
        have HC := Lib.hid (holds_b x m V6 true HH.out HX6.out.w.at_ HCAP.out HM6.out.at_)
        clear he h0
        have c0 := HX6.out.w.c0
        have c1 := HX6.out.w.c1
        have c2 := HX6.out.w.c2
        have c3 := HX6.out.w.c3
        have c4 := HX6.out.w.c4
        have m0 := HM6.out.c0
        have m1 := HM6.out.c1
        have m2 := HM6.out.c2
        have m3 := HM6.out.c3
        have m4 := HM6.out.c4
        have m5 := HM6.out.c5
        go_wp2_with fail
        clear c0 c1 c2 c3 c4
        clear m0 m1 m2 m3 m4 m5
        with_reducible refine HC.out.mono ?_
        rintro e V7 ⟨rfl, h7⟩
        have HB7 := Lib.hid (below_next HB6.out h7.out)
        go_wp2
        go_ret
        exact ⟨rfl, HB7.out⟩
      · have d1 : (rm.2 != (0 : Int)) = true := bne_iff_ne.2 h0
        clear he h0
        go_wp2
        go_ret
        exact ⟨rfl, HB6.out⟩

set_option maxRecDepth 100000 in
theorem lifted (os : Os) (started : os.Started) (H : Type) (enc : TypeId × Value → H) :
    ReturnsInHanded {} Try.checked os 5 .any (Rows.boundPlanSpec.pre6 enc Try.prog Try.f5 Rows.boundPlanRow.domain false) (Rows.boundPlanSpec.post enc Try.prog Try.f5 false true false false) := by
  refine returnsInHanded_of_change_sized (C := Try.checked) own started (by kernel_rfl) Try.func5
    (ChangeSpec.witness6 (enc := enc) (C := Try.checked) false ⟨#[], #[.agg #[.int .i64 0, .slice none 0 0, .slice none 0 0, .slice none 0 0, .slice none 0 0], .agg #[.slice none 0 0, .slice none 0 0], .agg #[.slice none 0 0, .slice none 0 0, .int .i64 0, .int .i64 0, .int .i64 0, .int .i64 0]], []⟩ 8 (by kernel_rfl) (by kernel_rfl) (by kernel_rfl) (by kernel_rfl)) ?_
  intro W base args ds gs before hval0 hW _ hsz0 _
  have hsz : (DataW.weightsEach Try.prog (Try.f5.params.toList ++ Rows.boundPlanSpec.plain.varTypes Try.prog) (ds ++ gs)).all (· ≤ reachBytes) = true := hsz0
  have hval : ∀ (j : Nat) t v, Try.f5.params[j]? = some t → args[j]? = some v → Value.okWide Try.prog W .any base t v := hval0
  have hW' := hW
  obtain ⟨p, q, hA0, hV, rfl, hfz, hnd⟩ := hW
  have hA : DataW.TrodAll enc Try.prog W 0 (fun _ => true) true Try.f5.params.toList args.toList ds p := hA0
  rw [Try.params5] at hA hval hsz
  obtain ⟨v0, vs0, d0, ds0, p0, q0, hargs, rfl, rfl, h0, r0⟩ := trodAll_cons hA
  obtain ⟨v1, vs1, d1, ds1, p1, q1, rfl, rfl, rfl, h1, r1⟩ := trodAll_cons r0
  obtain ⟨v2, vs2, d2, ds2, p2, q2, rfl, rfl, rfl, h2, r2⟩ := trodAll_cons r1
  obtain ⟨rfl, rfl, rfl⟩ := trodAll_nil r2
  obtain rfl : args = #[v0, v1, v2] := by cases args; simp_all
  obtain ⟨rfl, rfl⟩ := trodVars_none hV
  have k0 := h0
  have lt0 : ∀ x ∈ p0, x.block < W.heap.size := by obtain ⟨m, hm⟩ := k0; exact DataW.trod_lt m _ _ _ hm
  obtain ⟨x0, rfl, hv0, hk0, hd0⟩ := open_world_cap (hval 0 28 v0 rfl rfl) h0
  have k1 := h1
  have lt1 : ∀ x ∈ p1, x.block < W.heap.size := by obtain ⟨m, hm⟩ := k1; exact DataW.trod_lt m _ _ _ hm
  obtain ⟨x1, rfl, hv1, hw1⟩ := open_plan_in (hval 1 45 v1 rfl rfl) h1
  have hs1 : Few x1 := fun r hr => by
    have hsc := (hv1.ra r hr).sc
    rcases hw1 r hr with h0 | hin
    · omega
    · have := List.all_eq_true.1 hsz _ (DataW.weights_mem_each (j := 1) (t := 45) (d := d1) rfl rfl _ hin)
      have h2 : r.sc * 8 ≤ reachBytes := by simpa using this
      have h3 := reachBytes_lt
      omega
  have k2 := h2
  have lt2 : ∀ x ∈ p2, x.block < W.heap.size := by obtain ⟨m, hm⟩ := k2; exact DataW.trod_lt m _ _ _ hm
  obtain ⟨x2, rfl, hv2⟩ := open_cert_in (hval 2 31 v2 rfl rfl) h2
  clear hA0 hval0
  refine (walk x0 hv0 hk0 hd0 x1 hv1 hs1 x2 hv2).mono fun e W' ⟨he, bel⟩ => ?_
  subst he
  exact ⟨_, rfl, _, _, _, [], _, [], hW', trodAll_mk1 (shut_bool Try.underlying4 _), (trodAll_cons_mk (Below.trod laidOut (by kernel_rfl) (of_decide_eq_true (by kernel_rfl)) k0 bel lt0) (trodAll_cons_mk (Below.trod laidOut (by kernel_rfl) (of_decide_eq_true (by kernel_rfl)) k1 bel lt1) (trodAll_cons_mk (Below.trod laidOut (by kernel_rfl) (of_decide_eq_true (by kernel_rfl)) k2 bel lt2) trodAll_mk0))), rfl, bel.frame _, fun h => by cases h⟩

theorem over : Rows.boundPlanRow.holds Try.pinned (OpenSpec.ofChange Rows.boundPlanSpec) :=
  OpenClaim.holds_of_wide 5 Try.f5 rfl rfl rfl rfl rfl rfl rfl ⟨rfl, rfl, rfl, rfl, rfl⟩ rfl rfl rfl rfl rfl (by kernel_rfl) Try.func5 (by kernel_rfl)
    (of_decide_eq_true (by kernel_rfl)) (by unfold Func.isWrapper; first | (rw [if_pos (by decide +kernel)]; kernel_rfl) | (rw [if_neg (by decide +kernel)]; exact ⟨rfl, rfl⟩))
    (fun os started H enc _ => lifted os started H enc)

theorem proved : Rows.BoundPlanSaid := over
end Go.Proofs.Ytbacakblboodeaa.boundPlan
