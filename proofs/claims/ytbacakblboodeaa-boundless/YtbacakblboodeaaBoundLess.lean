/- Every call of the law that the Bound of a certificate that holds is at most the cost of every plan that serves its orders answers true: for every world, certificate and plan. No conditions. -/
import Derived.Test.YtbacakblboodeaaRows
import Derived.Test.YtbacakblboodeaaBndL
import Derived.Deep.RegionHeld3
import Derived.WalkKit
import Derived.ProofKit
import Derived.OpenShut
import Derived.ShutString
import Derived.ChangeOld
import Derived.Below
import Derived.SizedLaws
namespace Go.Proofs.Ytbacakblboodeaa.boundLess
open Go.ChangeShapes Go.WideShapes Go.ChangeAt Go.RowKit
open Go.ChangeMaps (open_string shut_string)
set_option linter.unusedVariables false

theorem own : ownKnob Try.prog.godebug = none := by kernel_rfl
theorem laidOut : laidOutB Try.prog = true := by kernel_rfl

open Go.Proofs.Ytbacakblboodeaa
set_option maxRecDepth 100000

set_option maxHeartbeats 20000000 in
theorem walk {w : World} (x : Wd) (hx : WorldIn w x) (hk : x.k ≤ x.d) (hd : x.dm ≤ x.dc) (q : Ct) (hq : CertIn w q) (p : Pd) (hp : PlanIn w p) (fp : Few p) :
    Calls Try.prog 4 #[.agg #[.int .i64 x.N, .slice x.dA x.dm x.dc, .slice x.tA x.tm x.tc, .slice x.A x.m x.c, .slice x.B x.k x.d], .agg #[.slice q.iA q.im q.ic, .slice q.nA q.nm q.nc, .int .i64 q.back, .int .i64 q.rate, .int .i64 q.fixed, .int .i64 q.bound], .agg #[.slice p.rA p.rm p.rc, .slice p.uA p.um p.uc]] w fun e w' => e = .returned (.bool true) ∧ Below w.heap.size w w' := by
  have HB0 : Hid (Below w.heap.size w (((w.alloc (.cells #[.int .i64 x.N, .slice x.dA x.dm x.dc, .slice x.tA x.tm x.tc, .slice x.A x.m x.c, .slice x.B x.k x.d] 28)).alloc (.cells #[.slice q.iA q.im q.ic, .slice q.nA q.nm q.nc, .int .i64 q.back, .int .i64 q.rate, .int .i64 q.fixed, .int .i64 q.bound] 31)).alloc (.cells #[.slice p.rA p.rm p.rc, .slice p.uA p.um p.uc] 45))) := (below_more (below_more (below_alloc _ _) _) _)
  have HX : Hid (LBB (((w.alloc (.cells #[.int .i64 x.N, .slice x.dA x.dm x.dc, .slice x.tA x.tm x.tc, .slice x.A x.m x.c, .slice x.B x.k x.d] 28)).alloc (.cells #[.slice q.iA q.im q.ic, .slice q.nA q.nm q.nc, .int .i64 q.back, .int .i64 q.rate, .int .i64 q.fixed, .int .i64 q.bound] 31)).alloc (.cells #[.slice p.rA p.rm p.rc, .slice p.uA p.um p.uc] 45)) (w.heap.size) (w.heap.size + 1) (w.heap.size + 1 + 1) x q p) := ⟨(((box_at _ _ _ _ (by simp)).below (below_alloc _ _)).below (below_alloc _ _)), ((box_at _ _ _ _ (by simp)).below (below_alloc _ _)), (box_at _ _ _ _ (by simp))⟩
  have HWI := Lib.hid hx
  have HQI := Lib.hid hq
  have HPI := Lib.hid hp
  have HFP := Lib.hid fp
  have HCAP := Lib.hid hk
  clear hx hq hp fp hk hd
  go_enter Try.func4, Try.ntmps4
  go_wp2_with fail
  generalize (((w.alloc (.cells #[.int .i64 x.N, .slice x.dA x.dm x.dc, .slice x.tA x.tm x.tc, .slice x.A x.m x.c, .slice x.B x.k x.d] 28)).alloc (.cells #[.slice q.iA q.im q.ic, .slice q.nA q.nm q.nc, .int .i64 q.back, .int .i64 q.rate, .int .i64 q.fixed, .int .i64 q.bound] 31)).alloc (.cells #[.slice p.rA p.rm p.rc, .slice p.uA p.um p.uc] 45)) = V at *
  generalize w.heap.size + 1 + 1 = b3 at *
  generalize w.heap.size + 1 = b2 at *
  generalize hb1 : w.heap.size = b1 at HX ⊢
  have HBE := Lib.hid hb1
  clear hb1
  with_reducible refine (awake_any _).mono ?_
  rintro e V1 ⟨rfl, hv1⟩
  have HX1 := Lib.hid (HX.out.below hv1)
  have HB1 := Lib.hid (below_next HB0.out hv1)
  clear hv1 HX HB0
  obtain ⟨r, hr⟩ : ∃ r : Bool, r = true ↔ LargeC x q := by
    by_cases h : LargeC x q
    · exact ⟨true, by simp [h]⟩
    · exact ⟨false, by simp [h]⟩
  have HR := Lib.hid hr
  have HC := Lib.hid (clarge_b x q V1 r hr (HWI.out.below HB1.out) (HQI.out.below HB1.out))
  clear hr
  have c0 := wbox0 HX1.out.w
  have c1 := wbox1 HX1.out.w
  have c2 := wbox2 HX1.out.w
  have c3 := wbox3 HX1.out.w
  have c4 := wbox4 HX1.out.w
  have y0 := qbox0 HX1.out.c
  have y1 := qbox1 HX1.out.c
  have y2 := qbox2 HX1.out.c
  have y3 := qbox3 HX1.out.c
  have y4 := qbox4 HX1.out.c
  have y5 := qbox5 HX1.out.c
  go_wp2_with fail
  clear c0 c1 c2 c3 c4 y0 y1 y2 y3 y4 y5
  with_reducible refine HC.out.mono ?_
  rintro e V2 ⟨rfl, hv2⟩
  have HX2 := Lib.hid (HX1.out.below hv2.out)
  have HB2 := Lib.hid (below_next HB1.out hv2.out)
  clear hv2 HX1 HB1 HC
  cases r with
  | true =>
    go_wp2_with fail
    go_ret
    exact ⟨rfl, HB2.out⟩
  | false =>
    have HNL : Hid (¬ LargeC x q) := fun h => by have := HR.out.2 h; cases this
    clear HR
    obtain ⟨r, hr⟩ : ∃ r, largeB p = r := ⟨_, rfl⟩
    have HR := Lib.hid hr
    have HC := Lib.hid (plarge_b p V2 r hr (HPI.out.below HB2.out) HFP.out)
    clear hr
    have a0 := pbox0 HX2.out.p
    have a1 := pbox1 HX2.out.p
    go_wp2_with fail
    clear a0 a1
    with_reducible refine HC.out.mono ?_
    rintro e V3 ⟨rfl, hv3⟩
    have HX3 := Lib.hid (HX2.out.below hv3.out)
    have HB := Lib.hid (below_next HB2.out hv3.out)
    clear hv3 HX2 HB2 HC
    cases r with
    | true =>
      go_wp2_with fail
      go_ret
      exact ⟨rfl, HB.out⟩
    | false =>
    have HX : Hid (LX V3 b1 b2 b3 x q p) := by
      have hl : ¬ LargeP p := fun h => by have := large_is.2 h; rw [HR.out] at this; cases this
      exact ⟨⟨HX3.out.w, (HWI.out.below HB.out).at_ (rd_of HNL.out)⟩, ⟨HX3.out.c, (HQI.out.below HB.out).small HNL.out⟩, ⟨HX3.out.p, (HPI.out.below HB.out).at_ hl⟩⟩
    clear HX3 HR HNL HWI HQI HPI HFP
    obtain ⟨⟨cost, er⟩, hck⟩ : ∃ z, Pl.checkS x.N x.D x.T x.os x.ts (ros p.rs) p.us = z := ⟨_, rfl⟩
    have HCK := Lib.hid hck
    have HC := Lib.hid (check_b x p V3 _ hck HX.out.w.at_ HX.out.p.at_)
    clear hck
    have c0 := HX.out.w.c0
    have c1 := HX.out.w.c1
    have c2 := HX.out.w.c2
    have c3 := HX.out.w.c3
    have c4 := HX.out.w.c4
    have a0 := HX.out.p.c0
    have a1 := HX.out.p.c1
    go_wp2_with fail
    clear c0 c1 c2 c3 c4 a0 a1
    with_reducible refine HC.out.mono ?_
    rintro e V4 ⟨rfl, hv4⟩
    have HX4 := Lib.hid (HX.out.below hv4.out)
    have HB4 := Lib.hid (below_next HB.out hv4.out)
    clear HX HB HC hv4
    have HYS : Hid (∀ U, Hid (Below V4.heap.size V4 U) → (U.cell? ⟨b1, 0, none⟩ = some (.int .i64 x.N) ∧ U.cell? ⟨b1, 1, none⟩ = some (.slice x.dA x.dm x.dc) ∧ U.cell? ⟨b1, 2, none⟩ = some (.slice x.tA x.tm x.tc) ∧ U.cell? ⟨b1, 3, none⟩ = some (.slice x.A x.m x.c) ∧ U.cell? ⟨b1, 4, none⟩ = some (.slice x.B x.k x.d) ∧ U.cell? ⟨b2, 0, none⟩ = some (.slice q.iA q.im q.ic) ∧ U.cell? ⟨b2, 1, none⟩ = some (.slice q.nA q.nm q.nc) ∧ U.cell? ⟨b2, 2, none⟩ = some (.int .i64 q.back) ∧ U.cell? ⟨b2, 3, none⟩ = some (.int .i64 q.rate) ∧ U.cell? ⟨b2, 4, none⟩ = some (.int .i64 q.fixed) ∧ U.cell? ⟨b2, 5, none⟩ = some (.int .i64 q.bound) ∧ U.cell? ⟨b3, 0, none⟩ = some (.slice p.rA p.rm p.rc) ∧ U.cell? ⟨b3, 1, none⟩ = some (.slice p.uA p.um p.uc) ∧ Hid (Below V4.heap.size V4 U))) := fun U hU => ⟨(HX4.out.below hU.out).w.c0, (HX4.out.below hU.out).w.c1, (HX4.out.below hU.out).w.c2, (HX4.out.below hU.out).w.c3, (HX4.out.below hU.out).w.c4, (HX4.out.below hU.out).c.c0, (HX4.out.below hU.out).c.c1, (HX4.out.below hU.out).c.c2, (HX4.out.below hU.out).c.c3, (HX4.out.below hU.out).c.c4, (HX4.out.below hU.out).c.c5, (HX4.out.below hU.out).p.c0, (HX4.out.below hU.out).p.c1, hU⟩
    have HDR : Hid (Below V4.heap.size V4 V4.drew) := (Below.refl V4.heap.size V4).drew
    have HCO : Hid (0 ≤ cost) := by
      by_cases h : er = 0
      · have h1 := Pl.may_of (N := x.N) (D := x.D) (T := x.T) (os := x.os) (ts := x.ts) (rs := ros p.rs) (us := p.us) (by rw [HCK.out]; exact h)
        have h2 := h1.2
        rw [HCK.out] at h2
        injection h2 with h2 _
        unfold Hid
        rw [h2]
        exact Bo.costs_ge fun r hr => h1.1.tp r hr
      · have h1 := Pl.check_zero (N := x.N) (D := x.D) (T := x.T) (os := x.os) (ts := x.ts) (rs := ros p.rs) (us := p.us) (by rw [HCK.out]; exact h)
        rw [HCK.out] at h1
        have h1 : cost = 0 := h1
        unfold Hid
        rw [h1]
        exact Int.le_refl 0
    have dco : decide ((0 : Int) ≤ cost) = true := decide_eq_true HCO.out
    obtain ⟨l, hl⟩ : ∃ z, Pl.servedS (ros p.rs) = z := ⟨_, rfl⟩
    obtain ⟨n, hn⟩ : ∃ z, l.length = z := ⟨_, rfl⟩
    have HL := Lib.hid hl
    have hn2 : n ≤ 10000 := by rw [← hn, ← hl]; exact served_len HX4.out.p.at_
    obtain ⟨bs, hbs⟩ : ∃ z, decide (l = q.ids) = z := ⟨_, rfl⟩
    have HBS := Lib.hid hbs
    obtain ⟨bh, hbh⟩ : ∃ z, Bo.holdsB x.N x.D x.T x.os x.ts q.c = z := ⟨_, rfl⟩
    have HBH := Lib.hid hbh
    have HSV : Hid (∀ U, Hid (Below V4.heap.size V4 U) → Calls Try.prog 17 #[.agg #[.slice p.rA p.rm p.rc, .slice p.uA p.um p.uc]] U fun e w' => ∃ A5 c5, e = .returned (.slice A5 n c5) ∧ Hid (Below V4.heap.size V4 w') ∧ Hid (IntsAt w' A5 l)) := fun U hU =>
      (served_b p U (HX4.out.below hU.out).p.at_).mono fun e w' h => by
        obtain ⟨A5, c5, e1, h2, h3⟩ := h
        rw [hl] at e1 h3
        rw [hn] at e1
        exact ⟨A5, c5, e1, below_next hU.out h3.out.1, h3.out.2.1⟩
    have HSM : Hid (∀ U A5 c5, Hid (Below V4.heap.size V4 U) → Hid (IntsAt U A5 l) → Calls Try.prog 16 #[.slice A5 n c5, .slice q.iA q.im q.ic] U fun e w' => e = .returned (.bool bs) ∧ Hid (Below V4.heap.size V4 w')) := fun U A5 c5 hU hI =>
      (psame_b A5 q.iA n c5 q.im q.ic l q.ids U bs hbs hn HX4.out.c.at_.il (by omega) (by have := HX4.out.c.at_.i2; omega) hI.out (HX4.out.below hU.out).c.at_.ii).mono fun e w' ⟨e1, h⟩ => by
        obtain ⟨n1, rfl⟩ := h
        exact ⟨e1, below_next hU.out (drewN_below _ _)⟩
    have HHO : Hid (∀ U, Hid (Below V4.heap.size V4 U) → Calls Try.prog 12 #[.agg #[.int .i64 x.N, .slice x.dA x.dm x.dc, .slice x.tA x.tm x.tc, .slice x.A x.m x.c, .slice x.B x.k x.d], .agg #[.slice q.iA q.im q.ic, .slice q.nA q.nm q.nc, .int .i64 q.back, .int .i64 q.rate, .int .i64 q.fixed, .int .i64 q.bound]] U fun e w' => e = .returned (.bool bh) ∧ Hid (Below V4.heap.size V4 w')) := fun U hU =>
      (holds_b x q U bh hbh (HX4.out.below hU.out).w.at_ HCAP.out (HX4.out.below hU.out).c.at_).mono fun e w' ⟨e1, h⟩ => ⟨e1, below_next hU.out h.out⟩
    clear hl hn hbs hbh
    have c0 := HX4.out.w.c0
    have c1 := HX4.out.w.c1
    have c2 := HX4.out.w.c2
    have c3 := HX4.out.w.c3
    have c4 := HX4.out.w.c4
    have y0 := HX4.out.c.c0
    have y1 := HX4.out.c.c1
    have y2 := HX4.out.c.c2
    have y3 := HX4.out.c.c3
    have y4 := HX4.out.c.c4
    have y5 := HX4.out.c.c5
    have a0 := HX4.out.p.c0
    have a1 := HX4.out.p.c1
    by_cases he : er = 0
    · subst he
      have HMAY := Lib.hid (Pl.may_of (N := x.N) (D := x.D) (T := x.T) (os := x.os) (ts := x.ts) (rs := ros p.rs) (us := p.us) (by rw [HCK.out]))
      cases bs
      · go_upto_region 6 with fail
        refine wp_region_held_drew (S := (fun U : World => U.cell? ⟨b1, 0, none⟩ = some (.int .i64 x.N) ∧ U.cell? ⟨b1, 1, none⟩ = some (.slice x.dA x.dm x.dc) ∧ U.cell? ⟨b1, 2, none⟩ = some (.slice x.tA x.tm x.tc) ∧ U.cell? ⟨b1, 3, none⟩ = some (.slice x.A x.m x.c) ∧ U.cell? ⟨b1, 4, none⟩ = some (.slice x.B x.k x.d) ∧ U.cell? ⟨b2, 0, none⟩ = some (.slice q.iA q.im q.ic) ∧ U.cell? ⟨b2, 1, none⟩ = some (.slice q.nA q.nm q.nc) ∧ U.cell? ⟨b2, 2, none⟩ = some (.int .i64 q.back) ∧ U.cell? ⟨b2, 3, none⟩ = some (.int .i64 q.rate) ∧ U.cell? ⟨b2, 4, none⟩ = some (.int .i64 q.fixed) ∧ U.cell? ⟨b2, 5, none⟩ = some (.int .i64 q.bound) ∧ U.cell? ⟨b3, 0, none⟩ = some (.slice p.rA p.rm p.rc) ∧ U.cell? ⟨b3, 1, none⟩ = some (.slice p.uA p.um p.uc) ∧ Hid (Below V4.heap.size V4 U))) (by kernel_rfl) (by (try dsimp only); exact HYS.out _ HDR) (fun hHeld => ?_)
        refine wpAnyH_take (i := 0) (v := ?_) (by simp only [List.getElem?_toArray, List.getElem?_cons_zero]; exact rfl) (by kernel_rfl) (by kernel_rfl) (by kernel_rfl) (by exact fun _ _ _ h => h) (Or.inl ⟨by rfl, ?_⟩) (by assumption) ?_
        rotate_left
        · intro w hSw; (try dsimp only at hSw); go_simp <;> with_reducible rfl
        try simp only [Act.put, List.setIfInBounds_toArray, List.set_cons_zero, List.set_cons_succ]
        refine wpAnyH_take (i := 1) (v := ?_) (by simp only [List.getElem?_toArray, List.getElem?_cons_succ, List.getElem?_cons_zero]; exact rfl) (by kernel_rfl) (by kernel_rfl) (by kernel_rfl) (by exact fun _ _ _ h => h) (Or.inl ⟨by rfl, ?_⟩) (by assumption) ?_
        rotate_left
        · intro w hSw; (try dsimp only at hSw); go_simp <;> with_reducible rfl
        try simp only [Act.put, List.setIfInBounds_toArray, List.set_cons_zero, List.set_cons_succ]
        refine wpAnyH_take (i := 2) (v := ?_) (by simp only [List.getElem?_toArray, List.getElem?_cons_succ, List.getElem?_cons_zero]; exact rfl) (by kernel_rfl) (by kernel_rfl) (by kernel_rfl) (by exact fun _ _ _ h => h) (Or.inl ⟨by rfl, ?_⟩) (by assumption) ?_
        rotate_left
        · intro w hSw; (try dsimp only at hSw); go_simp <;> with_reducible rfl
        try simp only [Act.put, List.setIfInBounds_toArray, List.set_cons_zero, List.set_cons_succ]
        refine wpAnyH_take (i := 3) (v := ?_) (by simp only [List.getElem?_toArray, List.getElem?_cons_succ, List.getElem?_cons_zero]; exact rfl) (by kernel_rfl) (by kernel_rfl) (by kernel_rfl) (by exact fun _ _ _ h => h) (Or.inl ⟨by rfl, ?_⟩) (by assumption) ?_
        rotate_left
        · intro w hSw; (try dsimp only at hSw); go_simp <;> with_reducible rfl
        try simp only [Act.put, List.setIfInBounds_toArray, List.set_cons_zero, List.set_cons_succ]
        refine wpAnyH_take (i := 5) (v := ?_) (by simp only [List.getElem?_toArray, List.getElem?_cons_succ, List.getElem?_cons_zero]; exact rfl) (by kernel_rfl) (by kernel_rfl) (by kernel_rfl) (by exact fun _ _ _ h => h) (Or.inl ⟨by rfl, ?_⟩) (by assumption) ?_
        rotate_left
        · intro w hSw; (try dsimp only at hSw); go_simp <;> with_reducible rfl
        try simp only [Act.put, List.setIfInBounds_toArray, List.set_cons_zero, List.set_cons_succ]
        refine wpAnyH_take (i := 6) (v := ?_) (by simp only [List.getElem?_toArray, List.getElem?_cons_succ, List.getElem?_cons_zero]; exact rfl) (by kernel_rfl) (by kernel_rfl) (by kernel_rfl) (by exact fun _ _ _ h => h) (Or.inl ⟨by rfl, ?_⟩) (by assumption) ?_
        rotate_left
        · intro w hSw; (try dsimp only at hSw); go_simp <;> with_reducible rfl
        try simp only [Act.put, List.setIfInBounds_toArray, List.set_cons_zero, List.set_cons_succ]
        refine wpAnyH_ready (rs := [4]) (by kernel_rfl) (by simp) ?_
        refine AllReadyH.cons (by simp only [List.getElem?_toArray, List.getElem?_cons_succ, List.getElem?_cons_zero]; exact rfl) (fun K hK => ?_) AllReadyH.nil
        go_simp
        go_at_call 17
        with_reducible refine (HSV.out _ HDR).mono ?_
        rintro e w5 ⟨A5, c5, rfl, k5, l5⟩
        go_wp2_with fail
        clear hHeld
        refine hK.out _ _ ?_ (fun hHeld => ?_)
        · (try dsimp only); exact HYS.out _ k5
        clear hK K
        try simp only [Act.put, List.setIfInBounds_toArray, List.set_cons_zero, List.set_cons_succ]
        refine wpAnyH_ready (rs := [7]) (by kernel_rfl) (by simp) ?_
        refine AllReadyH.cons (by simp only [List.getElem?_toArray, List.getElem?_cons_succ, List.getElem?_cons_zero]; exact rfl) (fun K hK => ?_) AllReadyH.nil
        go_simp
        go_at_call 16
        with_reducible refine (HSM.out _ _ _ k5 l5).mono ?_
        rintro e w6 ⟨rfl, k6⟩
        go_wp2_with fail
        clear hHeld
        refine hK.out _ _ ?_ (fun hHeld => ?_)
        · (try dsimp only); exact HYS.out _ k6
        clear hK K
        try simp only [Act.put, List.setIfInBounds_toArray, List.set_cons_zero, List.set_cons_succ]
        refine wpAnyH_take (i := 8) (v := ?_) (by simp only [List.getElem?_toArray, List.getElem?_cons_succ, List.getElem?_cons_zero]; exact rfl) (by kernel_rfl) (by kernel_rfl) (by kernel_rfl) (by exact fun _ _ _ h => h) (Or.inl ⟨by rfl, ?_⟩) (by assumption) ?_
        rotate_left
        · intro w hSw; (try dsimp only at hSw); go_simp <;> with_reducible rfl
        try simp only [Act.put, List.setIfInBounds_toArray, List.set_cons_zero, List.set_cons_succ]
        refine wpAnyH_take (i := 9) (v := ?_) (by simp only [List.getElem?_toArray, List.getElem?_cons_succ, List.getElem?_cons_zero]; exact rfl) (by kernel_rfl) (by kernel_rfl) (by kernel_rfl) (by exact fun _ _ _ h => h) (Or.inl ⟨by rfl, ?_⟩) (by assumption) ?_
        rotate_left
        · intro w hSw; (try dsimp only at hSw); go_simp <;> with_reducible rfl
        try simp only [Act.put, List.setIfInBounds_toArray, List.set_cons_zero, List.set_cons_succ]
        refine wpAnyH_take (i := 10) (v := ?_) (by simp only [List.getElem?_toArray, List.getElem?_cons_succ, List.getElem?_cons_zero]; exact rfl) (by kernel_rfl) (by kernel_rfl) (by kernel_rfl) (by exact fun _ _ _ h => h) (Or.inl ⟨by rfl, ?_⟩) (by assumption) ?_
        rotate_left
        · intro w hSw; (try dsimp only at hSw); go_simp <;> with_reducible rfl
        try simp only [Act.put, List.setIfInBounds_toArray, List.set_cons_zero, List.set_cons_succ]
        refine wpAnyH_take (i := 11) (v := undef) (by simp only [List.getElem?_toArray, List.getElem?_cons_succ, List.getElem?_cons_zero]; exact rfl) (by kernel_rfl) (by kernel_rfl) (by kernel_rfl) (by exact fun _ _ _ h => h) (Or.inr ⟨by rfl, rfl⟩) (by assumption) ?_
        try simp only [Act.put, List.setIfInBounds_toArray, List.set_cons_zero, List.set_cons_succ]
        refine wpAnyH_take (i := 12) (v := undef) (by simp only [List.getElem?_toArray, List.getElem?_cons_succ, List.getElem?_cons_zero]; exact rfl) (by kernel_rfl) (by kernel_rfl) (by kernel_rfl) (by exact fun _ _ _ h => h) (Or.inr ⟨by rfl, rfl⟩) (by assumption) ?_
        try simp only [Act.put, List.setIfInBounds_toArray, List.set_cons_zero, List.set_cons_succ]
        refine wpAnyH_ready (rs := [13]) (by kernel_rfl) (by simp) ?_
        refine AllReadyH.cons (by simp only [List.getElem?_toArray, List.getElem?_cons_succ, List.getElem?_cons_zero]; exact rfl) (fun K hK => ?_) AllReadyH.nil
        go_simp
        clear hHeld
        refine hK.out _ _ ?_ (fun hHeld => ?_)
        · (try dsimp only); exact HYS.out _ k6
        clear hK K
        try simp only [Act.put, List.setIfInBounds_toArray, List.set_cons_zero, List.set_cons_succ]
        refine wpAnyH_take (i := 14) (v := undef) (by simp only [List.getElem?_toArray, List.getElem?_cons_succ, List.getElem?_cons_zero]; exact rfl) (by kernel_rfl) (by kernel_rfl) (by kernel_rfl) (by exact fun _ _ _ h => h) (Or.inr ⟨by rfl, rfl⟩) (by assumption) ?_
        try simp only [Act.put, List.setIfInBounds_toArray, List.set_cons_zero, List.set_cons_succ]
        refine wpAnyH_take (i := 15) (v := ?_) (by simp only [List.getElem?_toArray, List.getElem?_cons_succ, List.getElem?_cons_zero]; exact rfl) (by kernel_rfl) (by kernel_rfl) (by kernel_rfl) (by exact fun _ _ _ h => h) (Or.inl ⟨by rfl, ?_⟩) (by assumption) ?_
        rotate_left
        · intro w hSw; (try dsimp only at hSw); go_simp <;> with_reducible rfl
        try simp only [Act.put, List.setIfInBounds_toArray, List.set_cons_zero, List.set_cons_succ]
        refine wpAnyH_done (by kernel_rfl) ?_ _
        rotate_left
        clear hHeld
        go_wp2
        go_ret
        exact ⟨rfl, below_next HB4.out k6.out⟩
      · cases bh
        · go_upto_region 6 with fail
          go_region_held3 (fun U : World => U.cell? ⟨b1, 0, none⟩ = some (.int .i64 x.N) ∧ U.cell? ⟨b1, 1, none⟩ = some (.slice x.dA x.dm x.dc) ∧ U.cell? ⟨b1, 2, none⟩ = some (.slice x.tA x.tm x.tc) ∧ U.cell? ⟨b1, 3, none⟩ = some (.slice x.A x.m x.c) ∧ U.cell? ⟨b1, 4, none⟩ = some (.slice x.B x.k x.d) ∧ U.cell? ⟨b2, 0, none⟩ = some (.slice q.iA q.im q.ic) ∧ U.cell? ⟨b2, 1, none⟩ = some (.slice q.nA q.nm q.nc) ∧ U.cell? ⟨b2, 2, none⟩ = some (.int .i64 q.back) ∧ U.cell? ⟨b2, 3, none⟩ = some (.int .i64 q.rate) ∧ U.cell? ⟨b2, 4, none⟩ = some (.int .i64 q.fixed) ∧ U.cell? ⟨b2, 5, none⟩ = some (.int .i64 q.bound) ∧ U.cell? ⟨b3, 0, none⟩ = some (.slice p.rA p.rm p.rc) ∧ U.cell? ⟨b3, 1, none⟩ = some (.slice p.uA p.um p.uc) ∧ Hid (Below V4.heap.size V4 U)) (first | exact HYS.out _ (by assumption) | exact HYS.out _ HDR.out) (first
            | (go_at_call 17; (with_reducible refine (HSV.out _ (by assumption)).mono ?_); rintro e w5 ⟨A5, c5, rfl, k5, l5⟩)
            | (go_at_call 16; (with_reducible refine (HSM.out _ _ _ (by assumption) (by assumption)).mono ?_); rintro e w6 ⟨rfl, k6⟩)
            | (go_at_call 12; (with_reducible refine (HHO.out _ (by assumption)).mono ?_); rintro e w7 ⟨rfl, k7⟩))
          all_goals
            go_wp2
            go_ret
            exact ⟨rfl, below_next HB4.out (by first | exact HDR.out | exact Hid.out (by assumption))⟩
        · have HLE : Hid (0 ≤ q.bound ∧ q.bound ≤ cost) := by
            have h := Bo.bound_le HMAY.out.1 HBH.out (HL.out.trans (of_decide_eq_true HBS.out))
            have h2 := HMAY.out.2
            rw [HCK.out] at h2
            injection h2 with h2 _
            unfold Hid
            rw [h2]
            exact h
          have d1 : decide (q.bound ≤ cost) = true := decide_eq_true HLE.out.2
          have d2 : decide ((0 : Int) ≤ q.bound) = true := decide_eq_true HLE.out.1
          go_upto_region 6 with fail
          go_region_held3 (fun U : World => U.cell? ⟨b1, 0, none⟩ = some (.int .i64 x.N) ∧ U.cell? ⟨b1, 1, none⟩ = some (.slice x.dA x.dm x.dc) ∧ U.cell? ⟨b1, 2, none⟩ = some (.slice x.tA x.tm x.tc) ∧ U.cell? ⟨b1, 3, none⟩ = some (.slice x.A x.m x.c) ∧ U.cell? ⟨b1, 4, none⟩ = some (.slice x.B x.k x.d) ∧ U.cell? ⟨b2, 0, none⟩ = some (.slice q.iA q.im q.ic) ∧ U.cell? ⟨b2, 1, none⟩ = some (.slice q.nA q.nm q.nc) ∧ U.cell? ⟨b2, 2, none⟩ = some (.int .i64 q.back) ∧ U.cell? ⟨b2, 3, none⟩ = some (.int .i64 q.rate) ∧ U.cell? ⟨b2, 4, none⟩ = some (.int .i64 q.fixed) ∧ U.cell? ⟨b2, 5, none⟩ = some (.int .i64 q.bound) ∧ U.cell? ⟨b3, 0, none⟩ = some (.slice p.rA p.rm p.rc) ∧ U.cell? ⟨b3, 1, none⟩ = some (.slice p.uA p.um p.uc) ∧ Hid (Below V4.heap.size V4 U)) (first | exact HYS.out _ (by assumption) | exact HYS.out _ HDR.out) (first
            | (go_at_call 17; (with_reducible refine (HSV.out _ (by assumption)).mono ?_); rintro e w5 ⟨A5, c5, rfl, k5, l5⟩)
            | (go_at_call 16; (with_reducible refine (HSM.out _ _ _ (by assumption) (by assumption)).mono ?_); rintro e w6 ⟨rfl, k6⟩)
            | (go_at_call 12; (with_reducible refine (HHO.out _ (by assumption)).mono ?_); rintro e w7 ⟨rfl, k7⟩))
          all_goals
            have z5 := (HX4.out.below (Hid.out (by assumption))).c.c5
            go_wp2
            go_ret
            exact ⟨rfl, below_next HB4.out (Hid.out (by assumption))⟩
    · have d3 : (er != (0 : Int)) = true := bne_iff_ne.2 he
      clear he
      go_upto_region 6 with fail
      refine wp_region_held_drew (S := (fun U : World => U.cell? ⟨b1, 0, none⟩ = some (.int .i64 x.N) ∧ U.cell? ⟨b1, 1, none⟩ = some (.slice x.dA x.dm x.dc) ∧ U.cell? ⟨b1, 2, none⟩ = some (.slice x.tA x.tm x.tc) ∧ U.cell? ⟨b1, 3, none⟩ = some (.slice x.A x.m x.c) ∧ U.cell? ⟨b1, 4, none⟩ = some (.slice x.B x.k x.d) ∧ U.cell? ⟨b2, 0, none⟩ = some (.slice q.iA q.im q.ic) ∧ U.cell? ⟨b2, 1, none⟩ = some (.slice q.nA q.nm q.nc) ∧ U.cell? ⟨b2, 2, none⟩ = some (.int .i64 q.back) ∧ U.cell? ⟨b2, 3, none⟩ = some (.int .i64 q.rate) ∧ U.cell? ⟨b2, 4, none⟩ = some (.int .i64 q.fixed) ∧ U.cell? ⟨b2, 5, none⟩ = some (.int .i64 q.bound) ∧ U.cell? ⟨b3, 0, none⟩ = some (.slice p.rA p.rm p.rc) ∧ U.cell? ⟨b3, 1, none⟩ = some (.slice p.uA p.um p.uc) ∧ Hid (Below V4.heap.size V4 U))) (by kernel_rfl) (by (try dsimp only); exact HYS.out _ HDR) (fun hHeld => ?_)
      refine wpAnyH_take (i := 0) (v := ?_) (by simp only [List.getElem?_toArray, List.getElem?_cons_zero]; exact rfl) (by kernel_rfl) (by kernel_rfl) (by kernel_rfl) (by exact fun _ _ _ h => h) (Or.inl ⟨by rfl, ?_⟩) (by assumption) ?_
      rotate_left
      · intro w hSw; (try dsimp only at hSw); go_simp <;> with_reducible rfl
      try simp only [Act.put, List.setIfInBounds_toArray, List.set_cons_zero, List.set_cons_succ]
      refine wpAnyH_take (i := 1) (v := ?_) (by simp only [List.getElem?_toArray, List.getElem?_cons_succ, List.getElem?_cons_zero]; exact rfl) (by kernel_rfl) (by kernel_rfl) (by kernel_rfl) (by exact fun _ _ _ h => h) (Or.inl ⟨by rfl, ?_⟩) (by assumption) ?_
      rotate_left
      · intro w hSw; (try dsimp only at hSw); go_simp <;> with_reducible rfl
      try simp only [Act.put, List.setIfInBounds_toArray, List.set_cons_zero, List.set_cons_succ]
      refine wpAnyH_take (i := 2) (v := ?_) (by simp only [List.getElem?_toArray, List.getElem?_cons_succ, List.getElem?_cons_zero]; exact rfl) (by kernel_rfl) (by kernel_rfl) (by kernel_rfl) (by exact fun _ _ _ h => h) (Or.inl ⟨by rfl, ?_⟩) (by assumption) ?_
      rotate_left
      · intro w hSw; (try dsimp only at hSw); go_simp <;> with_reducible rfl
      try simp only [Act.put, List.setIfInBounds_toArray, List.set_cons_zero, List.set_cons_succ]
      refine wpAnyH_take (i := 3) (v := undef) (by simp only [List.getElem?_toArray, List.getElem?_cons_succ, List.getElem?_cons_zero]; exact rfl) (by kernel_rfl) (by kernel_rfl) (by kernel_rfl) (by exact fun _ _ _ h => h) (Or.inr ⟨by rfl, rfl⟩) (by assumption) ?_
      try simp only [Act.put, List.setIfInBounds_toArray, List.set_cons_zero, List.set_cons_succ]
      refine wpAnyH_take (i := 5) (v := undef) (by simp only [List.getElem?_toArray, List.getElem?_cons_succ, List.getElem?_cons_zero]; exact rfl) (by kernel_rfl) (by kernel_rfl) (by kernel_rfl) (by exact fun _ _ _ h => h) (Or.inr ⟨by rfl, rfl⟩) (by assumption) ?_
      try simp only [Act.put, List.setIfInBounds_toArray, List.set_cons_zero, List.set_cons_succ]
      refine wpAnyH_take (i := 6) (v := undef) (by simp only [List.getElem?_toArray, List.getElem?_cons_succ, List.getElem?_cons_zero]; exact rfl) (by kernel_rfl) (by kernel_rfl) (by kernel_rfl) (by exact fun _ _ _ h => h) (Or.inr ⟨by rfl, rfl⟩) (by assumption) ?_
      try simp only [Act.put, List.setIfInBounds_toArray, List.set_cons_zero, List.set_cons_succ]
      refine wpAnyH_ready (rs := [4]) (by kernel_rfl) (by simp) ?_
      refine AllReadyH.cons (by simp only [List.getElem?_toArray, List.getElem?_cons_succ, List.getElem?_cons_zero]; exact rfl) (fun K hK => ?_) AllReadyH.nil
      go_simp
      clear hHeld
      refine hK.out _ _ ?_ (fun hHeld => ?_)
      · (try dsimp only); exact HYS.out _ HDR
      clear hK K
      try simp only [Act.put, List.setIfInBounds_toArray, List.set_cons_zero, List.set_cons_succ]
      refine wpAnyH_ready (rs := [7]) (by kernel_rfl) (by simp) ?_
      refine AllReadyH.cons (by simp only [List.getElem?_toArray, List.getElem?_cons_succ, List.getElem?_cons_zero]; exact rfl) (fun K hK => ?_) AllReadyH.nil
      go_simp
      clear hHeld
      refine hK.out _ _ ?_ (fun hHeld => ?_)
      · (try dsimp only); exact HYS.out _ HDR
      clear hK K
      try simp only [Act.put, List.setIfInBounds_toArray, List.set_cons_zero, List.set_cons_succ]
      refine wpAnyH_take (i := 8) (v := undef) (by simp only [List.getElem?_toArray, List.getElem?_cons_succ, List.getElem?_cons_zero]; exact rfl) (by kernel_rfl) (by kernel_rfl) (by kernel_rfl) (by exact fun _ _ _ h => h) (Or.inr ⟨by rfl, rfl⟩) (by assumption) ?_
      try simp only [Act.put, List.setIfInBounds_toArray, List.set_cons_zero, List.set_cons_succ]
      refine wpAnyH_take (i := 9) (v := ?_) (by simp only [List.getElem?_toArray, List.getElem?_cons_succ, List.getElem?_cons_zero]; exact rfl) (by kernel_rfl) (by kernel_rfl) (by kernel_rfl) (by exact fun _ _ _ h => h) (Or.inl ⟨by rfl, ?_⟩) (by assumption) ?_
      rotate_left
      · intro w hSw; (try dsimp only at hSw); go_simp <;> with_reducible rfl
      try simp only [Act.put, List.setIfInBounds_toArray, List.set_cons_zero, List.set_cons_succ]
      refine wpAnyH_take (i := 10) (v := ?_) (by simp only [List.getElem?_toArray, List.getElem?_cons_succ, List.getElem?_cons_zero]; exact rfl) (by kernel_rfl) (by kernel_rfl) (by kernel_rfl) (by exact fun _ _ _ h => h) (Or.inl ⟨by rfl, ?_⟩) (by assumption) ?_
      rotate_left
      · intro w hSw; (try dsimp only at hSw); go_simp <;> with_reducible rfl
      try simp only [Act.put, List.setIfInBounds_toArray, List.set_cons_zero, List.set_cons_succ]
      refine wpAnyH_take (i := 11) (v := undef) (by simp only [List.getElem?_toArray, List.getElem?_cons_succ, List.getElem?_cons_zero]; exact rfl) (by kernel_rfl) (by kernel_rfl) (by kernel_rfl) (by exact fun _ _ _ h => h) (Or.inr ⟨by rfl, rfl⟩) (by assumption) ?_
      try simp only [Act.put, List.setIfInBounds_toArray, List.set_cons_zero, List.set_cons_succ]
      refine wpAnyH_take (i := 12) (v := undef) (by simp only [List.getElem?_toArray, List.getElem?_cons_succ, List.getElem?_cons_zero]; exact rfl) (by kernel_rfl) (by kernel_rfl) (by kernel_rfl) (by exact fun _ _ _ h => h) (Or.inr ⟨by rfl, rfl⟩) (by assumption) ?_
      try simp only [Act.put, List.setIfInBounds_toArray, List.set_cons_zero, List.set_cons_succ]
      refine wpAnyH_ready (rs := [13]) (by kernel_rfl) (by simp) ?_
      refine AllReadyH.cons (by simp only [List.getElem?_toArray, List.getElem?_cons_succ, List.getElem?_cons_zero]; exact rfl) (fun K hK => ?_) AllReadyH.nil
      go_simp
      clear hHeld
      refine hK.out _ _ ?_ (fun hHeld => ?_)
      · (try dsimp only); exact HYS.out _ HDR
      clear hK K
      try simp only [Act.put, List.setIfInBounds_toArray, List.set_cons_zero, List.set_cons_succ]
      refine wpAnyH_take (i := 14) (v := undef) (by simp only [List.getElem?_toArray, List.getElem?_cons_succ, List.getElem?_cons_zero]; exact rfl) (by kernel_rfl) (by kernel_rfl) (by kernel_rfl) (by exact fun _ _ _ h => h) (Or.inr ⟨by rfl, rfl⟩) (by assumption) ?_
      try simp only [Act.put, List.setIfInBounds_toArray, List.set_cons_zero, List.set_cons_succ]
      refine wpAnyH_take (i := 15) (v := ?_) (by simp only [List.getElem?_toArray, List.getElem?_cons_succ, List.getElem?_cons_zero]; exact rfl) (by kernel_rfl) (by kernel_rfl) (by kernel_rfl) (by exact fun _ _ _ h => h) (Or.inl ⟨by rfl, ?_⟩) (by assumption) ?_
      rotate_left
      · intro w hSw; (try dsimp only at hSw); go_simp <;> with_reducible rfl
      try simp only [Act.put, List.setIfInBounds_toArray, List.set_cons_zero, List.set_cons_succ]
      refine wpAnyH_done (by kernel_rfl) ?_ _
      rotate_left
      clear hHeld
      go_wp2
      go_ret
      exact ⟨rfl, below_next HB4.out HDR.out⟩

set_option maxRecDepth 100000 in
theorem lifted (os : Os) (started : os.Started) (H : Type) (enc : TypeId × Value → H) :
    ReturnsInHanded {} Try.checked os 4 .any (Rows.boundLessSpec.pre6 enc Try.prog Try.f4 Rows.boundLessRow.domain false) (Rows.boundLessSpec.post enc Try.prog Try.f4 false true false false) := by
  refine returnsInHanded_of_change_sized (C := Try.checked) own started (by kernel_rfl) Try.func4
    (ChangeSpec.witness6 (enc := enc) (C := Try.checked) false ⟨#[], #[.agg #[.int .i64 0, .slice none 0 0, .slice none 0 0, .slice none 0 0, .slice none 0 0], .agg #[.slice none 0 0, .slice none 0 0, .int .i64 0, .int .i64 0, .int .i64 0, .int .i64 0], .agg #[.slice none 0 0, .slice none 0 0]], []⟩ 8 (by kernel_rfl) (by kernel_rfl) (by kernel_rfl) (by kernel_rfl)) ?_
  intro W base args ds gs before hval0 hW _ hsz0 _
  have hsz : (DataW.weightsEach Try.prog (Try.f4.params.toList ++ Rows.boundLessSpec.plain.varTypes Try.prog) (ds ++ gs)).all (· ≤ reachBytes) = true := hsz0
  have hval : ∀ (j : Nat) t v, Try.f4.params[j]? = some t → args[j]? = some v → Value.okWide Try.prog W .any base t v := hval0
  have hW' := hW
  obtain ⟨p, q, hA0, hV, rfl, hfz, hnd⟩ := hW
  have hA : DataW.TrodAll enc Try.prog W 0 (fun _ => true) true Try.f4.params.toList args.toList ds p := hA0
  rw [Try.params4] at hA hval hsz
  obtain ⟨v0, vs0, d0, ds0, p0, q0, hargs, rfl, rfl, h0, r0⟩ := trodAll_cons hA
  obtain ⟨v1, vs1, d1, ds1, p1, q1, rfl, rfl, rfl, h1, r1⟩ := trodAll_cons r0
  obtain ⟨v2, vs2, d2, ds2, p2, q2, rfl, rfl, rfl, h2, r2⟩ := trodAll_cons r1
  obtain ⟨rfl, rfl, rfl⟩ := trodAll_nil r2
  obtain rfl : args = #[v0, v1, v2] := by cases args; simp_all
  obtain ⟨rfl, rfl⟩ := trodVars_none hV
  have k0 := h0
  have lt0 : ∀ x ∈ p0, x.block < W.heap.size := by obtain ⟨m, hm⟩ := k0; exact DataW.trod_lt m _ _ _ hm
  obtain ⟨x0, rfl, hv0, hk0, hd0⟩ := open_world_cap (hval 0 28 v0 rfl rfl) h0
  have k1 := h1
  have lt1 : ∀ x ∈ p1, x.block < W.heap.size := by obtain ⟨m, hm⟩ := k1; exact DataW.trod_lt m _ _ _ hm
  obtain ⟨x1, rfl, hv1⟩ := open_cert_in (hval 1 31 v1 rfl rfl) h1
  have k2 := h2
  have lt2 : ∀ x ∈ p2, x.block < W.heap.size := by obtain ⟨m, hm⟩ := k2; exact DataW.trod_lt m _ _ _ hm
  obtain ⟨x2, rfl, hv2, hw2⟩ := open_plan_in (hval 2 45 v2 rfl rfl) h2
  have hs2 : Few x2 := fun r hr => by
    have hsc := (hv2.ra r hr).sc
    rcases hw2 r hr with h0 | hin
    · omega
    · have := List.all_eq_true.1 hsz _ (DataW.weights_mem_each (j := 2) (t := 45) (d := d2) rfl rfl _ hin)
      have h2 : r.sc * 8 ≤ reachBytes := by simpa using this
      have h3 := reachBytes_lt
      omega
  clear hA0 hval0
  refine (walk x0 hv0 hk0 hd0 x1 hv1 x2 hv2 hs2).mono fun e W' ⟨he, bel⟩ => ?_
  subst he
  exact ⟨_, rfl, _, _, _, [], _, [], hW', trodAll_mk1 (shut_bool Try.underlying4 _), (trodAll_cons_mk (Below.trod laidOut (by kernel_rfl) (of_decide_eq_true (by kernel_rfl)) k0 bel lt0) (trodAll_cons_mk (Below.trod laidOut (by kernel_rfl) (of_decide_eq_true (by kernel_rfl)) k1 bel lt1) (trodAll_cons_mk (Below.trod laidOut (by kernel_rfl) (of_decide_eq_true (by kernel_rfl)) k2 bel lt2) trodAll_mk0))), rfl, bel.frame _, fun h => by cases h⟩

theorem over : Rows.boundLessRow.holds Try.pinned (OpenSpec.ofChange Rows.boundLessSpec) :=
  OpenClaim.holds_of_wide 4 Try.f4 rfl rfl rfl rfl rfl rfl rfl ⟨rfl, rfl, rfl, rfl, rfl⟩ rfl rfl rfl rfl rfl (by kernel_rfl) Try.func4 (by kernel_rfl)
    (of_decide_eq_true (by kernel_rfl)) (by unfold Func.isWrapper; first | (rw [if_pos (by decide +kernel)]; kernel_rfl) | (rw [if_neg (by decide +kernel)]; exact ⟨rfl, rfl⟩))
    (fun os started H enc _ => lifted os started H enc)

theorem proved : Rows.BoundLessSaid := over
end Go.Proofs.Ytbacakblboodeaa.boundLess
