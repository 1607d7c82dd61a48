/- Contracts of package plan: Check. -/
import Derived.Test.YtbacakblboodeaaPlanB
namespace Go.Proofs.Ytbacakblboodeaa
open Go.RowKit
set_option linter.unusedVariables false
set_option maxRecDepth 100000

/-- what a call that tells a plan's cost leaves -/
def CheckPost (w : World) (c : Int × Int) (e : Ending) (w' : World) : Prop := e = .returned (.tuple #[.int .i64 c.1, .int .i64 c.2]) ∧ Hid (Below w.heap.size w w')
theorem CheckPost.mk {w w' : World} {c : Int × Int} {a b : Int} (h : c = (a, b)) (hb : Below w.heap.size w w') : CheckPost w c (.returned (.tuple #[.int .i64 a, .int .i64 b])) w' := by
  subst h
  exact ⟨rfl, hb⟩

set_option maxHeartbeats 8000000 in
theorem check_b (x : Wd) (p : Pd) (w : World) (c : Int × Int) (hc : Pl.checkS x.N x.D x.T x.os x.ts (ros p.rs) p.us = c) (hx : WAt w x) (hp : PAt w p) :
    Calls Try.prog 15 #[.agg #[.int .i64 x.N, .slice x.dA x.dm x.dc, .slice x.tA x.tm x.tc, .slice x.A x.m x.c, .slice x.B x.k x.d], .agg #[.slice p.rA p.rm p.rc, .slice p.uA p.um p.uc]] w (CheckPost w c) := by
  have HX := Lib.hid (WPB.new hx hp)
  have HB0 : Hid (Below w.heap.size w ((w.alloc (.cells #[.int .i64 x.N, .slice x.dA x.dm x.dc, .slice x.tA x.tm x.tc, .slice x.A x.m x.c, .slice x.B x.k x.d] 28)).alloc (.cells #[.slice p.rA p.rm p.rc, .slice p.uA p.um p.uc] 45))) := below_more (below_alloc _ _) _
  have HCK := Lib.hid hc
  have HRL : Hid ((ros p.rs).length = p.rm) := by unfold Hid; rw [ros_len]; exact hp.rl
  have hrm := hp.r2
  clear hx hp hc
  obtain ⟨f, hf⟩ : ∃ f, Rt.worldE x.N x.D x.T x.os x.ts = f := ⟨_, rfl⟩
  have HF := Lib.hid hf
  go_enter Try.func15, Try.ntmps15
  have x0 := HX.out.w.c0
  have x1 := HX.out.w.c1
  have x2 := HX.out.w.c2
  have x3 := HX.out.w.c3
  have x4 := HX.out.w.c4
  go_wp2_with fail
  clear x0 x1 x2 x3 x4
  generalize ((w.alloc (.cells #[.int .i64 x.N, .slice x.dA x.dm x.dc, .slice x.tA x.tm x.tc, .slice x.A x.m x.c, .slice x.B x.k x.d] 28)).alloc (.cells #[.slice p.rA p.rm p.rc, .slice p.uA p.um p.uc] 45)) = V at *
  generalize w.heap.size + 1 = b2 at *
  generalize hb1 : w.heap.size = b1 at HX ⊢
  clear hb1
  have HC := Lib.hid (rworld_b x V f hf HX.out.w.at_)
  clear hf
  with_reducible refine HC.out.mono ?_
  rintro e V1 ⟨rfl, hV1⟩
  have HX1 := Lib.hid (HX.out.below hV1.out)
  have HB1 := Lib.hid (below_next HB0.out hV1.out)
  clear HC HX HB0 hV1
  by_cases hf0 : f = 0
  · subst hf0
    have e1 : ((0 : Int) != (0 : Int)) = false := by decide
    have y0 := HX1.out.p.c0
    by_cases hl6 : 6 < p.rm
    · have d6 : decide ((6 : Int) < (p.rm : Int)) = true := decide_eq_true (by omega)
      have HE : Hid (c = (0, 4)) := by rw [← HCK.out]; exact Pl.ck_full HF.out (by rw [HRL.out]; exact hl6)
      clear hl6
      go_wp2_with fail
      go_ret2
      exact CheckPost.mk HE.out HB1.out
    · have d6 : decide ((6 : Int) < (p.rm : Int)) = false := decide_eq_false (by omega)
      have HL6 : Hid (¬ 6 < (ros p.rs).length) := by unfold Hid; rw [HRL.out]; exact hl6
      clear hl6
      have y1 := HX1.out.p.c1
      have x0 := HX1.out.w.c0
      have x1 := HX1.out.w.c1
      have x2 := HX1.out.w.c2
      have x3 := HX1.out.w.c3
      have x4 := HX1.out.w.c4
      have HC := Lib.hid (tripCosts_b x p V1 HX1.out.w.at_ HX1.out.p.at_)
      go_wp2_with fail
      clear x0 x1 x2 x3 x4 y0 y1
      with_reducible refine HC.out.mono ?_
      rintro e V2 ⟨A2, m2, c2, rfl, h2⟩
      have HX2 := Lib.hid (HX1.out.below h2.out.1)
      have HB2 := Lib.hid (below_next HB1.out h2.out.1)
      have HCO := Lib.hid h2.out.2
      clear HC HX1 HB1 h2
      obtain ⟨t, ht⟩ : ∃ t, Pl.tripE (Pl.run x.N x.D x.T x.os x.ts) (ros p.rs) = t := ⟨_, rfl⟩
      have HT := Lib.hid ht
      rw [ht] at HCO ⊢
      clear ht
      by_cases ht0 : t = 0
      · have HCO2 := Lib.hid (HCO.out ht0)
        clear HCO
        subst ht0
        have y0 := HX2.out.p.c0
        have y1 := HX2.out.p.c1
        have HC := Lib.hid (trucks_b p V2 HX2.out.p.at_)
        go_wp2_with fail
        clear y0 y1
        with_reducible refine HC.out.mono ?_
        rintro e V3 ⟨A3, c3, rfl, hc3, h3⟩
        have HX3 := Lib.hid (HX2.out.below h3.out.1)
        have HB3 := Lib.hid (below_next HB2.out h3.out.1)
        have HCO3 : Hid (IntsAt V3 A2 (Pl.costs (Pl.run x.N x.D x.T x.os x.ts) (ros p.rs)) ∧ m2 = (ros p.rs).length) := ⟨HCO2.out.1.below h3.out.1, HCO2.out.2⟩
        have HLT : Hid ((Pl.srt (Pl.trs (ros p.rs))).length ≤ 100000) := by unfold Hid; rw [Pl.srt_len]; show (List.map _ _).length ≤ _; rw [List.length_map, HRL.out]; omega
        obtain ⟨r1, hr1⟩ : ∃ r, Pl.dupB (Pl.srt (Pl.trs (ros p.rs))) = r := ⟨_, rfl⟩
        have HR1 := Lib.hid hr1
        have HC := Lib.hid (dup_b A3 _ c3 _ V3 r1 hr1 rfl HLT.out h3.out.2.1)
        clear HX2 HB2 HCO2 h3 hr1 hc3
        generalize (Pl.srt (Pl.trs (ros p.rs))).length = n3 at *
        go_wp2_with fail
        with_reducible refine HC.out.mono ?_
        rintro e V4 ⟨rfl, h4⟩
        have HX4 := Lib.hid (HX3.out.below h4.out)
        have HB4 := Lib.hid (below_next HB3.out h4.out)
        have HCO4 : Hid (IntsAt V4 A2 (Pl.costs (Pl.run x.N x.D x.T x.os x.ts) (ros p.rs)) ∧ m2 = (ros p.rs).length) := ⟨HCO3.out.1.below h4.out, HCO3.out.2⟩
        clear HC HX3 HB3 HCO3 h4
        cases r1 with
        | true =>
          have HE : Hid (c = (0, 6)) := by rw [← HCK.out]; exact Pl.ck_twice HF.out HL6.out HT.out (.inl HR1.out)
          go_wp2_with fail
          go_ret2
          exact CheckPost.mk HE.out HB4.out
        | false =>
          have y0 := HX4.out.p.c0
          have y1 := HX4.out.p.c1
          have HC := Lib.hid (served_b p V4 HX4.out.p.at_)
          go_wp2_with fail
          clear y0 y1
          with_reducible refine HC.out.mono ?_
          rintro e V5 ⟨A5, c5, rfl, hc5, h5⟩
          have HX5 := Lib.hid (HX4.out.below h5.out.1)
          have HB5 := Lib.hid (below_next HB4.out h5.out.1)
          have HCO5 : Hid (IntsAt V5 A2 (Pl.costs (Pl.run x.N x.D x.T x.os x.ts) (ros p.rs)) ∧ m2 = (ros p.rs).length) := ⟨HCO4.out.1.below h5.out.1, HCO4.out.2⟩
          have HLS : Hid ((Pl.servedS (ros p.rs)).length ≤ 100000) := by unfold Hid Pl.servedS; rw [Pl.srt_len]; have := HX5.out.p.at_.tot; omega
          obtain ⟨r2, hr2⟩ : ∃ r, Pl.dupB (Pl.servedS (ros p.rs)) = r := ⟨_, rfl⟩
          have HR2 := Lib.hid hr2
          have HC := Lib.hid (dup_b A5 _ c5 _ V5 r2 hr2 rfl HLS.out h5.out.2.1)
          clear HX4 HB4 HCO4 h5 hr2 hc5
          generalize (Pl.servedS (ros p.rs)).length = n5 at *
          go_wp2_with fail
          with_reducible refine HC.out.mono ?_
          rintro e V6 ⟨rfl, h6⟩
          have HX6 := Lib.hid (HX5.out.below h6.out)
          have HB6 := Lib.hid (below_next HB5.out h6.out)
          have HCO6 : Hid (IntsAt V6 A2 (Pl.costs (Pl.run x.N x.D x.T x.os x.ts) (ros p.rs)) ∧ m2 = (ros p.rs).length) := ⟨HCO5.out.1.below h6.out, HCO5.out.2⟩
          clear HC HX5 HB5 HCO5 h6
          cases r2 with
          | true =>
            have HE : Hid (c = (0, 6)) := by rw [← HCK.out]; exact Pl.ck_twice HF.out HL6.out HT.out (.inr HR2.out)
            go_wp2_with fail
            go_ret2
            exact CheckPost.mk HE.out HB6.out
          | false =>
            generalize V6 = V4 at *
            obtain ⟨rs, hrs⟩ : ∃ s, Pl.restS x.os (ros p.rs) = s := ⟨_, rfl⟩
            have HRS := Lib.hid hrs
            obtain ⟨r3, hr3⟩ : ∃ r, decide (p.us = rs) = r := ⟨_, rfl⟩
            have HR3 := Lib.hid hr3
            obtain ⟨n7, hn7⟩ : ∃ n, rs.length = n := ⟨_, rfl⟩
            have HN7 := Lib.hid hn7
            have HNL : Hid (n7 ≤ 100000) := by
              have := Pl.restS_len x.os (ros p.rs)
              rw [hrs, hn7, HX6.out.w.at_.ml] at this
              have h2 := HX6.out.w.at_.m2
              unfold Hid; omega
            have HCE : Hid (∀ U : World, Below V4.heap.size V4 U → (U.cell? ⟨b1, 0, none⟩ = some (.int .i64 x.N) ∧ U.cell? ⟨b1, 1, none⟩ = some (.slice x.dA x.dm x.dc) ∧ U.cell? ⟨b1, 2, none⟩ = some (.slice x.tA x.tm x.tc) ∧ U.cell? ⟨b1, 3, none⟩ = some (.slice x.A x.m x.c) ∧ U.cell? ⟨b1, 4, none⟩ = some (.slice x.B x.k x.d) ∧ U.cell? ⟨b2, 0, none⟩ = some (.slice p.rA p.rm p.rc) ∧ U.cell? ⟨b2, 1, none⟩ = some (.slice p.uA p.um p.uc) ∧ Below V4.heap.size V4 U)) := fun U hU => by
              have h := HX6.out.below hU
              exact ⟨h.w.c0, h.w.c1, h.w.c2, h.w.c3, h.w.c4, h.p.c0, h.p.c1, hU⟩
            have HC0 : Hid (∀ U : World, (U.cell? ⟨b1, 0, none⟩ = some (.int .i64 x.N) ∧ U.cell? ⟨b1, 1, none⟩ = some (.slice x.dA x.dm x.dc) ∧ U.cell? ⟨b1, 2, none⟩ = some (.slice x.tA x.tm x.tc) ∧ U.cell? ⟨b1, 3, none⟩ = some (.slice x.A x.m x.c) ∧ U.cell? ⟨b1, 4, none⟩ = some (.slice x.B x.k x.d) ∧ U.cell? ⟨b2, 0, none⟩ = some (.slice p.rA p.rm p.rc) ∧ U.cell? ⟨b2, 1, none⟩ = some (.slice p.uA p.um p.uc) ∧ Below V4.heap.size V4 U) → Calls Try.prog 40 #[.agg #[.int .i64 x.N, .slice x.dA x.dm x.dc, .slice x.tA x.tm x.tc, .slice x.A x.m x.c, .slice x.B x.k x.d], .agg #[.slice p.rA p.rm p.rc, .slice p.uA p.um p.uc]] U fun e U => ∃ A3 c3, e = .returned (.slice A3 n7 c3) ∧ Hid (IntsAt U A3 rs) ∧ (U.cell? ⟨b1, 0, none⟩ = some (.int .i64 x.N) ∧ U.cell? ⟨b1, 1, none⟩ = some (.slice x.dA x.dm x.dc) ∧ U.cell? ⟨b1, 2, none⟩ = some (.slice x.tA x.tm x.tc) ∧ U.cell? ⟨b1, 3, none⟩ = some (.slice x.A x.m x.c) ∧ U.cell? ⟨b1, 4, none⟩ = some (.slice x.B x.k x.d) ∧ U.cell? ⟨b2, 0, none⟩ = some (.slice p.rA p.rm p.rc) ∧ U.cell? ⟨b2, 1, none⟩ = some (.slice p.uA p.um p.uc) ∧ Below V4.heap.size V4 U)) := by
              rintro U ⟨_, _, _, _, _, _, _, h⟩
              refine (rest_b x p U (HX6.out.below h).w.at_ (HX6.out.below h).p.at_).mono ?_
              rintro e U' ⟨A3, c3, e1, e2, e3⟩
              rw [HRS.out, HN7.out] at e1
              rw [HRS.out] at e3
              exact ⟨A3, c3, e1, e3.out.2.1, HCE.out _ (below_next h e3.out.1)⟩
            have HC1 : Hid (∀ (U : World) (A3 : Option Addr) (c3 : Nat), (U.cell? ⟨b1, 0, none⟩ = some (.int .i64 x.N) ∧ U.cell? ⟨b1, 1, none⟩ = some (.slice x.dA x.dm x.dc) ∧ U.cell? ⟨b1, 2, none⟩ = some (.slice x.tA x.tm x.tc) ∧ U.cell? ⟨b1, 3, none⟩ = some (.slice x.A x.m x.c) ∧ U.cell? ⟨b1, 4, none⟩ = some (.slice x.B x.k x.d) ∧ U.cell? ⟨b2, 0, none⟩ = some (.slice p.rA p.rm p.rc) ∧ U.cell? ⟨b2, 1, none⟩ = some (.slice p.uA p.um p.uc) ∧ Below V4.heap.size V4 U) → Hid (IntsAt U A3 rs) → Calls Try.prog 35 #[.slice p.uA p.um p.uc, .slice A3 n7 c3] U fun e U => e = .returned (.bool r3) ∧ (U.cell? ⟨b1, 0, none⟩ = some (.int .i64 x.N) ∧ U.cell? ⟨b1, 1, none⟩ = some (.slice x.dA x.dm x.dc) ∧ U.cell? ⟨b1, 2, none⟩ = some (.slice x.tA x.tm x.tc) ∧ U.cell? ⟨b1, 3, none⟩ = some (.slice x.A x.m x.c) ∧ U.cell? ⟨b1, 4, none⟩ = some (.slice x.B x.k x.d) ∧ U.cell? ⟨b2, 0, none⟩ = some (.slice p.rA p.rm p.rc) ∧ U.cell? ⟨b2, 1, none⟩ = some (.slice p.uA p.um p.uc) ∧ Below V4.heap.size V4 U)) := by
              rintro U A3 c3 ⟨_, _, _, _, _, _, _, h⟩ hv
              exact (equal_b p.uA A3 p.um p.uc n7 c3 p.us rs U r3 HR3.out (HX6.out.below h).p.at_.ul HN7.out (by have := (HX6.out.below h).p.at_.u2; omega) HNL.out (HX6.out.below h).p.at_.us hv.out).mono fun _ _ ⟨e1, e2⟩ => ⟨e1, HCE.out _ (below_next h e2.out)⟩
            obtain ⟨c0, c1, c2', c3, c4, c5', c6, _⟩ := HCE.out V4 (Below.refl _ _)
            have hB := (Below.refl V4.heap.size V4).drew
            clear HCE hrs hr3 hn7
            go_wp2
            go_region_held3 (fun U : World => (U.cell? ⟨b1, 0, none⟩ = some (.int .i64 x.N) ∧ U.cell? ⟨b1, 1, none⟩ = some (.slice x.dA x.dm x.dc) ∧ U.cell? ⟨b1, 2, none⟩ = some (.slice x.tA x.tm x.tc) ∧ U.cell? ⟨b1, 3, none⟩ = some (.slice x.A x.m x.c) ∧ U.cell? ⟨b1, 4, none⟩ = some (.slice x.B x.k x.d) ∧ U.cell? ⟨b2, 0, none⟩ = some (.slice p.rA p.rm p.rc) ∧ U.cell? ⟨b2, 1, none⟩ = some (.slice p.uA p.um p.uc) ∧ Below V4.heap.size V4 U)) (first | exact ⟨c0, c1, c2', c3, c4, c5', c6, hB⟩ | exact ⟨k0, k1, k2, k3, k4, k5, k6, kb⟩ | assumption)
              (first
                | (go_at_call 35; ((with_reducible refine (HC1.out _ _ _ (by assumption) HVO).mono ?_)); rintro e w7 ⟨rfl, k0, k1, k2, k3, k4, k5, k6, kb⟩)
                | (go_at_call 40; ((with_reducible refine (HC0.out _ (by assumption)).mono ?_)); rintro e w7 ⟨A7, c7, rfl, HVO, k0, k1, k2, k3, k4, k5, k6, kb⟩))
            all_goals
              have KB := Lib.hid (below_next HB6.out kb)
              have HCO7 : Hid (IntsAt _ A2 (Pl.costs (Pl.run x.N x.D x.T x.os x.ts) (ros p.rs)) ∧ m2 = (ros p.rs).length) := ⟨HCO6.out.1.below kb, HCO6.out.2⟩
              clear k0 k1 k2 k3 k4 k5 k6 kb c0 c1 c2' c3 c4 c5' c6 hB HC0 HC1
              cases r3 with
              | false =>
                have HE : Hid (c = (0, 2)) := by rw [← HCK.out]; exact Pl.ck_form HF.out HL6.out HT.out HR1.out HR2.out (by rw [HRS.out]; exact of_decide_eq_false HR3.out)
                go_wp2_with fail
                go_ret2
                exact CheckPost.mk HE.out KB.out
              | true =>
                have HCS : Hid (Grp.sumS (Pl.costs (Pl.run x.N x.D x.T x.os x.ts) (ros p.rs)) = c) := by
                  rw [← HCK.out, Pl.ck_ok HF.out HL6.out HT.out HR1.out HR2.out (by rw [HRS.out]; exact of_decide_eq_true HR3.out)]
                  exact Pl.costs_sum (by have := HL6.out; omega) (Pl.trip_zero.1 HT.out)
                have HC : Hid (∀ W, IntsAt W A2 (Pl.costs (Pl.run x.N x.D x.T x.os x.ts) (ros p.rs)) → Calls Try.prog 41 #[.slice A2 m2 c2] W fun e w' => e = .returned (.tuple #[.int .i64 c.1, .int .i64 c.2]) ∧ W = w') := fun W h => by
                  have hl : (Pl.costs (Pl.run x.N x.D x.T x.os x.ts) (ros p.rs)).length = m2 := by rw [HCO7.out.2]; exact List.length_map _
                  have h2 := mon_sum A2 c2 _ W (by rw [hl, HCO7.out.2, HRL.out]; unfold maxLen; omega) h
                  rw [hl, HCS.out] at h2
                  exact h2
                have HC2 := Lib.hid (HC.out _ HCO7.out.1)
                clear HC
                go_wp2_with fail
                with_reducible refine HC2.out.mono ?_
                rintro e w9 ⟨rfl, rfl⟩
                go_wp2
                go_ret2
                exact ⟨rfl, KB.out⟩
      · have e2 : (t != (0 : Int)) = true := bne_iff_ne.2 ht0
        have HE : Hid (c = (0, t)) := by rw [← HCK.out]; exact Pl.ck_trip HF.out HL6.out HT.out ht0
        clear ht0
        go_wp2_with fail
        go_ret2
        exact CheckPost.mk HE.out HB2.out
  · have e1 : (f != (0 : Int)) = true := bne_iff_ne.2 hf0
    have HE : Hid (c = (0, f)) := by rw [← HCK.out]; exact Pl.ck_world HF.out hf0
    clear hf0
    go_wp2_with fail
    go_ret2
    exact CheckPost.mk HE.out HB1.out
end Go.Proofs.Ytbacakblboodeaa
