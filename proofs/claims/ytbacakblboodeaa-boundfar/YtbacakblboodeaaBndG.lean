/- Contracts of package bound: Holds. -/
import Derived.Test.YtbacakblboodeaaBndF
namespace Go.Proofs.Ytbacakblboodeaa
open Go.RowKit
set_option linter.unusedVariables false
set_option maxRecDepth 100000

theorem no_of {N : Int} {D T : List Int} {os : List Ld.O} {ts : List Ld.T} {c : Bo.C} {rm : Bo.C × Int} (hm : Bo.makeS N D T os ts c.ids = rm) (h : ¬ (rm.2 = 0 ∧ Bo.Holds rm.1 c)) : Bo.holdsB N D T os ts c = false := by
  subst hm
  rw [Bool.eq_false_iff]
  exact fun e => h ((Bo.holds_iff c).1 e)
theorem yes_of {N : Int} {D T : List Int} {os : List Ld.O} {ts : List Ld.T} {c : Bo.C} {rm : Bo.C × Int} (hm : Bo.makeS N D T os ts c.ids = rm) (h : rm.2 = 0 ∧ Bo.Holds rm.1 c) : Bo.holdsB N D T os ts c = true := by
  subst hm
  exact (Bo.holds_iff c).2 h

set_option maxHeartbeats 8000000 in
theorem holds_b (x : Wd) (q : Ct) (w : World) (r : Bool) (hr : Bo.holdsB x.N x.D x.T x.os x.ts q.c = r) (hx : WAt w x) (hcap : x.k ≤ x.d) (hq : CtAt w q) :
    Calls Try.prog 12 #[.agg #[.int .i64 x.N, .slice x.dA x.dm x.dc, .slice x.tA x.tm x.tc, .slice x.A x.m x.c, .slice x.B x.k x.d], .agg #[.slice q.iA q.im q.ic, .slice q.nA q.nm q.nc, .int .i64 q.back, .int .i64 q.rate, .int .i64 q.fixed, .int .i64 q.bound]] w fun e w' => e = .returned (.bool r) ∧ Hid (Below w.heap.size w w') := by
  have HX : Hid (WX ((w.alloc (.cells #[.int .i64 x.N, .slice x.dA x.dm x.dc, .slice x.tA x.tm x.tc, .slice x.A x.m x.c, .slice x.B x.k x.d] 28)).alloc (.cells #[.slice q.iA q.im q.ic, .slice q.nA q.nm q.nc, .int .i64 q.back, .int .i64 q.rate, .int .i64 q.fixed, .int .i64 q.bound] 31)) w.heap.size x) := (WX.new hx).below (below_alloc _ _)
  have HQ : Hid (CX ((w.alloc (.cells #[.int .i64 x.N, .slice x.dA x.dm x.dc, .slice x.tA x.tm x.tc, .slice x.A x.m x.c, .slice x.B x.k x.d] 28)).alloc (.cells #[.slice q.iA q.im q.ic, .slice q.nA q.nm q.nc, .int .i64 q.back, .int .i64 q.rate, .int .i64 q.fixed, .int .i64 q.bound] 31)) (w.heap.size + 1) q) := by
    have h := CX.new (hq.below (below_alloc w (.cells #[.int .i64 x.N, .slice x.dA x.dm x.dc, .slice x.tA x.tm x.tc, .slice x.A x.m x.c, .slice x.B x.k x.d] 28)))
    rw [← size_one w (.cells #[.int .i64 x.N, .slice x.dA x.dm x.dc, .slice x.tA x.tm x.tc, .slice x.A x.m x.c, .slice x.B x.k x.d] 28)] at h
    exact h
  have HB0 : Hid (Below w.heap.size w ((w.alloc (.cells #[.int .i64 x.N, .slice x.dA x.dm x.dc, .slice x.tA x.tm x.tc, .slice x.A x.m x.c, .slice x.B x.k x.d] 28)).alloc (.cells #[.slice q.iA q.im q.ic, .slice q.nA q.nm q.nc, .int .i64 q.back, .int .i64 q.rate, .int .i64 q.fixed, .int .i64 q.bound] 31))) := below_more (below_alloc _ _) _
  have HR := Lib.hid hr
  have HI2 := Lib.hid hq.i2
  have HIL := Lib.hid hq.il
  have HNL := Lib.hid hq.nl
  have hnm := hq.n2
  clear hx hr hq
  obtain ⟨rm, hrm⟩ : ∃ e, Bo.makeS x.N x.D x.T x.os x.ts q.ids = e := ⟨_, rfl⟩
  have HM : Hid (Bo.makeS x.N x.D x.T x.os x.ts q.c.ids = rm) := hrm
  have HC := Lib.hid (make_b x q.iA q.im q.ic q.ids ((w.alloc (.cells #[.int .i64 x.N, .slice x.dA x.dm x.dc, .slice x.tA x.tm x.tc, .slice x.A x.m x.c, .slice x.B x.k x.d] 28)).alloc (.cells #[.slice q.iA q.im q.ic, .slice q.nA q.nm q.nc, .int .i64 q.back, .int .i64 q.rate, .int .i64 q.fixed, .int .i64 q.bound] 31)) rm hrm HX.out.at_ hcap HIL.out HI2.out HQ.out.at_.ii)
  clear hrm
  go_enter Try.func12, Try.ntmps12
  have x0 := HX.out.c0
  have x1 := HX.out.c1
  have x2 := HX.out.c2
  have x3 := HX.out.c3
  have x4 := HX.out.c4
  have y0 := HQ.out.c0
  go_wp2_with fail
  clear x0 x1 x2 x3 x4 y0
  generalize ((w.alloc (.cells #[.int .i64 x.N, .slice x.dA x.dm x.dc, .slice x.tA x.tm x.tc, .slice x.A x.m x.c, .slice x.B x.k x.d] 28)).alloc (.cells #[.slice q.iA q.im q.ic, .slice q.nA q.nm q.nc, .int .i64 q.back, .int .i64 q.rate, .int .i64 q.fixed, .int .i64 q.bound] 31)) = V at *
  generalize w.heap.size + 1 = b2 at *
  clear HX
  with_reducible refine HC.out.mono ?_
  rintro e V1 ⟨m, rfl, hmc, hm⟩
  have HMC := Lib.hid hmc
  have HQ1 : Hid (CX (V1.alloc (.cells #[.slice m.iA m.im m.ic, .slice m.nA m.nm m.nc, .int .i64 m.back, .int .i64 m.rate, .int .i64 m.fixed, .int .i64 m.bound] 31)) b2 q) := (HQ.out.below hm.out.1).below (below_alloc _ _)
  have HM1 : Hid (CX (V1.alloc (.cells #[.slice m.iA m.im m.ic, .slice m.nA m.nm m.nc, .int .i64 m.back, .int .i64 m.rate, .int .i64 m.fixed, .int .i64 m.bound] 31)) V1.heap.size m) := CX.new hm.out.2
  have HB1 : Hid (Below w.heap.size w (V1.alloc (.cells #[.slice m.iA m.im m.ic, .slice m.nA m.nm m.nc, .int .i64 m.back, .int .i64 m.rate, .int .i64 m.fixed, .int .i64 m.bound] 31))) := below_more (below_next HB0.out hm.out.1) _
  have HML := Lib.hid hm.out.2.il
  have HNM := Lib.hid hm.out.2.nl
  have HMI2 := Lib.hid hm.out.2.i2
  clear hmc hm HC HQ HB0
  by_cases he : rm.2 = 0
  · obtain ⟨bi, hbi⟩ : ∃ z, decide (q.ids = m.ids) = z := ⟨_, rfl⟩
    have HBI := Lib.hid hbi
    have HE : Hid (Calls Try.prog 35 #[.slice q.iA q.im q.ic, .slice m.iA m.im m.ic] (V1.alloc (.cells #[.slice m.iA m.im m.ic, .slice m.nA m.nm m.nc, .int .i64 m.back, .int .i64 m.rate, .int .i64 m.fixed, .int .i64 m.bound] 31)) fun e w' => e = .returned (.bool bi) ∧ w'.cell? ⟨b2, 1, none⟩ = some (.slice q.nA q.nm q.nc) ∧ w'.cell? ⟨V1.heap.size, 1, none⟩ = some (.slice m.nA m.nm m.nc) ∧ Hid (CX w' b2 q ∧ CX w' V1.heap.size m ∧ Below w.heap.size w w')) :=
      (equal_b q.iA m.iA q.im q.ic m.im m.ic q.ids m.ids _ bi hbi HIL.out HML.out (by have := HI2.out; omega) (by have := HMI2.out; omega) HQ1.out.at_.ii HM1.out.at_.ii).mono fun e w' ⟨e1, h⟩ =>
        ⟨e1, (HQ1.out.below h.out).c1, (HM1.out.below h.out).c1, HQ1.out.below h.out, HM1.out.below h.out, below_next HB1.out h.out⟩
    clear hbi
    have y0 := HQ1.out.c0
    have z0 := HM1.out.c0
    have HE0 := Lib.hid he
    cases bi
    · have HF : Hid (r = false) := by
        unfold Hid
        rw [← HR.out]
        refine no_of HM.out fun h => ?_
        have h2 := h.2.ids
        rw [← HMC.out] at h2
        have := HBI.out
        rw [decide_eq_true (show q.ids = m.ids from h2)] at this
        cases this
      go_wp2_with (go_at_call 35; (with_reducible refine HE.out.mono ?_); rintro e w2 ⟨rfl, y1, z1, hw2⟩)
      go_ret
      exact ⟨by rw [HF.out]; rfl, hw2.out.2.2⟩
    · by_cases hl : q.nm = m.nm
      · have d2 : ((q.nm : Int) != (m.nm : Int)) = false := by rw [hl]; simp
        have HL := Lib.hid hl
        clear hl
        go_wp2_with (go_at_call 35; (with_reducible refine HE.out.mono ?_); rintro e w2 ⟨rfl, y1, z1, hw2⟩)
        clear y0 z0 y1 z1 HE HQ1 HM1 HB1
        have HW2 := Lib.hid hw2.out
        clear hw2
        generalize V1.heap.size = b3 at HW2 ⊢
        go_loopg [39] q.nm (fun gk s39 W1 => ∃ (k : Nat) (W : World), W = W1 ∧ k + gk = q.nm ∧ s39 = .int .i64 k ∧ Hid (CX W b2 q ∧ CX W b3 m ∧ Below w.heap.size w W) ∧ Hid (∀ j : Nat, j < k → ∀ a b : Int, q.inn[j]? = some a → m.inn[j]? = some b → Bo.up a b = true))
        case atStart => exact ⟨0, _, rfl, by omega, rfl, HW2.out, fun j hj => absurd hj (Nat.not_lt_zero j)⟩
        case round =>
          obtain ⟨k, W, rfl, hkg, rfl, HW, HU⟩ := hrel
          clear HW2
          have z1 := HW.out.2.1.c1
          by_cases hlt : k < q.nm
          · obtain ⟨gk, rfl⟩ : ∃ j, gk = j + 1 := ⟨gk - 1, by omega⟩
            obtain ⟨a, ha⟩ := mlist_at q.inn k (by rw [HNL.out]; exact hlt)
            obtain ⟨b, hb⟩ := mlist_at m.inn k (by rw [HNM.out, ← HL.out]; exact hlt)
            have HA1 := Lib.hid (HW.out.1.at_.nn.at_i ha)
            have HA2 := Lib.hid (HW.out.2.1.at_.nn.at_i hb)
            have HAB := Lib.hid (And.intro ha hb)
            clear ha hb
            have i1 : (k : Int) < (q.nm : Int) := by omega
            have i2 : (k : Int) < (m.nm : Int) := by rw [← HL.out]; exact i1
            have HRET : Hid (Bo.up a b = false → r = false) := fun hu => by
              rw [← HR.out]
              refine no_of HM.out fun h => ?_
              have h2 := h.2.ups
              rw [← HMC.out] at h2
              have h3 := Bo.ups_stop (HNL.out.trans (HL.out.trans HNM.out.symm)) HAB.out.1 HAB.out.2 hu
              rw [show Bo.ups q.inn m.inn = true from h2] at h3
              cases h3
            generalize q.nA = qA at *
            generalize m.nA = mA at *
            obtain ⟨a1, e1, hc1⟩ := HA1.out
            obtain ⟨a2, e2, hc2⟩ := HA2.out
            clear HA1 HA2
            subst e1 e2
            obtain ⟨u, hu⟩ : ∃ z, Bo.up a b = z := ⟨_, rfl⟩
            have HUP := Lib.hid hu
            clear hu
            cases u
            · have HF : Hid (r = false) := HRET.out HUP.out
              go_wp2_with (first | (go_at_call 36; (with_reducible refine (upTo_b _ _ _ _ HUP.out).mono ?_); rintro e w3 ⟨rfl, rfl⟩))
              go_ret
              exact ⟨by rw [HF.out]; rfl, HW.out.2.2⟩
            · go_wp2_with (first | (go_at_call 36; (with_reducible refine (upTo_b _ _ _ _ HUP.out).mono ?_); rintro e w3 ⟨rfl, rfl⟩))
              go_roundg gk
              case measure => omega
              case rel =>
                refine ⟨k + 1, _, rfl, by omega, by first | rfl | go_num, HW.out, fun j hj a' b' ha' hb' => ?_⟩
                rcases Nat.lt_or_ge j k with h | h
                · exact HU.out j h a' b' ha' hb'
                · obtain rfl : j = k := by omega
                  obtain rfl := Option.some.inj (HAB.out.1.symm.trans ha')
                  obtain rfl := Option.some.inj (HAB.out.2.symm.trans hb')
                  exact HUP.out
          · obtain rfl : k = q.nm := by omega
            have HUPS : Hid (Bo.ups q.inn m.inn = true) := Bo.ups_all (HNL.out.trans (HL.out.trans HNM.out.symm)) fun j a b ha hb => HU.out j (by have := (List.getElem?_eq_some_iff.1 ha).1; rw [HNL.out] at this; exact this) a b ha hb
            have y2 := HW.out.1.c2
            have y3 := HW.out.1.c3
            have y4 := HW.out.1.c4
            have z2 := HW.out.2.1.c2
            have z3 := HW.out.2.1.c3
            have z4 := HW.out.2.1.c4
            obtain ⟨u1, hu1⟩ : ∃ z, Bo.up q.back m.back = z := ⟨_, rfl⟩
            obtain ⟨u2, hu2⟩ : ∃ z, Bo.up q.rate m.rate = z := ⟨_, rfl⟩
            obtain ⟨u3, hu3⟩ : ∃ z, Bo.up q.fixed m.fixed = z := ⟨_, rfl⟩
            have HRET : Hid (¬ (u1 = true ∧ u2 = true ∧ u3 = true) → r = false) := fun hn => by
              rw [← HR.out]
              refine no_of HM.out fun h => ?_
              have h2 := h.2
              rw [← HMC.out] at h2
              exact hn ⟨by rw [← hu1]; exact (Bo.up_iff _ _).2 ⟨h2.b0, h2.b1⟩, by rw [← hu2]; exact (Bo.up_iff _ _).2 ⟨h2.r0, h2.r1⟩, by rw [← hu3]; exact (Bo.up_iff _ _).2 ⟨h2.f0, h2.f1⟩⟩
            have HU1 := Lib.hid hu1
            have HU2 := Lib.hid hu2
            have HU3 := Lib.hid hu3
            clear hu1 hu2 hu3 HU hkg hlt
            cases u1
            · have HF : Hid (r = false) := HRET.out (by simp)
              go_wp2_with (first | (go_at_call 36; (with_reducible refine (upTo_b _ _ _ _ HU1.out).mono ?_); rintro e w3 ⟨rfl, rfl⟩) | (go_at_call 36; (with_reducible refine (upTo_b _ _ _ _ HU2.out).mono ?_); rintro e w3 ⟨rfl, rfl⟩) | (go_at_call 36; (with_reducible refine (upTo_b _ _ _ _ HU3.out).mono ?_); rintro e w3 ⟨rfl, rfl⟩))
              go_ret
              exact ⟨by rw [HF.out]; rfl, HW.out.2.2⟩
            cases u2
            · have HF : Hid (r = false) := HRET.out (by simp)
              go_wp2_with (first | (go_at_call 36; (with_reducible refine (upTo_b _ _ _ _ HU1.out).mono ?_); rintro e w3 ⟨rfl, rfl⟩) | (go_at_call 36; (with_reducible refine (upTo_b _ _ _ _ HU2.out).mono ?_); rintro e w3 ⟨rfl, rfl⟩) | (go_at_call 36; (with_reducible refine (upTo_b _ _ _ _ HU3.out).mono ?_); rintro e w3 ⟨rfl, rfl⟩))
              go_ret
              exact ⟨by rw [HF.out]; rfl, HW.out.2.2⟩
            cases u3
            · have HF : Hid (r = false) := HRET.out (by simp)
              go_wp2_with (first | (go_at_call 36; (with_reducible refine (upTo_b _ _ _ _ HU1.out).mono ?_); rintro e w3 ⟨rfl, rfl⟩) | (go_at_call 36; (with_reducible refine (upTo_b _ _ _ _ HU2.out).mono ?_); rintro e w3 ⟨rfl, rfl⟩) | (go_at_call 36; (with_reducible refine (upTo_b _ _ _ _ HU3.out).mono ?_); rintro e w3 ⟨rfl, rfl⟩))
              go_ret
              exact ⟨by rw [HF.out]; rfl, HW.out.2.2⟩
            have hfit := Bo.fit_of (N := x.N) (D := x.D) (T := x.T) (os := x.os) (ts := x.ts) (ids := q.c.ids) (by rw [HM.out]; exact HE0.out)
            rw [HM.out, ← HMC.out] at hfit
            obtain ⟨wr, hwr⟩ : ∃ z, Bo.worth q.inn q.back q.rate q.fixed = z := ⟨_, rfl⟩
            have h1 := (Bo.up_iff _ _).1 HU1.out
            have h2 := (Bo.up_iff _ _).1 HU2.out
            have h3 := (Bo.up_iff _ _).1 HU3.out
            have HBO := Lib.hid (fun W h => boundOf_b q.iA q.im q.ic q.nA q.nm q.nc q.inn q.back q.rate q.fixed q.bound wr W HNL.out
              (by rw [HL.out, ← HNM.out]; have h4 : m.inn.length = q.ids.length := hfit.len; rw [h4]; exact hfit.n12) h
              (fun z hz => by
                obtain ⟨j, hj⟩ := List.getElem?_of_mem hz
                obtain ⟨b, hb⟩ := mlist_at m.inn j (by have := (List.getElem?_eq_some_iff.1 hj).1; rw [HNL.out] at this; rw [HNM.out, ← HL.out]; exact this)
                have h5 := (Bo.ups_iff _ _ (HNL.out.trans (HL.out.trans HNM.out.symm))).1 HUPS.out j z b hj hb
                exact ⟨h5.1, Int.le_trans h5.2 (hfit.inn b (List.mem_of_getElem? hb)).2⟩)
              h1.1 (Int.le_trans h1.2 hfit.b1) h2.1 (Int.le_trans h2.2 hfit.r1) h3.1 (Int.le_trans h3.2 hfit.f1) hwr)
            have HEND : Hid (r = decide (q.bound = wr)) := by
              unfold Hid
              rw [← HR.out, ← hwr]
              by_cases hq : q.bound = Bo.worth q.inn q.back q.rate q.fixed
              · rw [decide_eq_true hq]
                refine yes_of HM.out ⟨HE0.out, ?_⟩
                rw [← HMC.out]
                exact ⟨of_decide_eq_true HBI.out, HNL.out.trans (HL.out.trans HNM.out.symm), HUPS.out, h1.1, h1.2, h2.1, h2.2, h3.1, h3.2, hq⟩
              · rw [decide_eq_false hq]
                exact no_of HM.out fun h => hq h.2.bound
            clear hfit h1 h2 h3 hwr HRET
            have y0 := HW.out.1.c0
            have y1 := HW.out.1.c1
            have y5 := HW.out.1.c5
            have HCB : Hid (Calls Try.prog 28 #[.agg #[.slice q.iA q.im q.ic, .slice q.nA q.nm q.nc, .int .i64 q.back, .int .i64 q.rate, .int .i64 q.fixed, .int .i64 q.bound]] W fun e w' => e = .returned (.tuple #[.int .i64 wr, .int .i64 0]) ∧ w'.cell? ⟨b2, 5, none⟩ = some (.int .i64 q.bound) ∧ Hid (Below w.heap.size w w')) :=
              (HBO.out W HW.out.1.at_.nn).mono fun e w' ⟨e1, h⟩ => ⟨e1, (HW.out.1.below h.out).c5, below_next HW.out.2.2 h.out⟩
            clear HBO
            by_cases hq : q.bound = wr
            · have d5 : (q.bound == wr) = true := beq_iff_eq.2 hq
              have HF : Hid (r = true) := HEND.out.trans (decide_eq_true hq)
              clear hq
              go_wp2_with (first | (go_at_call 28; (with_reducible refine HCB.out.mono ?_); rintro e w3 ⟨rfl, y6, hw3⟩) | (first | (go_at_call 36; (with_reducible refine (upTo_b _ _ _ _ HU1.out).mono ?_); rintro e w3 ⟨rfl, rfl⟩) | (go_at_call 36; (with_reducible refine (upTo_b _ _ _ _ HU2.out).mono ?_); rintro e w3 ⟨rfl, rfl⟩) | (go_at_call 36; (with_reducible refine (upTo_b _ _ _ _ HU3.out).mono ?_); rintro e w3 ⟨rfl, rfl⟩)))
              go_ret
              exact ⟨by rw [HF.out]; rfl, hw3.out⟩
            · have d5 : (q.bound == wr) = false := beq_eq_false_iff_ne.2 hq
              have HF : Hid (r = false) := HEND.out.trans (decide_eq_false hq)
              clear hq
              go_wp2_with (first | (go_at_call 28; (with_reducible refine HCB.out.mono ?_); rintro e w3 ⟨rfl, y6, hw3⟩) | (first | (go_at_call 36; (with_reducible refine (upTo_b _ _ _ _ HU1.out).mono ?_); rintro e w3 ⟨rfl, rfl⟩) | (go_at_call 36; (with_reducible refine (upTo_b _ _ _ _ HU2.out).mono ?_); rintro e w3 ⟨rfl, rfl⟩) | (go_at_call 36; (with_reducible refine (upTo_b _ _ _ _ HU3.out).mono ?_); rintro e w3 ⟨rfl, rfl⟩)))
              go_ret
              exact ⟨by rw [HF.out]; rfl, hw3.out⟩
      · have d2 : ((q.nm : Int) != (m.nm : Int)) = true := bne_iff_ne.2 (by omega)
        have HF : Hid (r = false) := by
          unfold Hid
          rw [← HR.out]
          refine no_of HM.out fun h => ?_
          have h2 := h.2.len
          rw [← HMC.out] at h2
          exact hl (HNL.out.symm.trans (h2.trans HNM.out))
        go_wp2_with (go_at_call 35; (with_reducible refine HE.out.mono ?_); rintro e w2 ⟨rfl, y1, z1, hw2⟩)
        go_ret
        exact ⟨by rw [HF.out]; rfl, hw2.out.2.2⟩
  · have d1 : (rm.2 != 0) = true := bne_iff_ne.2 he
    have HF : Hid (r = false) := by
      unfold Hid
      rw [← HR.out]
      exact no_of HM.out fun h => he h.1
    clear he
    go_wp2
    go_ret
    exact ⟨by rw [HF.out]; rfl, HB1.out⟩
end Go.Proofs.Ytbacakblboodeaa
