/- Every call of the law that a plan without one of its routes, whose orders are unserved then, may be, and costs as much less as that trip, and that one turned about costs the same, answers true: for every world, plan and place. No conditions. -/
import Derived.Test.YtmidkjlikhngmaaRows
import Derived.Test.YtmidkjlikhngmaaPlanW
import Derived.Deep.RegionHeld3
import Derived.Deep.RegionLaw
import Derived.RegionTactic
import Derived.WalkKit
import Derived.ProofKit
import Derived.OpenShut
import Derived.ShutString
import Derived.ChangeOld
import Derived.Below
import Derived.SizedLaws
namespace Go.Proofs.Ytmidkjlikhngmaa.planWithout
open Go.ChangeShapes Go.WideShapes Go.ChangeAt Go.RowKit
open Go.ChangeMaps (open_string shut_string)
set_option linter.unusedVariables false

theorem own : ownKnob Try.prog.godebug = none := by kernel_rfl
theorem laidOut : laidOutB Try.prog = true := by kernel_rfl

open Go.Proofs.Ytmidkjlikhngmaa
set_option maxRecDepth 100000

/-- the boxes of the law -/
structure OB (V : World) (b1 b2 : Nat) (x : Wd) (p : Pd) : Prop where
  w : Box V b1 x.cells 28
  p : Box V b2 p.cells 32
theorem OB.below {V V' : World} {b1 b2 : Nat} {x : Wd} {p : Pd} (h : OB V b1 b2 x p) (hb : Below V.heap.size V V') : OB V' b1 b2 x p := ⟨h.w.below hb, h.p.below hb⟩
theorem OB.new (w : World) (x : Wd) (p : Pd) : OB ((w.alloc (.cells #[.int .i64 x.N, .slice x.dA x.dm x.dc, .slice x.tA x.tm x.tc, .slice x.A x.m x.c, .slice x.B x.k x.d] 28)).alloc (.cells #[.slice p.rA p.rm p.rc, .slice p.uA p.um p.uc] 32)) w.heap.size (w.heap.size + 1) x p :=
  ⟨(Box.new w _ _).below (below_alloc _ _), box_new_at _ _ _ _ (by simp)⟩

set_option maxHeartbeats 40000000 in
theorem walk {w : World} (x : Wd) (hx : WorldIn w x) (p : Pd) (hp : PlanIn w p) (fp : Few p) (at_ : Int) (hat : (Lit.int .i64 at_).wf = true) :
    Calls Try.prog 3 #[.agg #[.int .i64 x.N, .slice x.dA x.dm x.dc, .slice x.tA x.tm x.tc, .slice x.A x.m x.c, .slice x.B x.k x.d], .agg #[.slice p.rA p.rm p.rc, .slice p.uA p.um p.uc], .int .i64 at_] w fun e w' => e = .returned (.bool true) ∧ Below w.heap.size w w' := by
  have HRC := Lib.hid hp.rc
  clear hat
  have HB0 : Hid (Below w.heap.size w ((w.alloc (.cells #[.int .i64 x.N, .slice x.dA x.dm x.dc, .slice x.tA x.tm x.tc, .slice x.A x.m x.c, .slice x.B x.k x.d] 28)).alloc (.cells #[.slice p.rA p.rm p.rc, .slice p.uA p.um p.uc] 32))) := below_more (below_alloc _ _) _
  have HX := Lib.hid (OB.new w x p)
  have HWI := Lib.hid hx
  have HPI : Hid (Plans w [p]) := ⟨by simp only [List.mem_cons, List.not_mem_nil, or_false]; rintro q rfl; exact hp, by simp only [List.mem_cons, List.not_mem_nil, or_false]; rintro q rfl; exact fp⟩
  clear hx hp fp
  have hmm := @run_makeMap Try.prog
  go_enter Try.func3, Try.ntmps3
  go_wp2_with fail
  generalize ((w.alloc (.cells #[.int .i64 x.N, .slice x.dA x.dm x.dc, .slice x.tA x.tm x.tc, .slice x.A x.m x.c, .slice x.B x.k x.d] 28)).alloc (.cells #[.slice p.rA p.rm p.rc, .slice p.uA p.um p.uc] 32)) = V at *
  generalize w.heap.size + 1 = b2 at *
  generalize hb1 : w.heap.size = b1 at HX ⊢
  have HBE := Lib.hid hb1
  clear hb1
  with_reducible refine (awake_any _).mono ?_
  rintro e V1 ⟨rfl, hv1⟩
  have HX1 := Lib.hid (HX.out.below hv1)
  have HB1 := Lib.hid (below_next HB0.out hv1)
  clear hv1 HX HB0
  obtain ⟨r, hr⟩ : ∃ r : Bool, r = true ↔ LargeL x [p] := by
    by_cases h : LargeL x [p]
    · exact ⟨true, by simp [h]⟩
    · exact ⟨false, by simp [h]⟩
  have HR := Lib.hid hr
  have HBL := Lib.hid (below_more HB1.out (.cells #[.slice p.rA p.rm p.rc, .slice p.uA p.um p.uc] 32))
  have HC := Lib.hid (llarge_b x (some ⟨V1.heap.size, 0, none⟩) 1 1 [p] (V1.alloc (.cells #[.slice p.rA p.rm p.rc, .slice p.uA p.um p.uc] 32)) r hr (WorldIn.below HWI.out HBL.out) rfl (by omega) (rowsP_box (ps := [p]) (Box.new V1 _ _)) (HPI.out.below HBL.out))
  clear hr
  have c0 := wbox0 HX1.out.w
  have c1 := wbox1 HX1.out.w
  have c2 := wbox2 HX1.out.w
  have c3 := wbox3 HX1.out.w
  have c4 := wbox4 HX1.out.w
  have a0 := pbox0 HX1.out.p
  have a1 := pbox1 HX1.out.p
  go_wp2_with fail
  clear c0 c1 c2 c3 c4 a0 a1
  with_reducible refine HC.out.mono ?_
  rintro e V2 ⟨rfl, hv2⟩
  have HX2' := Lib.hid ((HX1.out.below (below_alloc _ (.cells #[.slice p.rA p.rm p.rc, .slice p.uA p.um p.uc] 32))).below hv2.out)
  have HB2 := Lib.hid (below_next HBL.out hv2.out)
  clear hv2 HX1 HB1 HBL HC
  cases r with
  | true =>
    clear hmm
    go_wp2_with fail
    go_ret
    exact ⟨rfl, HB2.out⟩
  | false =>
    have hnl : ¬ LargeL x [p] := fun h => by have := HR.out.2 h; cases this
    obtain ⟨nl, np⟩ := not_large hnl
    have HX2 : Hid (WPB V2 b1 b2 x p) := ⟨⟨HX2'.out.w, WorldIn.at_ (HWI.out.below HB2.out) nl⟩, ⟨HX2'.out.p, ((HPI.out.c p (by simp)).below HB2.out).at_ (np p (by simp))⟩⟩
    clear hnl nl np HR HX2' HWI HPI
    obtain ⟨c, hck⟩ : ∃ c, Pl.checkS x.N x.D x.T x.os x.ts (ros p.rs) p.us = c := ⟨_, rfl⟩
    have HCK := Lib.hid hck
    have HC := Lib.hid (check_b x p V2 c hck HX2.out.w.at_ HX2.out.p.at_)
    clear hck
    have c0 := HX2.out.w.c0
    have c1 := HX2.out.w.c1
    have c2 := HX2.out.w.c2
    have c3 := HX2.out.w.c3
    have c4 := HX2.out.w.c4
    have a0 := HX2.out.p.c0
    have a1 := HX2.out.p.c1
    go_wp2_with fail
    clear c0 c1 c2 c3 c4 a0 a1
    with_reducible refine HC.out.mono ?_
    rintro e V3 ⟨rfl, hv3⟩
    have HX3 := Lib.hid (HX2.out.below hv3.out)
    have HB3 := Lib.hid (below_next HB2.out hv3.out)
    clear hv3 HX2 HB2 HC
    obtain ⟨cost, er⟩ := c
    clear hmm
    by_cases he : er = 0
    · subst he
      have e1 : ((0 : Int) != (0 : Int)) = false := by decide
      have b1' : ((0 : Int) == (0 : Int)) = true := by decide
      by_cases ha0 : at_ < 0
      · have d1 : decide (at_ < (0 : Int)) = true := decide_eq_true ha0
        clear ha0
        go_wp2_with fail
        go_ret
        exact ⟨rfl, HB3.out⟩
      · obtain ⟨k, rfl⟩ : ∃ k : Nat, at_ = (k : Int) := ⟨at_.toNat, by omega⟩
        have d1 : decide ((k : Int) < (0 : Int)) = false := decide_eq_false (by omega)
        clear ha0
        have a0 := HX3.out.p.c0
        by_cases hkl : p.rm ≤ k
        · have d2 : decide ((p.rm : Int) ≤ (k : Int)) = true := decide_eq_true (by omega)
          have d3 : decide (p.rm ≤ k) = true := decide_eq_true hkl
          clear hkl
          go_wp2_with fail
          go_ret
          exact ⟨rfl, HB3.out⟩
        · have d2 : decide ((p.rm : Int) ≤ (k : Int)) = false := decide_eq_false (by omega)
          have d3 : decide (p.rm ≤ k) = false := decide_eq_false hkl
          have i0 : (0 : Int) ≤ (k : Int) := by omega
          have i1 : (k : Int) < (p.rm : Int) := by omega
          obtain ⟨hmay, hcs⟩ := Pl.may_of (N := x.N) (D := x.D) (T := x.T) (os := x.os) (ts := x.ts) (rs := ros p.rs) (us := p.us) (by rw [HCK.out])
          have HMAY := Lib.hid hmay
          have HCOST : Hid ((Pl.costs (Pl.run x.N x.D x.T x.os x.ts) (ros p.rs)).sum = cost) := by
            rw [HCK.out] at hcs
            injection hcs with hcs
            exact hcs.symm
          obtain ⟨r, hr⟩ := mlist_at p.rs k (by rw [HX3.out.p.at_.rl]; omega)
          obtain ⟨ad, hrA, hc, hra⟩ := HX3.out.p.at_.at_ hr
          obtain ⟨f0, f1⟩ := hc
          have HRK := Lib.hid (ros_at hr)
          have HRP := Lib.hid hr
          obtain ⟨res, hres⟩ : ∃ z, Pl.run x.N x.D x.T x.os x.ts r.ro = z := ⟨_, rfl⟩
          have HRES := Lib.hid hres
          have HRE : Hid (res.e = 0) := by rw [← hres]; exact hmay.tp r.ro (List.mem_of_getElem? (ros_at hr))
          obtain ⟨n2, hn2⟩ : ∃ n, res.vs.length = n := ⟨_, rfl⟩
          have HN2 : Hid (n2 = r.st.length) := by rw [← hn2, ← hres]; exact Pl.run_visits (hmay.tp r.ro (List.mem_of_getElem? (ros_at hr)))
          have HCB' : Hid (0 ≤ cost ∧ cost ≤ 200000000000) := by
            rw [← HCOST.out]
            exact Pl.sum_bound hmay.l6 hmay.tp
          have hrm := HX3.out.p.at_.r2
          have hum := HX3.out.p.at_.u2
          have HRAV := Lib.hid hra
          have HC : Hid (∀ U : World, Below V3.heap.size V3 U → Calls Try.prog 9 #[.agg #[.int .i64 x.N, .slice x.dA x.dm x.dc, .slice x.tA x.tm x.tc, .slice x.A x.m x.c, .slice x.B x.k x.d], .agg #[.int .i64 r.tr, .slice r.sA r.sm r.sc]] U fun e w' => ∃ A3 c3, e = .returned (.tuple #[.agg #[.slice A3 n2 c3, .int .i64 res.back, .int .i64 res.dist, .int .i64 res.cost], .int .i64 res.e]) ∧ (∀ b o, b < U.heap.size → w'.cell? ⟨b, o, none⟩ = U.cell? ⟨b, o, none⟩) ∧ (∀ b o, b < U.heap.size → w'.frozen? ⟨b, o, none⟩ = U.frozen? ⟨b, o, none⟩) ∧ Hid (Below U.heap.size U w')) := by
            intro U hU
            refine (run_b x r U res hres (HX3.out.below hU).w.at_ (HRAV.out.below hU)).mono ?_
            rintro e w' ⟨A3, c3, rfl, h5⟩
            rw [hn2]
            exact ⟨A3, c3, rfl, fun b o hb => h5.out.1.cell (p := ⟨b, o, none⟩) hb, fun b o hb => h5.out.1.frozen (p := ⟨b, o, none⟩) hb, h5.out.1⟩
          have HB : Hid (Below V3.heap.size V3 V3.drew) := (Below.refl V3.heap.size V3).drew
          have HBa : Hid (Below V3.heap.size V3 (V3.alloc (.cells #[.slice none 0 0, .int .i64 0, .int .i64 0, .int .i64 0] 40)).drew) := (below_alloc V3 (.cells #[.slice none 0 0, .int .i64 0, .int .i64 0, .int .i64 0] 40)).drew
          have HPA := Lib.hid hrA
          clear hr hrA hra hres hn2 hmay hcs hkl HCK
          have HXT := Lib.hid (HX3.out.below (below_alloc V3 (.cells #[.slice none 0 0, .int .i64 0, .int .i64 0, .int .i64 0] 40)))
          have HROW := Lib.hid HX3.out.p.at_.rows
          have HRL := Lib.hid HX3.out.p.at_.rl
          clear f0 f1
          go_upto_region 8 with fail
          go_cut [9, 10] (fun s9 s10 W => ∃ V4 : World, V4 = W ∧ s10 = .int .i64 res.e ∧ TBox V3 res n2 s9 V4)
          case first => as_aux_lemma =>
            clear a0
            obtain ⟨ad', hrA', ⟨f0, f1⟩, _⟩ := HX3.out.p.at_.at_ HRP.out
            obtain rfl : ad' = ad := by rw [HPA.out] at hrA'; exact (Option.some.inj hrA').symm
            obtain ⟨ad2, hrA2, ⟨t0, t1⟩, _⟩ := HXT.out.p.at_.at_ HRP.out
            obtain rfl : ad2 = ad' := by rw [HPA.out] at hrA2; exact (Option.some.inj hrA2).symm
            have c0 := HX3.out.w.c0
            have c1 := HX3.out.w.c1
            have c2 := HX3.out.w.c2
            have c3 := HX3.out.w.c3
            have c4 := HX3.out.w.c4
            have a0 : V3.cell? ⟨b2, 0, none⟩ = some (.slice (some ad2) p.rm p.rc) := by have h := HX3.out.p.c0; rw [HPA.out] at h; exact h
            have u0 := HXT.out.w.c0
            have u1 := HXT.out.w.c1
            have u2 := HXT.out.w.c2
            have u3 := HXT.out.w.c3
            have u4 := HXT.out.w.c4
            have s0 : (V3.alloc (.cells #[.slice none 0 0, .int .i64 0, .int .i64 0, .int .i64 0] 40)).cell? ⟨b2, 0, none⟩ = some (.slice (some ad2) p.rm p.rc) := by have h := HXT.out.p.c0; rw [HPA.out] at h; exact h
            clear hrA' hrA2
            go_region_law (first
              | (go_simp; go_at_call 9; ((with_reducible refine (HC.out (V3.drew) HB.out).mono ?_)); rintro e w5 ⟨A3, cA3, rfl, kc, kf, kU⟩)
              | (go_simp; go_at_call 9; ((with_reducible refine (HC.out ((V3.alloc (.cells #[.slice none 0 0, .int .i64 0, .int .i64 0, .int .i64 0] 40)).drew) HBa.out).mono ?_)); rintro e w5 ⟨A3, cA3, rfl, kc, kf, kU⟩))
            all_goals
              clear kc kf u0 u1 u2 u3 u4 s0 c0 c1 c2 c3 c4 a0 f0 f1 t0 t1
              go_wp2
              go_meet
              case rel =>
                refine ⟨_, rfl, rfl, ?_⟩
                first
                  | with_reducible exact tbox_new (below_next HB.out kU.out)
                  | with_reducible exact tbox_set kU.out
          case rest =>
            obtain ⟨V4, rfl, rfl, q1, A3, cA3, rfl, HTB⟩ := hcut
            clear a0 HC HB HBa HXT HROW
            have HT4 := Lib.hid HTB.out.1
            have HX4 := Lib.hid (HX3.out.below HTB.out.2)
            have HB4 := Lib.hid (below_next HB3.out HTB.out.2)
            have HV34 := Lib.hid HTB.out.2
            clear HTB
            obtain ⟨k1, hk1⟩ : ∃ j, j = k + 1 := ⟨_, rfl⟩
            have hkk : (k : Int) + 1 = (k1 : Int) := by omega
            have hwk : IntKind.i64.wrap (k1 : Int) = (k1 : Int) := IntWalk.i64_in _ (by omega)
            have hk1l : k1 ≤ p.rm := by omega
            have HK1 := Lib.hid hk1
            obtain ⟨X2, c2, hsl2, hrow2⟩ := back_rs (some ad) p.rm p.rc k1 HRC.out hk1l
            have hsl1 := front_rs (some ad) p.rm p.rc k HRC.out (by omega)
            obtain ⟨m2, hm2⟩ : ∃ m, p.rm - k1 = m := ⟨_, rfl⟩
            rw [hm2] at hsl2
            have HROW4 : Hid (RowsR V4 (some ad) p.rs) := by have h := HX4.out.p.at_.rows; rw [HPA.out] at h; exact h
            have HR1 : Hid (RowsR V4 (some ad) (p.rs.take k)) := HROW4.out.take k
            have HR2 : Hid (RowsR V4 X2 (p.rs.drop k1)) := hrow2 V4 p.rs HRL.out HROW4.out
            have HL1 : Hid ((p.rs.take k).length = k) := by unfold Hid; rw [List.length_take, HRL.out]; omega
            have HL2 : Hid ((p.rs.drop k1).length = m2) := by unfold Hid; rw [List.length_drop, HRL.out]; exact hm2
            obtain ⟨m3, hm3⟩ : ∃ m, (p.rs.take k ++ p.rs.drop k1).length = m := ⟨_, rfl⟩
            have HL3 := Lib.hid hm3
            have HM3 : Hid (m3 + 1 = p.rm) := by unfold Hid; rw [← hm3, List.length_append, HL1.out, HL2.out]; omega
            have HA1 : Hid (∃ v' w', (Builtin.append_ #[29, 29] 29 #[.slice (some ⟨V4.heap.size, 0, none⟩) 0 0, .slice (some ad) k p.rc]).run Try.prog (V4.alloc (.cells #[] 44)).drew = .ok v' w' ∧ ∃ A' c', v' = .slice A' k c' ∧ Hid (Q1 V4 none (p.rs.take k) (.slice A' k c') w')) := by
              obtain ⟨v', w', h1, A', c', e, h2⟩ := (Q1.a V4).app (some ad) k p.rc (p.rs.take k) HL1.out HR1.out (by simp; omega) k (by simpa using HL1.out)
              subst e
              exact ⟨_, w', h1, A', c', rfl, h2⟩
            have HB1 : Hid (∃ v' w', (Builtin.append_ #[29, 29] 29 #[.slice (some ⟨V4.heap.size, 0, none⟩) 0 0, .slice (some ad) k p.rc]).run Try.prog ((V4.alloc (.cells #[] 44)).alloc (.cells #[.slice none 0 0, .slice none 0 0] 32)).drew = .ok v' w' ∧ ∃ A' c', v' = .slice A' k c' ∧ Hid (Q1 V4 (some (V4.heap.size + 1)) (p.rs.take k) (.slice A' k c') w')) := by
              obtain ⟨v', w', h1, A', c', e, h2⟩ := (Q1.b V4).app (some ad) k p.rc (p.rs.take k) HL1.out HR1.out (by simp; omega) k (by simpa using HL1.out)
              subst e
              exact ⟨_, w', h1, A', c', rfl, h2⟩
            have HC1 : Hid (∃ v' w', (Builtin.append_ #[29, 29] 29 #[.slice (some ⟨V4.heap.size + 1, 0, none⟩) 0 0, .slice (some ad) k p.rc]).run Try.prog ((V4.alloc (.cells #[.slice none 0 0, .slice none 0 0] 32)).alloc (.cells #[] 44)).drew = .ok v' w' ∧ ∃ A' c', v' = .slice A' k c' ∧ Hid (Q1 V4 (some V4.heap.size) (p.rs.take k) (.slice A' k c') w')) := by
              obtain ⟨v', w', h1, A', c', e, h2⟩ := (Q1.c V4).app (some ad) k p.rc (p.rs.take k) HL1.out HR1.out (by simp; omega) k (by simpa using HL1.out)
              subst e
              exact ⟨_, w', h1, A', c', rfl, h2⟩
            have HAPP : Hid (∀ xb w A c, Q1 V4 xb (p.rs.take k) (.slice A k c) w → ∃ v' w', (Builtin.append_ #[29, 29] 29 #[.slice A k c, .slice X2 m2 c2]).run Try.prog w = .ok v' w' ∧ ∃ A' c', v' = .slice A' m3 c' ∧ Hid (Q1 V4 xb (p.rs.take k ++ p.rs.drop k1) (.slice A' m3 c') w')) := fun xb w A c h => by
              obtain ⟨v', w', h1, A', c', e, h2⟩ := h.app X2 m2 c2 (p.rs.drop k1) HL2.out HR2.out (by rw [HL1.out]; omega) m3 hm3
              subst e
              exact ⟨_, w', h1, A', c', rfl, h2⟩
            have HY : Hid (∀ U, Below V4.heap.size V4 U → U.cell? ⟨b2, 0, none⟩ = some (.slice (some ad) p.rm p.rc)) := fun U hU => by have h := (HX4.out.below hU).p.c0; rw [HPA.out] at h; exact h
            clear hk1 hm3 hrow2 hm2 hk1l
            go_upto_region 9 with fail
            go_cut [11] (fun s11 W => ∃ V5 : World, V5 = W ∧ XBox V4 (p.rs.take k ++ p.rs.drop k1) m3 s11 V5)
            case first => as_aux_lemma =>
              have y0 := HY.out V4 (Below.refl _ _)
              have ya := HY.out (V4.alloc (.cells #[] 44)) (below_alloc _ _)
              have yb := HY.out ((V4.alloc (.cells #[] 44)).alloc (.cells #[.slice none 0 0, .slice none 0 0] 32)) (below_more (below_alloc _ _) _)
              have yc := HY.out (V4.alloc (.cells #[.slice none 0 0, .slice none 0 0] 32)) (below_alloc _ _)
              have yd := HY.out ((V4.alloc (.cells #[.slice none 0 0, .slice none 0 0] 32)).alloc (.cells #[] 44)) (below_more (below_alloc _ _) _)
              go_region_law (first
                | (refine step_append_w (w5.alloc (.cells #[.slice none 0 0, .slice none 0 0] 32)) (by with_reducible rfl) (by rfl) (.tmp 64) (.tmp 69) 29 29 29 (by rfl) (by rfl) (.slice A5 k c5) (.slice X2 m2 c2) (by rfl) (by rfl) _ HA2b.out ?_
                   rintro v2 w6 ⟨A6, c6, rfl, HF⟩
                   have z0 := (HF.out.box _ rfl).2.1.cell 0 _ rfl
                   have z1 := (HF.out.box _ rfl).2.1.cell 1 _ rfl
                   have g0 := (HF.out.box _ rfl).2.1.fz 0
                   have g1 := (HF.out.box _ rfl).2.1.fz 1)
                | (refine step_append_w w5 (by with_reducible rfl) (by rfl) (.tmp 64) (.tmp 69) 29 29 29 (by rfl) (by rfl) (.slice A5 k c5) (.slice X2 m2 c2) (by rfl) (by rfl) _ HA2a.out ?_
                   rintro v2 w6 ⟨A6, c6, rfl, HF⟩)
                | (refine step_append_w w5 (by with_reducible rfl) (by rfl) (.tmp 64) (.tmp 69) 29 29 29 (by rfl) (by rfl) (.slice A5 k c5) (.slice X2 m2 c2) (by rfl) (by rfl) _ HB2.out ?_
                   rintro v2 w6 ⟨A6, c6, rfl, HF⟩
                   have z0 := (HF.out.box _ rfl).2.1.cell 0 _ rfl
                   have z1 := (HF.out.box _ rfl).2.1.cell 1 _ rfl
                   have g0 := (HF.out.box _ rfl).2.1.fz 0
                   have g1 := (HF.out.box _ rfl).2.1.fz 1)
                | (refine step_append_w w5 (by with_reducible rfl) (by rfl) (.tmp 64) (.tmp 69) 29 29 29 (by rfl) (by rfl) (.slice A5 k c5) (.slice X2 m2 c2) (by rfl) (by rfl) _ HC2.out ?_
                   rintro v2 w6 ⟨A6, c6, rfl, HF⟩
                   have z0 := (HF.out.box _ rfl).2.1.cell 0 _ rfl
                   have z1 := (HF.out.box _ rfl).2.1.cell 1 _ rfl
                   have g0 := (HF.out.box _ rfl).2.1.fz 0
                   have g1 := (HF.out.box _ rfl).2.1.fz 1)
                | (refine step_append_w ((V4.alloc (.cells #[] 44)).drew) (by with_reducible rfl) (by rfl) (.tmp 59) (.tmp 63) 29 29 29 (by rfl) (by rfl) (.slice (some ⟨V4.heap.size, 0, none⟩) 0 0) (.slice (some ad) k p.rc) (by rfl) (by rfl) _ HA1.out ?_
                   rintro v1 w5 ⟨A5, c5, rfl, HF1⟩
                   have HA2a := Lib.hid (HAPP.out _ _ _ _ HF1.out)
                   have HA2b := Lib.hid (HAPP.out _ _ _ _ HF1.out.late)
                   have y5 := HY.out w5 HF1.out.bel
                   have y6 := HY.out (w5.alloc (.cells #[.slice none 0 0, .slice none 0 0] 32)) HF1.out.late.bel)
                | (refine step_append_w (((V4.alloc (.cells #[] 44)).alloc (.cells #[.slice none 0 0, .slice none 0 0] 32)).drew) (by with_reducible rfl) (by rfl) (.tmp 59) (.tmp 63) 29 29 29 (by rfl) (by rfl) (.slice (some ⟨V4.heap.size, 0, none⟩) 0 0) (.slice (some ad) k p.rc) (by rfl) (by rfl) _ HB1.out ?_
                   rintro v1 w5 ⟨A5, c5, rfl, HF1⟩
                   have HB2 := Lib.hid (HAPP.out _ _ _ _ HF1.out)
                   have y5 := HY.out w5 HF1.out.bel)
                | (refine step_append_w (((V4.alloc (.cells #[.slice none 0 0, .slice none 0 0] 32)).alloc (.cells #[] 44)).drew) (by with_reducible rfl) (by rfl) (.tmp 59) (.tmp 63) 29 29 29 (by rfl) (by rfl) (.slice (some ⟨V4.heap.size + 1, 0, none⟩) 0 0) (.slice (some ad) k p.rc) (by rfl) (by rfl) _ HC1.out ?_
                   rintro v1 w5 ⟨A5, c5, rfl, HF1⟩
                   have HC2 := Lib.hid (HAPP.out _ _ _ _ HF1.out)
                   have y5 := HY.out w5 HF1.out.bel))
              all_goals
                clear y0 ya yb yc yd y5
                go_wp2_with fail
                go_meet
                case rel =>
                  refine ⟨_, rfl, ?_⟩
                  first
                    | with_reducible exact HF.out.new
                    | with_reducible exact HF.out.put
            case rest => as_aux_lemma =>
              obtain ⟨V5, rfl, g, A6, c6, rfl, HXB⟩ := hcut
              clear HA1 HB1 HC1 HAPP HY hsl1 hsl2 hkk hwk
              have HGE : Hid (V4.heap.size ≤ g) := HXB.out.1
              have HX5 := Lib.hid (HX4.out.below HXB.out.2.2.1)
              have HT5 := Lib.hid (HT4.out.below HXB.out.2.2.1)
              have HB5 := Lib.hid (below_next HB4.out HXB.out.2.2.1)
              have HBX5 := Lib.hid HXB.out.2.1
              have HV45 := Lib.hid HXB.out.2.2.1
              obtain ⟨l, hl⟩ : ∃ l, (p.rs.take k ++ p.rs.drop k1) = l := ⟨_, rfl⟩
              have HLL := Lib.hid hl
              rw [hl] at HXB HL3
              clear hl
              have HROL : Hid (ros l = (ros p.rs).take k ++ (ros p.rs).drop (k + 1)) := by
                rw [← HLL.out, ← HK1.out]
                unfold Hid ros
                rw [List.map_append, List.map_take, List.map_drop]
              have HMEM : Hid (∀ s ∈ l, s ∈ p.rs) := fun s hs => by
                rw [← HLL.out] at hs
                rcases List.mem_append.1 hs with h | h
                · exact List.mem_of_mem_take h
                · exact List.mem_of_mem_drop h
              have HTOT : Hid ((Pl.stops (ros l)).length ≤ 10000) := by
                have h1 := (Pl.stops_perm (Pl.erase_perm HRK.out)).length_eq
                have h2 : (Pl.stops (r.ro :: ((ros p.rs).take k ++ (ros p.rs).drop (k + 1)))).length = r.ro.st.length + (Pl.stops ((ros p.rs).take k ++ (ros p.rs).drop (k + 1))).length := List.length_append
                have h3 := HX4.out.p.at_.tot
                rw [HROL.out]
                unfold Hid
                omega
              have HPQ : Hid (∀ U A c u m d us, Below V3.heap.size V3 U → RowsR U A l → us.length = m → m ≤ 1000 → IntsAt U u us → PAt U ⟨A, m3, c, l, u, m, d, us⟩) := fun U A c u m d us hU hr h1 h2 h3 => by
                refine ⟨HL3.out, by (show m3 ≤ 1000); have := HM3.out; omega, hr, fun s hs => (HX3.out.p.at_.ra s (HMEM.out s hs)).below hU, HTOT.out, h1, h2, h3⟩
              have HBV5 : Hid (Below V3.heap.size V3 V5) := below_next HV34.out HV45.out
              have HQ5 : Hid (PAt V5 ⟨A6, m3, c6, l, none, 0, 0, []⟩) := HPQ.out V5 A6 c6 none 0 0 [] HBV5.out HXB.out.2.2.2.1 rfl (by omega) (IntsAt.nil _ _)
              have HC := Lib.hid (rest_b x ⟨A6, m3, c6, l, none, 0, 0, []⟩ V5 HX5.out.w.at_ HQ5.out)
              have x0 := HX5.out.w.c0
              have x1 := HX5.out.w.c1
              have x2 := HX5.out.w.c2
              have x3 := HX5.out.w.c3
              have x4 := HX5.out.w.c4
              have y0 : V5.cell? ⟨g, 0, none⟩ = some (.slice A6 m3 c6) := HBX5.out.cell 0 _ rfl
              have y1 : V5.cell? ⟨g, 1, none⟩ = some (.slice none 0 0) := HBX5.out.cell 1 _ rfl
              go_wp2_with fail
              clear x0 x1 x2 x3 x4 y0 y1
              with_reducible refine HC.out.mono ?_
              rintro e V6 ⟨A7, c7, rfl, hc7, h6⟩
              have HGLT : Hid (g < V5.heap.size) := HBX5.out.lt
              obtain ⟨n7, hn7⟩ : ∃ n, (Pl.restS x.os (ros l)).length = n := ⟨_, rfl⟩
              rw [hn7]
              have HN7 := Lib.hid hn7
              have HBX6 := Lib.hid (HBX5.out.below h6.out.1)
              have z1 := HBX6.out.cell 1 _ rfl
              have g1 := HBX6.out.fz 1
              have HBX7 : Hid (Box (V6.setCell ⟨g, 1, none⟩ (.slice A7 n7 c7)) g #[.slice A6 m3 c6, .slice A7 n7 c7] 32) := HBX6.out.set 1 _ _ rfl
              have HV47 : Hid (Below V4.heap.size V4 (V6.setCell ⟨g, 1, none⟩ (.slice A7 n7 c7))) := (below_next HV45.out h6.out.1).setCell (p := ⟨g, 1, none⟩) HGE.out _
              have HX7 := Lib.hid (HX4.out.below HV47.out)
              have HT7 := Lib.hid (HT4.out.below HV47.out)
              have HB7 := Lib.hid (below_next HB4.out HV47.out)
              have HROW7 : Hid (RowsR (V6.setCell ⟨g, 1, none⟩ (.slice A7 n7 c7)) A6 l) := RowsR.blocks (HXB.out.2.2.2.1.below h6.out.1) fun ad e => Go.Deep.blk_setCell_other _ _ _ _ (HXB.out.2.2.2.2 ad e)
              have HI7 : Hid (IntsAt (V6.setCell ⟨g, 1, none⟩ (.slice A7 n7 c7)) A7 (Pl.restS x.os (ros l))) := IntsAt.blocks h6.out.2.1 fun ad e => Go.Deep.blk_setCell_other _ _ _ _ (by show ad.block ≠ g; have := (h6.out.2.2 ad e).1; have := HGLT.out; omega)
              have HN7L : Hid (n7 ≤ 1000) := by
                have h1 := Pl.restS_len x.os (ros l)
                rw [hn7, HX4.out.w.at_.ml] at h1
                have := HX4.out.w.at_.m2
                unfold Hid
                omega
              have HV37 : Hid (Below V3.heap.size V3 (V6.setCell ⟨g, 1, none⟩ (.slice A7 n7 c7))) := below_next HV34.out HV47.out
              have HQ7 : Hid (PAt (V6.setCell ⟨g, 1, none⟩ (.slice A7 n7 c7)) ⟨A6, m3, c6, l, A7, n7, c7, Pl.restS x.os (ros l)⟩) := HPQ.out _ A6 c6 A7 n7 c7 _ HV37.out HROW7.out hn7 HN7L.out HI7.out
              have HNUM : Hid (n7 = p.um + n2) := by
                rw [← hn7, HROL.out, HMAY.out.without_len HRK.out, HX4.out.p.at_.ul, HN2.out]
                rfl
              have HCS2 : Hid (Pl.checkS x.N x.D x.T x.os x.ts (ros l) (Pl.restS x.os (ros l)) = (cost - res.cost, 0)) := by
                have h1 := (HMAY.out.without HRK.out).check
                rw [← HROL.out] at h1
                unfold Hid
                rw [h1]
                have h2 := Pl.without_cost (f := Pl.run x.N x.D x.T x.os x.ts) HRK.out
                rw [HCOST.out, HRES.out, ← HROL.out] at h2
                rw [h2]
                congr 1
                omega
              have HC2 := Lib.hid (check_b x ⟨A6, m3, c6, l, A7, n7, c7, Pl.restS x.os (ros l)⟩ _ _ HCS2.out HX7.out.w.at_ HQ7.out)
              clear hn7 hc7 h6 HC HXB HQ5 HBX5 HBX6 HI7 HROW7 HX5 HT5 HB5
              have x0 := HX7.out.w.c0
              have x1 := HX7.out.w.c1
              have x2 := HX7.out.w.c2
              have x3 := HX7.out.w.c3
              have x4 := HX7.out.w.c4
              have y0 : (V6.setCell ⟨g, 1, none⟩ (.slice A7 n7 c7)).cell? ⟨g, 0, none⟩ = some (.slice A6 m3 c6) := HBX7.out.cell 0 _ rfl
              have y1 : (V6.setCell ⟨g, 1, none⟩ (.slice A7 n7 c7)).cell? ⟨g, 1, none⟩ = some (.slice A7 n7 c7) := HBX7.out.cell 1 _ rfl
              go_wp2_with fail
              clear x0 x1 x2 x3 x4 y0 y1 z1 g1
              generalize V6.setCell ⟨g, 1, none⟩ (.slice A7 n7 c7) = V7 at *
              with_reducible refine HC2.out.mono ?_
              rintro e V8 ⟨rfl, h8⟩
              have HX8 := Lib.hid (HX7.out.below h8.out)
              have HT8 := Lib.hid (HT7.out.below h8.out)
              have HB8 := Lib.hid (below_next HB7.out h8.out)
              have HBX8 := Lib.hid (HBX7.out.below h8.out)
              have HV38 := Lib.hid (below_next HV37.out h8.out)
              clear h8 HC2 HX7 HT7 HB7 HBX7 HV37 HV47 HQ7
              have HYB := Lib.hid (YB.start V8 (.slice p.uA p.um p.uc))
              have y1 := HX8.out.p.c1
              have y0a := (HX8.out.below (below_alloc V8 (.cells #[.slice none 0 0, .slice p.uA p.um p.uc] 32))).p.c0
              have hp1 : (p.rm : Int) - 1 = ((p.rm - 1 : Nat) : Int) := by omega
              have HRM1 := Lib.hid hp1
              clear hp1
              go_wp2_with fail
              clear y1 y0a
              have HXV := Lib.hid (HX8.out.below (below_alloc V8 (.cells #[.slice none 0 0, .slice p.uA p.um p.uc] 32)))
              generalize V8.alloc (.cells #[.slice none 0 0, .slice p.uA p.um p.uc] 32) = V9 at *
              obtain ⟨gy, hgy⟩ : ∃ g, V8.heap.size = g := ⟨_, rfl⟩
              rw [hgy] at HYB ⊢
              clear hgy
              go_loopg [15] p.rm (fun gk s15 Wx => ∃ (W0 : World) (j : Nat) (q : Int) (A : Option Addr) (m c : Nat), W0 = Wx ∧ j + gk = p.rm ∧ Hid (q = (gk : Int) - 1) ∧ s15 = .int .i64 q ∧ Hid (YB V8 gy A m c (.slice p.uA p.um p.uc) (p.rs.reverse.take j) W0))
              case atStart => exact ⟨_, 0, _, none, 0, 0, rfl, by omega, rfl, rfl, HYB.out⟩
              case round =>
                obtain ⟨W0, j, q, A, m, c, rfl, hjg, HQ, rfl, HI⟩ := hrel
                have HXW := Lib.hid (HX8.out.below HI.out.bel)
                by_cases hlt : 0 < gk
                · obtain ⟨gk, rfl⟩ : ∃ i, gk = i + 1 := ⟨gk - 1, by omega⟩
                  obtain rfl : q = (gk : Int) := by have := HQ.out; omega
                  obtain ⟨s, hs⟩ := mlist_at p.rs gk (by rw [HRL.out]; omega)
                  obtain ⟨ad', hrA', ⟨f0, f1⟩, _⟩ := HXW.out.p.at_.at_ hs
                  obtain rfl : ad' = ad := by rw [HPA.out] at hrA'; exact (Option.some.inj hrA').symm
                  have HSN := Lib.hid (rd_rev p.rs gk j s (by rw [HRL.out]; omega) hs)
                  have y3 : W0.cell? ⟨b2, 0, none⟩ = some (.slice (some ad') p.rm p.rc) := by have h := HXW.out.p.c0; rw [HPA.out] at h; exact h
                  have y3a : (W0.alloc (.cells #[.int .i64 s.tr, .slice s.sA s.sm s.sc] 44)).cell? ⟨b2, 0, none⟩ = some (.slice (some ad') p.rm p.rc) := by have h := (HXW.out.below (below_alloc W0 (.cells #[.int .i64 s.tr, .slice s.sA s.sm s.sc] 44))).p.c0; rw [HPA.out] at h; exact h
                  have z3 : W0.cell? ⟨gy, 0, none⟩ = some (.slice A m c) := HI.out.box.cell 0 _ rfl
                  have z3a : (W0.alloc (.cells #[.int .i64 s.tr, .slice s.sA s.sm s.sc] 44)).cell? ⟨gy, 0, none⟩ = some (.slice A m c) := (HI.out.below (below_alloc W0 (.cells #[.int .i64 s.tr, .slice s.sA s.sm s.sc] 44))).box.cell 0 _ rfl
                  obtain ⟨m', hm'⟩ : ∃ n', (p.rs.reverse.take (j + 1)).length = n' := ⟨_, rfl⟩
                  have HA := Lib.hid (HI.out.put s (p.rs.reverse.take (j + 1)) m' HSN.out hm' (by rw [List.length_take, List.length_reverse, HRL.out]; omega))
                  clear hs hm' hrA'
                  have hi0 : (0 : Int) ≤ (gk : Int) := by omega
                  have hi1 : (gk : Int) < (p.rm : Int) := by omega
                  go_wp2
                  go_region_law (first
                    | (refine step_append_w ((W0.alloc (.cells #[.int .i64 s.tr, .slice s.sA s.sm s.sc] 44)).drew) (by with_reducible rfl) (by rfl) (.tmp 94) (.tmp 100) 29 29 29 (by rfl) (by rfl) (.slice A m c) (.slice (some ⟨W0.heap.size, 0, none⟩) 1 1) (by rfl) (by rfl) _ HA.out ?_
                       rintro v2 w5 ⟨A', c', rfl, ⟨z, u1⟩, u2, u3⟩))
                  all_goals
                    clear z3 z3a y3 y3a f0 f1 HA
                    go_wp2
                    go_roundg gk
                    case measure => omega
                    case rel => exact ⟨_, j + 1, _, A', m', c', rfl, by omega, by unfold Hid; omega, rfl, u3.out⟩
                · obtain rfl : gk = 0 := by omega
                  obtain rfl : q = -1 := by have := HQ.out; omega
                  obtain rfl : j = p.rm := by omega
                  have HREV : Hid (p.rs.reverse.take p.rm = p.rs.reverse) := by unfold Hid; rw [List.take_of_length_le (by rw [List.length_reverse, HRL.out]; exact Nat.le_refl _)]
                  have hI := HI.out
                  rw [HREV.out] at hI
                  have HI2 := Lib.hid hI
                  have HLR : Hid (m = p.rm) := by rw [← hI.own.len.1, List.length_reverse]; exact HRL.out
                  have HPW := Lib.hid HXW.out.p.at_
                  have HQY : Hid (PAt W0 ⟨A, m, c, p.rs.reverse, p.uA, p.um, p.uc, p.us⟩) := by
                    refine ⟨hI.own.len.1, by (show m ≤ 1000); rw [HLR.out]; exact hrm, hI.own.len.2.2.1, fun s hs => HPW.out.ra s (List.mem_reverse.1 hs), ?_, HPW.out.ul, HPW.out.u2, HPW.out.us⟩
                    show (Pl.stops (ros p.rs.reverse)).length ≤ 10000
                    rw [ros_rev, (Pl.stops_perm (List.reverse_perm (ros p.rs))).length_eq]
                    exact HPW.out.tot
                  have HCS3 : Hid (Pl.checkS x.N x.D x.T x.os x.ts (ros p.rs.reverse) p.us = (cost, 0)) := by
                    have h1 := (HMAY.out.turn (List.reverse_perm (ros p.rs)).symm).check
                    unfold Hid
                    rw [ros_rev, h1, Pl.costs_perm (List.reverse_perm (ros p.rs)), HCOST.out]
                  have HC3 := Lib.hid (check_b x ⟨A, m, c, p.rs.reverse, p.uA, p.um, p.uc, p.us⟩ W0 _ HCS3.out HXW.out.w.at_ HQY.out)
                  clear hI
                  have x0 := HXW.out.w.c0
                  have x1 := HXW.out.w.c1
                  have x2 := HXW.out.w.c2
                  have x3 := HXW.out.w.c3
                  have x4 := HXW.out.w.c4
                  have y0 : W0.cell? ⟨gy, 0, none⟩ = some (.slice A m c) := HI2.out.box.cell 0 _ rfl
                  have y1 : W0.cell? ⟨gy, 1, none⟩ = some (.slice p.uA p.um p.uc) := HI2.out.box.cell 1 _ rfl
                  go_wp2_with fail
                  clear x0 x1 x2 x3 x4 y0 y1
                  with_reducible refine HC3.out.mono ?_
                  rintro e W1 ⟨rfl, h9⟩
                  have HV81 := Lib.hid (below_next HI2.out.bel h9.out)
                  have HT9 := Lib.hid (HT8.out.below HV81.out)
                  have HX9 := Lib.hid (HX8.out.below HV81.out)
                  have HBX9 := Lib.hid (HBX8.out.below HV81.out)
                  have HCF := Pl.cost_fits (N := x.N) (D := x.D) (T := x.T) (os := x.os) (ts := x.ts) (r := r.ro) (by rw [HRES.out]; exact HRE.out)
                  rw [HRES.out] at HCF
                  obtain ⟨hc0, hc1⟩ := HCF
                  have HCB := HCB'.out
                  obtain ⟨hd0, hd1⟩ := HCB
                  have t0 := HT9.out.cell 0 _ rfl
                  have t3 := HT9.out.cell 3 _ rfl
                  have y1 := HX9.out.p.c1
                  have z1 : W1.cell? ⟨g, 1, none⟩ = some (.slice A7 n7 c7) := HBX9.out.cell 1 _ rfl
                  have e5 : (res.e == (0 : Int)) = true := by rw [HRE.out]; decide
                  have e6 : ((cost - res.cost) == (cost - res.cost)) = true := by simp
                  have e7 : ((n7 : Int) == (p.um : Int) + (n2 : Int)) = true := by rw [HNUM.out, beq_iff_eq]; omega
                  have e8 : (n7 == p.um + n2) = true := by rw [HNUM.out]; simp
                  have e9 : (cost == cost) = true := by simp
                  have hn2l : n2 ≤ 1000 := by have h1 := HN2.out; have h2 := HRAV.out.sl; have h3 := HRAV.out.s2; omega
                  go_wp2_with fail
                  go_ret
                  exact ⟨rfl, below_next HB8.out HV81.out⟩
    · have e1 : (er != (0 : Int)) = true := bne_iff_ne.2 he
      have e2 : (er == (0 : Int)) = false := beq_eq_false_iff_ne.2 he
      have HC0 : Hid (cost = 0) := by
        have := Pl.check_zero (N := x.N) (D := x.D) (T := x.T) (os := x.os) (ts := x.ts) (rs := ros p.rs) (us := p.us) (by rw [HCK.out]; exact he)
        rw [HCK.out] at this
        exact this
      obtain rfl := HC0.out
      clear he
      go_wp2_with fail
      go_ret
      exact ⟨rfl, HB3.out⟩

set_option maxRecDepth 100000 in
theorem lifted (os : Os) (started : os.Started) (H : Type) (enc : TypeId × Value → H) :
    ReturnsInHanded {} Try.checked os 3 .any (Rows.planWithoutSpec.pre6 enc Try.prog Try.f3 Rows.planWithoutRow.domain false) (Rows.planWithoutSpec.post enc Try.prog Try.f3 false true false false) := by
  refine returnsInHanded_of_change_sized (C := Try.checked) own started (by kernel_rfl) Try.func3
    (ChangeSpec.witness6 (enc := enc) (C := Try.checked) false ⟨#[], #[.agg #[.int .i64 0, .slice none 0 0, .slice none 0 0, .slice none 0 0, .slice none 0 0], .agg #[.slice none 0 0, .slice none 0 0], .int .i64 0], []⟩ 8 (by kernel_rfl) (by kernel_rfl) (by kernel_rfl) (by kernel_rfl)) ?_
  intro W base args ds gs before hval0 hW _ hsz0 _
  have hsz : (DataW.weightsEach Try.prog (Try.f3.params.toList ++ Rows.planWithoutSpec.plain.varTypes Try.prog) (ds ++ gs)).all (· ≤ reachBytes) = true := hsz0
  have hval : ∀ (j : Nat) t v, Try.f3.params[j]? = some t → args[j]? = some v → Value.okWide Try.prog W .any base t v := hval0
  have hW' := hW
  obtain ⟨p, q, hA0, hV, rfl, hfz, hnd⟩ := hW
  have hA : DataW.TrodAll enc Try.prog W 0 (fun _ => true) true Try.f3.params.toList args.toList ds p := hA0
  rw [Try.params3] at hA hval hsz
  obtain ⟨v0, vs0, d0, ds0, p0, q0, hargs, rfl, rfl, h0, r0⟩ := trodAll_cons hA
  obtain ⟨v1, vs1, d1, ds1, p1, q1, rfl, rfl, rfl, h1, r1⟩ := trodAll_cons r0
  obtain ⟨v2, vs2, d2, ds2, p2, q2, rfl, rfl, rfl, h2, r2⟩ := trodAll_cons r1
  obtain ⟨rfl, rfl, rfl⟩ := trodAll_nil r2
  obtain rfl : args = #[v0, v1, v2] := by cases args; simp_all
  obtain ⟨rfl, rfl⟩ := trodVars_none hV
  have k0 := h0
  have lt0 : ∀ x ∈ p0, x.block < W.heap.size := by obtain ⟨m, hm⟩ := k0; exact DataW.trod_lt m _ _ _ hm
  obtain ⟨x0, rfl, hv0⟩ := open_world_in (hval 0 28 v0 rfl rfl) h0
  have k1 := h1
  have lt1 : ∀ x ∈ p1, x.block < W.heap.size := by obtain ⟨m, hm⟩ := k1; exact DataW.trod_lt m _ _ _ hm
  obtain ⟨x1, rfl, hv1, hw1⟩ := open_plan_in (hval 1 32 v1 rfl rfl) h1
  have hs1 : Few x1 := fun r hr => by
    have hsc := (hv1.ra r hr).sc
    rcases hw1 r hr with h0 | hin
    · omega
    · have := List.all_eq_true.1 hsz _ (DataW.weights_mem_each (j := 1) (t := 32) (d := d1) rfl rfl _ hin)
      have h2 : r.sc * 8 ≤ reachBytes := by simpa using this
      have h3 := reachBytes_lt
      omega
  obtain ⟨a2, rfl, rfl, rfl, w2⟩ := open_int Try.underlying3 (hval 2 3 v2 rfl rfl) h2
  clear hA0 hval0
  refine (walk x0 hv0 x1 hv1 hs1 a2 w2).mono fun e W' ⟨he, bel⟩ => ?_
  subst he
  exact ⟨_, rfl, _, _, _, [], _, [], hW', trodAll_mk1 (shut_bool Try.underlying4 _), (trodAll_cons_mk (Below.trod laidOut (by kernel_rfl) (of_decide_eq_true (by kernel_rfl)) k0 bel lt0) (trodAll_cons_mk (Below.trod laidOut (by kernel_rfl) (of_decide_eq_true (by kernel_rfl)) k1 bel lt1) (trodAll_cons_mk (shut_int Try.underlying3 w2) trodAll_mk0))), rfl, bel.frame _, fun h => by cases h⟩

theorem over : Rows.planWithoutRow.holds Try.pinned (OpenSpec.ofChange Rows.planWithoutSpec) :=
  OpenClaim.holds_of_wide 3 Try.f3 rfl rfl rfl rfl rfl rfl rfl ⟨rfl, rfl, rfl, rfl, rfl⟩ rfl rfl rfl rfl rfl (by kernel_rfl) Try.func3 (by kernel_rfl)
    (of_decide_eq_true (by kernel_rfl)) (by unfold Func.isWrapper; first | (rw [if_pos (by decide +kernel)]; kernel_rfl) | (rw [if_neg (by decide +kernel)]; exact ⟨rfl, rfl⟩))
    (fun os started H enc _ => lifted os started H enc)

theorem proved : Rows.PlanWithoutSaid := over
end Go.Proofs.Ytmidkjlikhngmaa.planWithout
