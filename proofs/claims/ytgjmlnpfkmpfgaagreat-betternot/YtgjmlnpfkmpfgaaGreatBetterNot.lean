/- Every call of the law that what comes of steps may be and is as good or better answers true: for every world, plan and numbers. No conditions. -/
import Derived.Test.YtgjmlnpfkmpfgaaGreatRows
import Derived.Test.YtgjmlnpfkmpfgaaGreatBetNm
import Derived.WalkKit
import Derived.ProofKit
import Derived.OpenShut
import Derived.ShutString
import Derived.ChangeOld
import Derived.Below
import Derived.SizedLaws
namespace Go.Proofs.YtgjmlnpfkmpfgaaGreat.betterNot
open Go.ChangeShapes Go.WideShapes Go.ChangeAt Go.RowKit
open Go.ChangeMaps (open_string shut_string)
set_option linter.unusedVariables false

theorem own : ownKnob Tryz.prog.godebug = none := by kernel_rfl
theorem laidOut : laidOutB Tryz.prog = true := by kernel_rfl

open Go.Proofs.YtgjmlnpfkmpfgaaGreat
set_option maxRecDepth 100000

set_option maxHeartbeats 20000000 in
theorem walk {w : World} (x : Wd) (hx : WorldIn w x) (p : Pd) (hp : PlanIn w p) (fp : Few p) (n : Int) (hn : (Lit.int .i64 n).wf = true) (m : Int) (hm : (Lit.int .i64 m).wf = true) :
    Calls Tryz.prog 5 #[.agg #[.int .i64 x.N, .slice x.dA x.dm x.dc, .slice x.tA x.tm x.tc, .slice x.A x.m x.c, .slice x.B x.k x.d], .agg #[.slice p.rA p.rm p.rc, .slice p.uA p.um p.uc], .int .i64 n, .int .i64 m] w fun e w' => e = .returned (.bool true) ∧ Below w.heap.size w w' := by
  have HB0 : Hid (Below w.heap.size w ((w.alloc (.cells #[.int .i64 x.N, .slice x.dA x.dm x.dc, .slice x.tA x.tm x.tc, .slice x.A x.m x.c, .slice x.B x.k x.d] 28)).alloc (.cells #[.slice p.rA p.rm p.rc, .slice p.uA p.um p.uc] 32))) := below_more (below_alloc _ _) _
  have HX := Lib.hid (OB.new w x p)
  have HWI := Lib.hid hx
  have HPI := Lib.hid hp
  have HFP := Lib.hid fp
  have HCAP : Hid (∀ r ∈ p.rs, r.sm ≤ r.sc) := fun r hr => (hp.ra r hr).sc
  clear hx hp fp hn hm
  go_enter Tryz.func5, Tryz.ntmps5
  go_wp2_with fail
  generalize ((w.alloc (.cells #[.int .i64 x.N, .slice x.dA x.dm x.dc, .slice x.tA x.tm x.tc, .slice x.A x.m x.c, .slice x.B x.k x.d] 28)).alloc (.cells #[.slice p.rA p.rm p.rc, .slice p.uA p.um p.uc] 32)) = V at *
  generalize w.heap.size + 1 = b2 at *
  generalize hb1 : w.heap.size = b1 at HX ⊢
  have HBE := Lib.hid hb1
  clear hb1
  with_reducible refine (awake_any _).mono ?_
  rintro e V1 ⟨rfl, hv1⟩
  have HX1 := Lib.hid (HX.out.below hv1)
  have HB1 := Lib.hid (below_next HB0.out hv1)
  clear hv1 HX HB0
  obtain ⟨r, hr⟩ : ∃ r : Bool, r = true ↔ LargeB x p n := by
    by_cases h : LargeB x p n
    · exact ⟨true, by simp [h]⟩
    · exact ⟨false, by simp [h]⟩
  have HR := Lib.hid hr
  have HC := Lib.hid (blarge_b x p n V1 r hr (HWI.out.below HB1.out) (HPI.out.below HB1.out) HFP.out)
  clear hr
  have c0 := wbox0 HX1.out.w
  have c1 := wbox1 HX1.out.w
  have c2 := wbox2 HX1.out.w
  have c3 := wbox3 HX1.out.w
  have c4 := wbox4 HX1.out.w
  have a0 := pbox0 HX1.out.p
  have a1 := pbox1 HX1.out.p
  go_wp2_with fail
  clear c0 c1 c2 c3 c4 a0 a1
  with_reducible refine HC.out.mono ?_
  rintro e V2 ⟨rfl, hv2⟩
  have HX2' := Lib.hid (HX1.out.below hv2.out)
  have HB2 := Lib.hid (below_next HB1.out hv2.out)
  clear hv2 HX1 HB1 HC
  cases r with
  | true =>
    go_wp2_with fail
    go_ret
    exact ⟨rfl, HB2.out⟩
  | false =>
    have HNL := Lib.hid (large_no3 (fun h => by have := HR.out.2 h; cases this))
    have HX2 : Hid (OW V2 b1 b2 x p) := ⟨⟨HX2'.out.w, (HWI.out.below HB2.out).at_ HNL.out.1⟩, ⟨HX2'.out.p, (HPI.out.below HB2.out).at_ HNL.out.2.1⟩⟩
    clear HX2' HWI HPI HFP HR
    obtain ⟨b3, d3⟩ : ∃ b, decide (m < (0 : Int)) = b := ⟨_, rfl⟩
    cases b3 with
    | true =>
      go_wp2_with fail
      go_ret
      exact ⟨rfl, HB2.out⟩
    | false =>
    obtain ⟨b4, d4⟩ : ∃ b, decide ((400 : Int) < m) = b := ⟨_, rfl⟩
    cases b4 with
    | true =>
      go_wp2_with fail
      go_ret
      exact ⟨rfl, HB2.out⟩
    | false =>
    have c0 := wbox0 HX2.out.w.box
    have c1 := wbox1 HX2.out.w.box
    have c2 := wbox2 HX2.out.w.box
    have c3 := wbox3 HX2.out.w.box
    have c4 := wbox4 HX2.out.w.box
    have a0 := HX2.out.p.c0
    have a1 := HX2.out.p.c1
    go_wp2_with fail
    clear c0 c1 c2 c3 c4 a0 a1
    obtain ⟨z, er, hck⟩ : ∃ z er, Pl.checkS x.N x.D x.T x.os x.ts (ros p.rs) p.us = (z, er) := ⟨_, _, rfl⟩
    have HCK := Lib.hid hck
    by_cases he : er = 0
    · subst he
      by_cases hn : n < 0 ∨ 100000 < n
      · have HC := Lib.hid (imp_steps x p V2 z n hck hn HX2.out.w.at_ HX2.out.p.at_)
        clear hn hck d3 d4
        with_reducible refine HC.out.mono ?_
        rintro e V3 ⟨rfl, h3⟩
        have HB3 := Lib.hid (below_more (below_next HB2.out h3.out) (.cells #[.slice none 0 0, .slice none 0 0] 32))
        go_wp2_with fail
        go_ret
        exact ⟨rfl, HB3.out⟩
      · obtain ⟨k, rfl⟩ : ∃ k : Nat, n = (k : Int) := ⟨n.toNat, by omega⟩
        obtain ⟨j, rfl⟩ : ∃ j : Nat, m = (j : Int) := ⟨m.toNat, by have := of_decide_eq_false d3; omega⟩
        have HK4 : Hid (k ≤ 400) := by have := HNL.out.2.2; unfold Hid; omega
        have HJ4 : Hid (j ≤ 400) := by have := of_decide_eq_false d4; unfold Hid; omega
        have HC := Lib.hid (imp_yes x p V2 z k hck (by have := HK4.out; omega) HX2.out.w.at_ HX2.out.p.at_)
        clear hn hck d3 d4 HNL
        with_reducible refine HC.out.mono ?_
        rintro e V3 ⟨q, t, rfl, hgo, h3⟩
        have HIM := Lib.hid (imp_of HCK.out hgo h3.out.2.2.1 HX2.out.p.at_.ul h3.out.2.1.at_.ul)
        have HQC := Lib.hid h3.out.2.2.2
        have HQ3 : Hid (PX (V3.alloc (.cells #[.slice q.rA q.rm q.rc, .slice q.uA q.um q.uc] 32)) V3.heap.size q) := PX.new h3.out.2.1.at_
        have HX3 := Lib.hid ((HX2.out.below h3.out.1).below (below_alloc V3 (.cells #[.slice q.rA q.rm q.rc, .slice q.uA q.um q.uc] 32)))
        have HB3 := Lib.hid (below_more (below_next HB2.out h3.out.1) (.cells #[.slice q.rA q.rm q.rc, .slice q.uA q.um q.uc] 32))
        clear HX2 HB2 HC h3 hgo
        have c0 := wbox0 HX3.out.w.box
        have c1 := wbox1 HX3.out.w.box
        have c2 := wbox2 HX3.out.w.box
        have c3 := wbox3 HX3.out.w.box
        have c4 := wbox4 HX3.out.w.box
        have q0 := HQ3.out.c0
        have q1 := HQ3.out.c1
        go_wp2_with fail
        clear c0 c1 c2 c3 c4 q0 q1
        generalize V3.alloc (.cells #[.slice q.rA q.rm q.rc, .slice q.uA q.um q.uc] 32) = V4 at *
        generalize hq : V3.heap.size = bq at *
        clear hq
        obtain ⟨z2, hz2⟩ := HIM.out.ok
        have HZ2 := Lib.hid hz2
        have HC := Lib.hid (check_b x q V4 (z2, 0) hz2 HX3.out.w.at_ HQ3.out.at_)
        clear hz2
        with_reducible refine HC.out.mono ?_
        rintro e V5 ⟨rfl, h5⟩
        have HX5 := Lib.hid (HX3.out.below h5.out)
        have HQ5 := Lib.hid (HQ3.out.below h5.out)
        have HB5 := Lib.hid (below_next HB3.out h5.out)
        clear HX3 HQ3 HB3 HC h5
        have HTK := Lib.hid HIM.out.le
        have d5 : decide ((k : Int) < (t : Int)) = false := decide_eq_false (by have := HTK.out; omega)
        have d6 : decide (k < t) = false := decide_eq_false (by have := HTK.out; omega)
        have HC := Lib.hid (less_b x p q V5 false HIM.out.no HX5.out.w.at_ HX5.out.p.at_ HQ5.out.at_)
        have c0 := wbox0 HX5.out.w.box
        have c1 := wbox1 HX5.out.w.box
        have c2 := wbox2 HX5.out.w.box
        have c3 := wbox3 HX5.out.w.box
        have c4 := wbox4 HX5.out.w.box
        have a0 := HX5.out.p.c0
        have a1 := HX5.out.p.c1
        have q0 := HQ5.out.c0
        have q1 := HQ5.out.c1
        go_wp2_with fail
        clear c0 c1 c2 c3 c4 a0 a1 q0 q1 d5 d6
        with_reducible refine HC.out.mono ?_
        rintro e V6 ⟨rfl, h6⟩
        have HX6 := Lib.hid (HX5.out.below h6.out)
        have HQ6 := Lib.hid (HQ5.out.below h6.out)
        have HB6 := Lib.hid (below_next HB5.out h6.out)
        clear HX5 HQ5 HB5 HC h6
        have c0 := wbox0 HX6.out.w.box
        have c1 := wbox1 HX6.out.w.box
        have c2 := wbox2 HX6.out.w.box
        have c3 := wbox3 HX6.out.w.box
        have c4 := wbox4 HX6.out.w.box
        have a0 := HX6.out.p.c0
        have a1 := HX6.out.p.c1
        have q0 := HQ6.out.c0
        have q1 := HQ6.out.c1
        go_wp2_with fail
        clear c0 c1 c2 c3 c4 a0 a1 q0 q1
        by_cases heq : ros q.rs = ros p.rs ∧ q.us = p.us
        · have HC := Lib.hid (pequal_b p q V6 HX6.out.p.at_ HQ6.out.at_ heq.1.symm heq.2.symm)
          clear heq
          with_reducible refine HC.out.mono ?_
          rintro e V7 ⟨rfl, h7⟩
          have HX7 := Lib.hid (HX6.out.below h7.out)
          have HQ7 := Lib.hid (HQ6.out.below h7.out)
          have HB7 := Lib.hid (below_next HB6.out h7.out)
          clear HX6 HQ6 HB6 HC h7
          by_cases htk : t < k
          · have d7 : decide (t < k) = true := decide_eq_true htk
            have d8 : decide ((t : Int) < (k : Int)) = true := decide_eq_true (by omega)
            have HLT := Lib.hid htk
            have HC := Lib.hid (moves_yes x q V7 z2 HZ2.out HX7.out.w.at_ HQ7.out.at_ HQC.out)
            clear htk
            have c0 := wbox0 HX7.out.w.box
            have c1 := wbox1 HX7.out.w.box
            have c2 := wbox2 HX7.out.w.box
            have c3 := wbox3 HX7.out.w.box
            have c4 := wbox4 HX7.out.w.box
            have q0 := HQ7.out.c0
            have q1 := HQ7.out.c1
            go_wp2_with fail
            clear c0 c1 c2 c3 c4 q0 q1 d7 d8
            with_reducible refine HC.out.mono ?_
            rintro e V9 ⟨A9, m9, c9, l9, rfl, h9⟩
            have HX9 := Lib.hid (HX7.out.below h9.out.1)
            have HQ9 := Lib.hid (HQ7.out.below h9.out.1)
            have HB9 := Lib.hid (below_next HB7.out h9.out.1)
            have HROW : Hid (RowsP V9 A9 l9 ∧ l9.length = m9) := by
              obtain ⟨A, c, he, _, _, h1, _⟩ := h9.out.2.1.row
              injection he with e1 e2 e3
              rw [e1]
              exact ⟨h1, e2.symm⟩
            have hm9 : m9 ≤ 9223372036854775807 := by
              obtain ⟨A, c, he, h1, h2, _⟩ := h9.out.2.1.row
              unfold maxLen at h2
              rw [← HROW.out.2]
              omega
            have HMV : Hid (∀ r ∈ l9, PAt V9 r ∧ lessP x r q = false) := fun r hr => by
              have h1 := h9.out.2.2.1 r hr
              refine ⟨h1.1.at_, HIM.out.moves HLT.out HQ9.out.at_.ul ?_ h1.2.1 h1.1.at_.ul⟩
              rw [← h9.out.2.2.2]
              exact List.mem_map.2 ⟨r, hr, rfl⟩
            clear HX7 HQ7 HB7 HC h9
            go_wp2_with fail
            go_loopg [90] m9 (fun gk s90 Wx => ∃ (i : Nat) (W : World), W = Wx ∧ i + gk = m9 ∧ s90 = .int .i64 i ∧ Hid (Below V9.heap.size V9 W))
            case atStart => exact ⟨0, _, rfl, by omega, rfl, Below.refl _ _⟩
            case round =>
              obtain ⟨i, W, rfl, hig, rfl, HK⟩ := hrel
              have HXW := Lib.hid (HX9.out.below HK.out)
              have HQW := Lib.hid (HQ9.out.below HK.out)
              have HBW := Lib.hid (below_next HB9.out HK.out)
              by_cases hlt : i < m9
              · obtain ⟨gk, rfl⟩ : ∃ j, gk = j + 1 := ⟨gk - 1, by omega⟩
                obtain ⟨r, hr⟩ := mlist_at l9 i (by rw [HROW.out.2]; exact hlt)
                obtain ⟨ad, hA, a0, a1⟩ := (HROW.out.1.below HK.out) i r hr
                have HR9 := Lib.hid (HMV.out r (List.mem_of_getElem? hr))
                have i2 : (i : Int) < (m9 : Int) := by omega
                have HXU : Hid (OW (W.alloc (.cells #[.slice r.rA r.rm r.rc, .slice r.uA r.um r.uc] 32)) b1 b2 x p) := HXW.out.below (below_alloc _ _)
                have HQU : Hid (PX (W.alloc (.cells #[.slice r.rA r.rm r.rc, .slice r.uA r.um r.uc] 32)) bq q) := HQW.out.below (below_alloc _ _)
                have HRU : Hid (PX (W.alloc (.cells #[.slice r.rA r.rm r.rc, .slice r.uA r.um r.uc] 32)) W.heap.size r) := PX.new (HR9.out.1.below HK.out)
                have HKU : Hid (Below V9.heap.size V9 (W.alloc (.cells #[.slice r.rA r.rm r.rc, .slice r.uA r.um r.uc] 32))) := below_more HK.out _
                have HC := Lib.hid (less_b x r q _ false HR9.out.2 HXU.out.w.at_ HRU.out.at_ HQU.out.at_)
                obtain rfl := hA
                clear hr
                have c0 := wbox0 HXU.out.w.box
                have c1 := wbox1 HXU.out.w.box
                have c2 := wbox2 HXU.out.w.box
                have c3 := wbox3 HXU.out.w.box
                have c4 := wbox4 HXU.out.w.box
                have q0 := HQU.out.c0
                have q1 := HQU.out.c1
                have r0 := HRU.out.c0
                have r1 := HRU.out.c1
                go_wp2_with fail
                clear c0 c1 c2 c3 c4 q0 q1 r0 r1 a0 a1
                with_reducible refine HC.out.mono ?_
                rintro e W3 ⟨rfl, h3⟩
                have HK3 := Lib.hid (below_next HKU.out h3.out)
                go_wp2
                go_roundg gk
                case measure => omega
                case rel => exact ⟨i + 1, _, rfl, by omega, by first | rfl | go_num, HK3.out⟩
              · obtain rfl : i = m9 := by omega
                clear HX9 HQ9 HB9 HROW HMV HK
                have hlt2 : ¬ (k : Int) = (t : Int) := by have := HLT.out; omega
                have d9 : ((t : Int) == (k : Int)) = false := beq_eq_false_iff_ne.2 (by have := HLT.out; omega)
                have wr : IntKind.i64.wrap ((k : Int) + (j : Int)) = ((k + j : Nat) : Int) := by have h1 := HK4.out; have h2 := HJ4.out; rw [IntWalk.i64_in _ (by omega)]; omega
                have wr2 : IntKind.i64.wrap ((k : Int) + (j : Int)) = (k : Int) + (j : Int) := by have h1 := HK4.out; have h2 := HJ4.out; exact IntWalk.i64_in _ (by omega)
                have hc := imp_yes x p W z (k + j) HCK.out (by have h1 := HK4.out; have h2 := HJ4.out; omega) HXW.out.w.at_ HXW.out.p.at_
                rw [Int.natCast_add] at hc
                have HC := Lib.hid hc
                clear hc
                have c0 := wbox0 HXW.out.w.box
                have c1 := wbox1 HXW.out.w.box
                have c2 := wbox2 HXW.out.w.box
                have c3 := wbox3 HXW.out.w.box
                have c4 := wbox4 HXW.out.w.box
                have a0 := HXW.out.p.c0
                have a1 := HXW.out.p.c1
                clear hlt2
                go_wp2_with fail
                clear c0 c1 c2 c3 c4 a0 a1
                with_reducible refine HC.out.mono ?_
                rintro e V10 ⟨q2, t2, rfl, hgo, h10⟩
                have HMO := Lib.hid (HIM.out.more (imp_of HCK.out hgo h10.out.2.2.1 HXW.out.p.at_.ul h10.out.2.1.at_.ul) HQW.out.at_.ul h10.out.2.1.at_.ul)
                have HX10 := Lib.hid ((HXW.out.below h10.out.1).below (below_alloc V10 (.cells #[.slice q2.rA q2.rm q2.rc, .slice q2.uA q2.um q2.uc] 32)))
                have HQ10 := Lib.hid ((HQW.out.below h10.out.1).below (below_alloc V10 (.cells #[.slice q2.rA q2.rm q2.rc, .slice q2.uA q2.um q2.uc] 32)))
                have HB10 := Lib.hid (below_more (below_next HBW.out h10.out.1) (.cells #[.slice q2.rA q2.rm q2.rc, .slice q2.uA q2.um q2.uc] 32))
                have HR10 : Hid (PX (V10.alloc (.cells #[.slice q2.rA q2.rm q2.rc, .slice q2.uA q2.um q2.uc] 32)) V10.heap.size q2) := PX.new h10.out.2.1.at_
                have HEQ : Hid (t2 = t ∧ ros q.rs = ros q2.rs ∧ q.us = q2.us) := HMO.out.2.2.resolve_left (by have := HLT.out; omega)
                have htt := HEQ.out.1
                subst htt
                clear HXW HQW HBW HC hgo h10
                have HC := Lib.hid (less_b x q q2 _ false HMO.out.2.1 HX10.out.w.at_ HQ10.out.at_ HR10.out.at_)
                have c0 := wbox0 HX10.out.w.box
                have c1 := wbox1 HX10.out.w.box
                have c2 := wbox2 HX10.out.w.box
                have c3 := wbox3 HX10.out.w.box
                have c4 := wbox4 HX10.out.w.box
                have q0 := HQ10.out.c0
                have q1 := HQ10.out.c1
                have r0 := HR10.out.c0
                have r1 := HR10.out.c1
                go_wp2_with fail
                clear c0 c1 c2 c3 c4 q0 q1 r0 r1
                with_reducible refine HC.out.mono ?_
                rintro e V11 ⟨rfl, h11⟩
                have HQ11 := Lib.hid (HQ10.out.below h11.out)
                have HR11 := Lib.hid (HR10.out.below h11.out)
                have HB11 := Lib.hid (below_next HB10.out h11.out)
                have HC := Lib.hid (pequal_b q q2 V11 HQ11.out.at_ HR11.out.at_ HEQ.out.2.1 HEQ.out.2.2)
                clear HX10 HQ10 HR10 HB10 h11
                have q0 := HQ11.out.c0
                have q1 := HQ11.out.c1
                have r0 := HR11.out.c0
                have r1 := HR11.out.c1
                go_wp2_with fail
                clear q0 q1 r0 r1
                with_reducible refine HC.out.mono ?_
                rintro e V12 ⟨rfl, h12⟩
                have HB12 := Lib.hid (below_next HB11.out h12.out)
                go_wp2
                go_ret
                exact ⟨rfl, HB12.out⟩
          · obtain rfl : t = k := by have := HTK.out; omega
            clear htk
            have HHC : Hid (∀ j : Nat, j = j) := fun j => rfl
            have wr2 : IntKind.i64.wrap ((t : Int) + (j : Int)) = (t : Int) + (j : Int) := by have h1 := HK4.out; have h2 := HJ4.out; exact IntWalk.i64_in _ (by omega)
            have hc := imp_yes x p V7 z (t + j) HCK.out (by have h1 := HK4.out; have h2 := HJ4.out; omega) HX7.out.w.at_ HX7.out.p.at_
            rw [Int.natCast_add] at hc
            have HC := Lib.hid hc
            clear hc HHC
            have c0 := wbox0 HX7.out.w.box
            have c1 := wbox1 HX7.out.w.box
            have c2 := wbox2 HX7.out.w.box
            have c3 := wbox3 HX7.out.w.box
            have c4 := wbox4 HX7.out.w.box
            have a0 := HX7.out.p.c0
            have a1 := HX7.out.p.c1
            go_wp2_with fail
            clear c0 c1 c2 c3 c4 a0 a1
            with_reducible refine HC.out.mono ?_
            rintro e V10 ⟨q2, t2, rfl, hgo, h10⟩
            have HMO := Lib.hid (HIM.out.more (imp_of HCK.out hgo h10.out.2.2.1 HX7.out.p.at_.ul h10.out.2.1.at_.ul) HQ7.out.at_.ul h10.out.2.1.at_.ul)
            have HX10 := Lib.hid ((HX7.out.below h10.out.1).below (below_alloc V10 (.cells #[.slice q2.rA q2.rm q2.rc, .slice q2.uA q2.um q2.uc] 32)))
            have HQ10 := Lib.hid ((HQ7.out.below h10.out.1).below (below_alloc V10 (.cells #[.slice q2.rA q2.rm q2.rc, .slice q2.uA q2.um q2.uc] 32)))
            have HB10 := Lib.hid (below_more (below_next HB7.out h10.out.1) (.cells #[.slice q2.rA q2.rm q2.rc, .slice q2.uA q2.um q2.uc] 32))
            have HR10 : Hid (PX (V10.alloc (.cells #[.slice q2.rA q2.rm q2.rc, .slice q2.uA q2.um q2.uc] 32)) V10.heap.size q2) := PX.new h10.out.2.1.at_
            clear HX7 HQ7 HB7 HC hgo h10
            have d10 : decide ((t : Int) ≤ (t2 : Int)) = true := decide_eq_true (by have := HMO.out.1; omega)
            have d11 : decide (t ≤ t2) = true := decide_eq_true HMO.out.1
            have HC := Lib.hid (less_b x q q2 _ false HMO.out.2.1 HX10.out.w.at_ HQ10.out.at_ HR10.out.at_)
            have c0 := wbox0 HX10.out.w.box
            have c1 := wbox1 HX10.out.w.box
            have c2 := wbox2 HX10.out.w.box
            have c3 := wbox3 HX10.out.w.box
            have c4 := wbox4 HX10.out.w.box
            have q0 := HQ10.out.c0
            have q1 := HQ10.out.c1
            have r0 := HR10.out.c0
            have r1 := HR10.out.c1
            go_wp2_with fail
            clear c0 c1 c2 c3 c4 q0 q1 r0 r1
            with_reducible refine HC.out.mono ?_
            rintro e V11 ⟨rfl, h11⟩
            have HB11 := Lib.hid (below_next HB10.out h11.out)
            go_wp2
            go_ret
            exact ⟨rfl, HB11.out⟩
        · have hls : lessP x q p = true := HIM.out.or_.resolve_left heq
          have HC := Lib.hid (pequal_any p q V6 HX6.out.p.at_ HQ6.out.at_)
          have HLS := Lib.hid hls
          clear heq hls
          with_reducible refine HC.out.mono ?_
          rintro e V7 ⟨b5, rfl, h7⟩
          have HX7 := Lib.hid (HX6.out.below h7.out)
          have HQ7 := Lib.hid (HQ6.out.below h7.out)
          have HB7 := Lib.hid (below_next HB6.out h7.out)
          clear HX6 HQ6 HB6 HC h7
          cases b5 with
          | true =>
            clear HLS
            by_cases htk : t < k
            · have d7 : decide (t < k) = true := decide_eq_true htk
              have d8 : decide ((t : Int) < (k : Int)) = true := decide_eq_true (by omega)
              have HLT := Lib.hid htk
              have HC := Lib.hid (moves_yes x q V7 z2 HZ2.out HX7.out.w.at_ HQ7.out.at_ HQC.out)
              clear htk
              have c0 := wbox0 HX7.out.w.box
              have c1 := wbox1 HX7.out.w.box
              have c2 := wbox2 HX7.out.w.box
              have c3 := wbox3 HX7.out.w.box
              have c4 := wbox4 HX7.out.w.box
              have q0 := HQ7.out.c0
              have q1 := HQ7.out.c1
              go_wp2_with fail
              clear c0 c1 c2 c3 c4 q0 q1 d7 d8
              with_reducible refine HC.out.mono ?_
              rintro e V9 ⟨A9, m9, c9, l9, rfl, h9⟩
              have HX9 := Lib.hid (HX7.out.below h9.out.1)
              have HQ9 := Lib.hid (HQ7.out.below h9.out.1)
              have HB9 := Lib.hid (below_next HB7.out h9.out.1)
              have HROW : Hid (RowsP V9 A9 l9 ∧ l9.length = m9) := by
                obtain ⟨A, c, he, _, _, h1, _⟩ := h9.out.2.1.row
                injection he with e1 e2 e3
                rw [e1]
                exact ⟨h1, e2.symm⟩
              have hm9 : m9 ≤ 9223372036854775807 := by
                obtain ⟨A, c, he, h1, h2, _⟩ := h9.out.2.1.row
                unfold maxLen at h2
                rw [← HROW.out.2]
                omega
              have HMV : Hid (∀ r ∈ l9, PAt V9 r ∧ lessP x r q = false) := fun r hr => by
                have h1 := h9.out.2.2.1 r hr
                refine ⟨h1.1.at_, HIM.out.moves HLT.out HQ9.out.at_.ul ?_ h1.2.1 h1.1.at_.ul⟩
                rw [← h9.out.2.2.2]
                exact List.mem_map.2 ⟨r, hr, rfl⟩
              clear HX7 HQ7 HB7 HC h9
              go_wp2_with fail
              go_loopg [90] m9 (fun gk s90 Wx => ∃ (i : Nat) (W : World), W = Wx ∧ i + gk = m9 ∧ s90 = .int .i64 i ∧ Hid (Below V9.heap.size V9 W))
              case atStart => exact ⟨0, _, rfl, by omega, rfl, Below.refl _ _⟩
              case round =>
                obtain ⟨i, W, rfl, hig, rfl, HK⟩ := hrel
                have HXW := Lib.hid (HX9.out.below HK.out)
                have HQW := Lib.hid (HQ9.out.below HK.out)
                have HBW := Lib.hid (below_next HB9.out HK.out)
                by_cases hlt : i < m9
                · obtain ⟨gk, rfl⟩ : ∃ j, gk = j + 1 := ⟨gk - 1, by omega⟩
                  obtain ⟨r, hr⟩ := mlist_at l9 i (by rw [HROW.out.2]; exact hlt)
                  obtain ⟨ad, hA, a0, a1⟩ := (HROW.out.1.below HK.out) i r hr
                  have HR9 := Lib.hid (HMV.out r (List.mem_of_getElem? hr))
                  have i2 : (i : Int) < (m9 : Int) := by omega
                  have HXU : Hid (OW (W.alloc (.cells #[.slice r.rA r.rm r.rc, .slice r.uA r.um r.uc] 32)) b1 b2 x p) := HXW.out.below (below_alloc _ _)
                  have HQU : Hid (PX (W.alloc (.cells #[.slice r.rA r.rm r.rc, .slice r.uA r.um r.uc] 32)) bq q) := HQW.out.below (below_alloc _ _)
                  have HRU : Hid (PX (W.alloc (.cells #[.slice r.rA r.rm r.rc, .slice r.uA r.um r.uc] 32)) W.heap.size r) := PX.new (HR9.out.1.below HK.out)
                  have HKU : Hid (Below V9.heap.size V9 (W.alloc (.cells #[.slice r.rA r.rm r.rc, .slice r.uA r.um r.uc] 32))) := below_more HK.out _
                  have HC := Lib.hid (less_b x r q _ false HR9.out.2 HXU.out.w.at_ HRU.out.at_ HQU.out.at_)
                  obtain rfl := hA
                  clear hr
                  have c0 := wbox0 HXU.out.w.box
                  have c1 := wbox1 HXU.out.w.box
                  have c2 := wbox2 HXU.out.w.box
                  have c3 := wbox3 HXU.out.w.box
                  have c4 := wbox4 HXU.out.w.box
                  have q0 := HQU.out.c0
                  have q1 := HQU.out.c1
                  have r0 := HRU.out.c0
                  have r1 := HRU.out.c1
                  go_wp2_with fail
                  clear c0 c1 c2 c3 c4 q0 q1 r0 r1 a0 a1
                  with_reducible refine HC.out.mono ?_
                  rintro e W3 ⟨rfl, h3⟩
                  have HK3 := Lib.hid (below_next HKU.out h3.out)
                  go_wp2
                  go_roundg gk
                  case measure => omega
                  case rel => exact ⟨i + 1, _, rfl, by omega, by first | rfl | go_num, HK3.out⟩
                · obtain rfl : i = m9 := by omega
                  clear HX9 HQ9 HB9 HROW HMV HK
                  have hlt2 : ¬ (k : Int) = (t : Int) := by have := HLT.out; omega
                  have d9 : ((t : Int) == (k : Int)) = false := beq_eq_false_iff_ne.2 (by have := HLT.out; omega)
                  have wr : IntKind.i64.wrap ((k : Int) + (j : Int)) = ((k + j : Nat) : Int) := by have h1 := HK4.out; have h2 := HJ4.out; rw [IntWalk.i64_in _ (by omega)]; omega
                  have wr2 : IntKind.i64.wrap ((k : Int) + (j : Int)) = (k : Int) + (j : Int) := by have h1 := HK4.out; have h2 := HJ4.out; exact IntWalk.i64_in _ (by omega)
                  have hc := imp_yes x p W z (k + j) HCK.out (by have h1 := HK4.out; have h2 := HJ4.out; omega) HXW.out.w.at_ HXW.out.p.at_
                  rw [Int.natCast_add] at hc
                  have HC := Lib.hid hc
                  clear hc
                  have c0 := wbox0 HXW.out.w.box
                  have c1 := wbox1 HXW.out.w.box
                  have c2 := wbox2 HXW.out.w.box
                  have c3 := wbox3 HXW.out.w.box
                  have c4 := wbox4 HXW.out.w.box
                  have a0 := HXW.out.p.c0
                  have a1 := HXW.out.p.c1
                  clear hlt2
                  go_wp2_with fail
                  clear c0 c1 c2 c3 c4 a0 a1
                  with_reducible refine HC.out.mono ?_
                  rintro e V10 ⟨q2, t2, rfl, hgo, h10⟩
                  have HMO := Lib.hid (HIM.out.more (imp_of HCK.out hgo h10.out.2.2.1 HXW.out.p.at_.ul h10.out.2.1.at_.ul) HQW.out.at_.ul h10.out.2.1.at_.ul)
                  have HX10 := Lib.hid ((HXW.out.below h10.out.1).below (below_alloc V10 (.cells #[.slice q2.rA q2.rm q2.rc, .slice q2.uA q2.um q2.uc] 32)))
                  have HQ10 := Lib.hid ((HQW.out.below h10.out.1).below (below_alloc V10 (.cells #[.slice q2.rA q2.rm q2.rc, .slice q2.uA q2.um q2.uc] 32)))
                  have HB10 := Lib.hid (below_more (below_next HBW.out h10.out.1) (.cells #[.slice q2.rA q2.rm q2.rc, .slice q2.uA q2.um q2.uc] 32))
                  have HR10 : Hid (PX (V10.alloc (.cells #[.slice q2.rA q2.rm q2.rc, .slice q2.uA q2.um q2.uc] 32)) V10.heap.size q2) := PX.new h10.out.2.1.at_
                  have HEQ : Hid (t2 = t ∧ ros q.rs = ros q2.rs ∧ q.us = q2.us) := HMO.out.2.2.resolve_left (by have := HLT.out; omega)
                  have htt := HEQ.out.1
                  subst htt
                  clear HXW HQW HBW HC hgo h10
                  have HC := Lib.hid (less_b x q q2 _ false HMO.out.2.1 HX10.out.w.at_ HQ10.out.at_ HR10.out.at_)
                  have c0 := wbox0 HX10.out.w.box
                  have c1 := wbox1 HX10.out.w.box
                  have c2 := wbox2 HX10.out.w.box
                  have c3 := wbox3 HX10.out.w.box
                  have c4 := wbox4 HX10.out.w.box
                  have q0 := HQ10.out.c0
                  have q1 := HQ10.out.c1
                  have r0 := HR10.out.c0
                  have r1 := HR10.out.c1
                  go_wp2_with fail
                  clear c0 c1 c2 c3 c4 q0 q1 r0 r1
                  with_reducible refine HC.out.mono ?_
                  rintro e V11 ⟨rfl, h11⟩
                  have HQ11 := Lib.hid (HQ10.out.below h11.out)
                  have HR11 := Lib.hid (HR10.out.below h11.out)
                  have HB11 := Lib.hid (below_next HB10.out h11.out)
                  have HC := Lib.hid (pequal_b q q2 V11 HQ11.out.at_ HR11.out.at_ HEQ.out.2.1 HEQ.out.2.2)
                  clear HX10 HQ10 HR10 HB10 h11
                  have q0 := HQ11.out.c0
                  have q1 := HQ11.out.c1
                  have r0 := HR11.out.c0
                  have r1 := HR11.out.c1
                  go_wp2_with fail
                  clear q0 q1 r0 r1
                  with_reducible refine HC.out.mono ?_
                  rintro e V12 ⟨rfl, h12⟩
                  have HB12 := Lib.hid (below_next HB11.out h12.out)
                  go_wp2
                  go_ret
                  exact ⟨rfl, HB12.out⟩
            · obtain rfl : t = k := by have := HTK.out; omega
              clear htk
              have HHC : Hid (∀ j : Nat, j = j) := fun j => rfl
              have wr2 : IntKind.i64.wrap ((t : Int) + (j : Int)) = (t : Int) + (j : Int) := by have h1 := HK4.out; have h2 := HJ4.out; exact IntWalk.i64_in _ (by omega)
              have hc := imp_yes x p V7 z (t + j) HCK.out (by have h1 := HK4.out; have h2 := HJ4.out; omega) HX7.out.w.at_ HX7.out.p.at_
              rw [Int.natCast_add] at hc
              have HC := Lib.hid hc
              clear hc HHC
              have c0 := wbox0 HX7.out.w.box
              have c1 := wbox1 HX7.out.w.box
              have c2 := wbox2 HX7.out.w.box
              have c3 := wbox3 HX7.out.w.box
              have c4 := wbox4 HX7.out.w.box
              have a0 := HX7.out.p.c0
              have a1 := HX7.out.p.c1
              go_wp2_with fail
              clear c0 c1 c2 c3 c4 a0 a1
              with_reducible refine HC.out.mono ?_
              rintro e V10 ⟨q2, t2, rfl, hgo, h10⟩
              have HMO := Lib.hid (HIM.out.more (imp_of HCK.out hgo h10.out.2.2.1 HX7.out.p.at_.ul h10.out.2.1.at_.ul) HQ7.out.at_.ul h10.out.2.1.at_.ul)
              have HX10 := Lib.hid ((HX7.out.below h10.out.1).below (below_alloc V10 (.cells #[.slice q2.rA q2.rm q2.rc, .slice q2.uA q2.um q2.uc] 32)))
              have HQ10 := Lib.hid ((HQ7.out.below h10.out.1).below (below_alloc V10 (.cells #[.slice q2.rA q2.rm q2.rc, .slice q2.uA q2.um q2.uc] 32)))
              have HB10 := Lib.hid (below_more (below_next HB7.out h10.out.1) (.cells #[.slice q2.rA q2.rm q2.rc, .slice q2.uA q2.um q2.uc] 32))
              have HR10 : Hid (PX (V10.alloc (.cells #[.slice q2.rA q2.rm q2.rc, .slice q2.uA q2.um q2.uc] 32)) V10.heap.size q2) := PX.new h10.out.2.1.at_
              clear HX7 HQ7 HB7 HC hgo h10
              have d10 : decide ((t : Int) ≤ (t2 : Int)) = true := decide_eq_true (by have := HMO.out.1; omega)
              have d11 : decide (t ≤ t2) = true := decide_eq_true HMO.out.1
              have HC := Lib.hid (less_b x q q2 _ false HMO.out.2.1 HX10.out.w.at_ HQ10.out.at_ HR10.out.at_)
              have c0 := wbox0 HX10.out.w.box
              have c1 := wbox1 HX10.out.w.box
              have c2 := wbox2 HX10.out.w.box
              have c3 := wbox3 HX10.out.w.box
              have c4 := wbox4 HX10.out.w.box
              have q0 := HQ10.out.c0
              have q1 := HQ10.out.c1
              have r0 := HR10.out.c0
              have r1 := HR10.out.c1
              go_wp2_with fail
              clear c0 c1 c2 c3 c4 q0 q1 r0 r1
              with_reducible refine HC.out.mono ?_
              rintro e V11 ⟨rfl, h11⟩
              have HB11 := Lib.hid (below_next HB10.out h11.out)
              go_wp2
              go_ret
              exact ⟨rfl, HB11.out⟩
          | false =>
            have HC := Lib.hid (less_b x q p V7 true HLS.out HX7.out.w.at_ HQ7.out.at_ HX7.out.p.at_)
            clear HLS
            have c0 := wbox0 HX7.out.w.box
            have c1 := wbox1 HX7.out.w.box
            have c2 := wbox2 HX7.out.w.box
            have c3 := wbox3 HX7.out.w.box
            have c4 := wbox4 HX7.out.w.box
            have a0 := HX7.out.p.c0
            have a1 := HX7.out.p.c1
            have q0 := HQ7.out.c0
            have q1 := HQ7.out.c1
            go_wp2_with fail
            clear c0 c1 c2 c3 c4 a0 a1 q0 q1
            with_reducible refine HC.out.mono ?_
            rintro e V8 ⟨rfl, h8⟩
            have HX8 := Lib.hid (HX7.out.below h8.out)
            have HQ8 := Lib.hid (HQ7.out.below h8.out)
            have HB8 := Lib.hid (below_next HB7.out h8.out)
            clear HX7 HQ7 HB7 HC h8
            by_cases htk : t < k
            · have d7 : decide (t < k) = true := decide_eq_true htk
              have d8 : decide ((t : Int) < (k : Int)) = true := decide_eq_true (by omega)
              have HLT := Lib.hid htk
              have HC := Lib.hid (moves_yes x q V8 z2 HZ2.out HX8.out.w.at_ HQ8.out.at_ HQC.out)
              clear htk
              have c0 := wbox0 HX8.out.w.box
              have c1 := wbox1 HX8.out.w.box
              have c2 := wbox2 HX8.out.w.box
              have c3 := wbox3 HX8.out.w.box
              have c4 := wbox4 HX8.out.w.box
              have q0 := HQ8.out.c0
              have q1 := HQ8.out.c1
              go_wp2_with fail
              clear c0 c1 c2 c3 c4 q0 q1 d7 d8
              with_reducible refine HC.out.mono ?_
              rintro e V9 ⟨A9, m9, c9, l9, rfl, h9⟩
              have HX9 := Lib.hid (HX8.out.below h9.out.1)
              have HQ9 := Lib.hid (HQ8.out.below h9.out.1)
              have HB9 := Lib.hid (below_next HB8.out h9.out.1)
              have HROW : Hid (RowsP V9 A9 l9 ∧ l9.length = m9) := by
                obtain ⟨A, c, he, _, _, h1, _⟩ := h9.out.2.1.row
                injection he with e1 e2 e3
                rw [e1]
                exact ⟨h1, e2.symm⟩
              have hm9 : m9 ≤ 9223372036854775807 := by
                obtain ⟨A, c, he, h1, h2, _⟩ := h9.out.2.1.row
                unfold maxLen at h2
                rw [← HROW.out.2]
                omega
              have HMV : Hid (∀ r ∈ l9, PAt V9 r ∧ lessP x r q = false) := fun r hr => by
                have h1 := h9.out.2.2.1 r hr
                refine ⟨h1.1.at_, HIM.out.moves HLT.out HQ9.out.at_.ul ?_ h1.2.1 h1.1.at_.ul⟩
                rw [← h9.out.2.2.2]
                exact List.mem_map.2 ⟨r, hr, rfl⟩
              clear HX8 HQ8 HB8 HC h9
              go_wp2_with fail
              go_loopg [90] m9 (fun gk s90 Wx => ∃ (i : Nat) (W : World), W = Wx ∧ i + gk = m9 ∧ s90 = .int .i64 i ∧ Hid (Below V9.heap.size V9 W))
              case atStart => exact ⟨0, _, rfl, by omega, rfl, Below.refl _ _⟩
              case round =>
                obtain ⟨i, W, rfl, hig, rfl, HK⟩ := hrel
                have HXW := Lib.hid (HX9.out.below HK.out)
                have HQW := Lib.hid (HQ9.out.below HK.out)
                have HBW := Lib.hid (below_next HB9.out HK.out)
                by_cases hlt : i < m9
                · obtain ⟨gk, rfl⟩ : ∃ j, gk = j + 1 := ⟨gk - 1, by omega⟩
                  obtain ⟨r, hr⟩ := mlist_at l9 i (by rw [HROW.out.2]; exact hlt)
                  obtain ⟨ad, hA, a0, a1⟩ := (HROW.out.1.below HK.out) i r hr
                  have HR9 := Lib.hid (HMV.out r (List.mem_of_getElem? hr))
                  have i2 : (i : Int) < (m9 : Int) := by omega
                  have HXU : Hid (OW (W.alloc (.cells #[.slice r.rA r.rm r.rc, .slice r.uA r.um r.uc] 32)) b1 b2 x p) := HXW.out.below (below_alloc _ _)
                  have HQU : Hid (PX (W.alloc (.cells #[.slice r.rA r.rm r.rc, .slice r.uA r.um r.uc] 32)) bq q) := HQW.out.below (below_alloc _ _)
                  have HRU : Hid (PX (W.alloc (.cells #[.slice r.rA r.rm r.rc, .slice r.uA r.um r.uc] 32)) W.heap.size r) := PX.new (HR9.out.1.below HK.out)
                  have HKU : Hid (Below V9.heap.size V9 (W.alloc (.cells #[.slice r.rA r.rm r.rc, .slice r.uA r.um r.uc] 32))) := below_more HK.out _
                  have HC := Lib.hid (less_b x r q _ false HR9.out.2 HXU.out.w.at_ HRU.out.at_ HQU.out.at_)
                  obtain rfl := hA
                  clear hr
                  have c0 := wbox0 HXU.out.w.box
                  have c1 := wbox1 HXU.out.w.box
                  have c2 := wbox2 HXU.out.w.box
                  have c3 := wbox3 HXU.out.w.box
                  have c4 := wbox4 HXU.out.w.box
                  have q0 := HQU.out.c0
                  have q1 := HQU.out.c1
                  have r0 := HRU.out.c0
                  have r1 := HRU.out.c1
                  go_wp2_with fail
                  clear c0 c1 c2 c3 c4 q0 q1 r0 r1 a0 a1
                  with_reducible refine HC.out.mono ?_
                  rintro e W3 ⟨rfl, h3⟩
                  have HK3 := Lib.hid (below_next HKU.out h3.out)
                  go_wp2
                  go_roundg gk
                  case measure => omega
                  case rel => exact ⟨i + 1, _, rfl, by omega, by first | rfl | go_num, HK3.out⟩
                · obtain rfl : i = m9 := by omega
                  clear HX9 HQ9 HB9 HROW HMV HK
                  have hlt2 : ¬ (k : Int) = (t : Int) := by have := HLT.out; omega
                  have d9 : ((t : Int) == (k : Int)) = false := beq_eq_false_iff_ne.2 (by have := HLT.out; omega)
                  have wr : IntKind.i64.wrap ((k : Int) + (j : Int)) = ((k + j : Nat) : Int) := by have h1 := HK4.out; have h2 := HJ4.out; rw [IntWalk.i64_in _ (by omega)]; omega
                  have wr2 : IntKind.i64.wrap ((k : Int) + (j : Int)) = (k : Int) + (j : Int) := by have h1 := HK4.out; have h2 := HJ4.out; exact IntWalk.i64_in _ (by omega)
                  have hc := imp_yes x p W z (k + j) HCK.out (by have h1 := HK4.out; have h2 := HJ4.out; omega) HXW.out.w.at_ HXW.out.p.at_
                  rw [Int.natCast_add] at hc
                  have HC := Lib.hid hc
                  clear hc
                  have c0 := wbox0 HXW.out.w.box
                  have c1 := wbox1 HXW.out.w.box
                  have c2 := wbox2 HXW.out.w.box
                  have c3 := wbox3 HXW.out.w.box
                  have c4 := wbox4 HXW.out.w.box
                  have a0 := HXW.out.p.c0
                  have a1 := HXW.out.p.c1
                  clear hlt2
                  go_wp2_with fail
                  clear c0 c1 c2 c3 c4 a0 a1
                  with_reducible refine HC.out.mono ?_
                  rintro e V10 ⟨q2, t2, rfl, hgo, h10⟩
                  have HMO := Lib.hid (HIM.out.more (imp_of HCK.out hgo h10.out.2.2.1 HXW.out.p.at_.ul h10.out.2.1.at_.ul) HQW.out.at_.ul h10.out.2.1.at_.ul)
                  have HX10 := Lib.hid ((HXW.out.below h10.out.1).below (below_alloc V10 (.cells #[.slice q2.rA q2.rm q2.rc, .slice q2.uA q2.um q2.uc] 32)))
                  have HQ10 := Lib.hid ((HQW.out.below h10.out.1).below (below_alloc V10 (.cells #[.slice q2.rA q2.rm q2.rc, .slice q2.uA q2.um q2.uc] 32)))
                  have HB10 := Lib.hid (below_more (below_next HBW.out h10.out.1) (.cells #[.slice q2.rA q2.rm q2.rc, .slice q2.uA q2.um q2.uc] 32))
                  have HR10 : Hid (PX (V10.alloc (.cells #[.slice q2.rA q2.rm q2.rc, .slice q2.uA q2.um q2.uc] 32)) V10.heap.size q2) := PX.new h10.out.2.1.at_
                  have HEQ : Hid (t2 = t ∧ ros q.rs = ros q2.rs ∧ q.us = q2.us) := HMO.out.2.2.resolve_left (by have := HLT.out; omega)
                  have htt := HEQ.out.1
                  subst htt
                  clear HXW HQW HBW HC hgo h10
                  have HC := Lib.hid (less_b x q q2 _ false HMO.out.2.1 HX10.out.w.at_ HQ10.out.at_ HR10.out.at_)
                  have c0 := wbox0 HX10.out.w.box
                  have c1 := wbox1 HX10.out.w.box
                  have c2 := wbox2 HX10.out.w.box
                  have c3 := wbox3 HX10.out.w.box
                  have c4 := wbox4 HX10.out.w.box
                  have q0 := HQ10.out.c0
                  have q1 := HQ10.out.c1
                  have r0 := HR10.out.c0
                  have r1 := HR10.out.c1
                  go_wp2_with fail
                  clear c0 c1 c2 c3 c4 q0 q1 r0 r1
                  with_reducible refine HC.out.mono ?_
                  rintro e V11 ⟨rfl, h11⟩
                  have HQ11 := Lib.hid (HQ10.out.below h11.out)
                  have HR11 := Lib.hid (HR10.out.below h11.out)
                  have HB11 := Lib.hid (below_next HB10.out h11.out)
                  have HC := Lib.hid (pequal_b q q2 V11 HQ11.out.at_ HR11.out.at_ HEQ.out.2.1 HEQ.out.2.2)
                  clear HX10 HQ10 HR10 HB10 h11
                  have q0 := HQ11.out.c0
                  have q1 := HQ11.out.c1
                  have r0 := HR11.out.c0
                  have r1 := HR11.out.c1
                  go_wp2_with fail
                  clear q0 q1 r0 r1
                  with_reducible refine HC.out.mono ?_
                  rintro e V12 ⟨rfl, h12⟩
                  have HB12 := Lib.hid (below_next HB11.out h12.out)
                  go_wp2
                  go_ret
                  exact ⟨rfl, HB12.out⟩
            · obtain rfl : t = k := by have := HTK.out; omega
              clear htk
              have HHC : Hid (∀ j : Nat, j = j) := fun j => rfl
              have wr2 : IntKind.i64.wrap ((t : Int) + (j : Int)) = (t : Int) + (j : Int) := by have h1 := HK4.out; have h2 := HJ4.out; exact IntWalk.i64_in _ (by omega)
              have hc := imp_yes x p V8 z (t + j) HCK.out (by have h1 := HK4.out; have h2 := HJ4.out; omega) HX8.out.w.at_ HX8.out.p.at_
              rw [Int.natCast_add] at hc
              have HC := Lib.hid hc
              clear hc HHC
              have c0 := wbox0 HX8.out.w.box
              have c1 := wbox1 HX8.out.w.box
              have c2 := wbox2 HX8.out.w.box
              have c3 := wbox3 HX8.out.w.box
              have c4 := wbox4 HX8.out.w.box
              have a0 := HX8.out.p.c0
              have a1 := HX8.out.p.c1
              go_wp2_with fail
              clear c0 c1 c2 c3 c4 a0 a1
              with_reducible refine HC.out.mono ?_
              rintro e V10 ⟨q2, t2, rfl, hgo, h10⟩
              have HMO := Lib.hid (HIM.out.more (imp_of HCK.out hgo h10.out.2.2.1 HX8.out.p.at_.ul h10.out.2.1.at_.ul) HQ8.out.at_.ul h10.out.2.1.at_.ul)
              have HX10 := Lib.hid ((HX8.out.below h10.out.1).below (below_alloc V10 (.cells #[.slice q2.rA q2.rm q2.rc, .slice q2.uA q2.um q2.uc] 32)))
              have HQ10 := Lib.hid ((HQ8.out.below h10.out.1).below (below_alloc V10 (.cells #[.slice q2.rA q2.rm q2.rc, .slice q2.uA q2.um q2.uc] 32)))
              have HB10 := Lib.hid (below_more (below_next HB8.out h10.out.1) (.cells #[.slice q2.rA q2.rm q2.rc, .slice q2.uA q2.um q2.uc] 32))
              have HR10 : Hid (PX (V10.alloc (.cells #[.slice q2.rA q2.rm q2.rc, .slice q2.uA q2.um q2.uc] 32)) V10.heap.size q2) := PX.new h10.out.2.1.at_
              clear HX8 HQ8 HB8 HC hgo h10
              have d10 : decide ((t : Int) ≤ (t2 : Int)) = true := decide_eq_true (by have := HMO.out.1; omega)
              have d11 : decide (t ≤ t2) = true := decide_eq_true HMO.out.1
              have HC := Lib.hid (less_b x q q2 _ false HMO.out.2.1 HX10.out.w.at_ HQ10.out.at_ HR10.out.at_)
              have c0 := wbox0 HX10.out.w.box
              have c1 := wbox1 HX10.out.w.box
              have c2 := wbox2 HX10.out.w.box
              have c3 := wbox3 HX10.out.w.box
              have c4 := wbox4 HX10.out.w.box
              have q0 := HQ10.out.c0
              have q1 := HQ10.out.c1
              have r0 := HR10.out.c0
              have r1 := HR10.out.c1
              go_wp2_with fail
              clear c0 c1 c2 c3 c4 q0 q1 r0 r1
              with_reducible refine HC.out.mono ?_
              rintro e V11 ⟨rfl, h11⟩
              have HB11 := Lib.hid (below_next HB10.out h11.out)
              go_wp2
              go_ret
              exact ⟨rfl, HB11.out⟩
    · have e1 : (er != (0 : Int)) = true := bne_iff_ne.2 he
      have HC0 : Hid (z = 0) := by
        have := Pl.check_zero (N := x.N) (D := x.D) (T := x.T) (os := x.os) (ts := x.ts) (rs := ros p.rs) (us := p.us) (by rw [HCK.out]; exact he)
        rw [HCK.out] at this
        exact this
      obtain rfl := HC0.out
      have HC := Lib.hid (imp_check x p V2 er n hck he HX2.out.w.at_ HX2.out.p.at_)
      clear hck d3 d4
      with_reducible refine HC.out.mono ?_
      rintro e V3 ⟨rfl, h3⟩
      have HB3 := Lib.hid (below_more (below_next HB2.out h3.out) (.cells #[.slice none 0 0, .slice none 0 0] 32))
      clear he
      go_wp2_with fail
      go_ret
      exact ⟨rfl, HB3.out⟩

set_option maxRecDepth 100000 in
theorem lifted (os : Os) (started : os.Started) (H : Type) (enc : TypeId × Value → H) :
    ReturnsInHanded {} Tryz.checked os 5 .any (Rows.betterNotSpec.pre6 enc Tryz.prog Tryz.f5 Rows.betterNotRow.domain false) (Rows.betterNotSpec.post enc Tryz.prog Tryz.f5 false true false false) := by
  refine returnsInHanded_of_change_sized (C := Tryz.checked) own started (by kernel_rfl) Tryz.func5
    (ChangeSpec.witness6 (enc := enc) (C := Tryz.checked) false ⟨#[], #[.agg #[.int .i64 0, .slice none 0 0, .slice none 0 0, .slice none 0 0, .slice none 0 0], .agg #[.slice none 0 0, .slice none 0 0], .int .i64 0, .int .i64 0], []⟩ 8 (by kernel_rfl) (by kernel_rfl) (by kernel_rfl) (by kernel_rfl)) ?_
  intro W base args ds gs before hval0 hW _ hsz0 _
  have hsz : (DataW.weightsEach Tryz.prog (Tryz.f5.params.toList ++ Rows.betterNotSpec.plain.varTypes Tryz.prog) (ds ++ gs)).all (· ≤ reachBytes) = true := hsz0
  have hval : ∀ (j : Nat) t v, Tryz.f5.params[j]? = some t → args[j]? = some v → Value.okWide Tryz.prog W .any base t v := hval0
  have hW' := hW
  obtain ⟨p, q, hA0, hV, rfl, hfz, hnd⟩ := hW
  have hA : DataW.TrodAll enc Tryz.prog W 0 (fun _ => true) true Tryz.f5.params.toList args.toList ds p := hA0
  rw [Tryz.params5] at hA hval hsz
  obtain ⟨v0, vs0, d0, ds0, p0, q0, hargs, rfl, rfl, h0, r0⟩ := trodAll_cons hA
  obtain ⟨v1, vs1, d1, ds1, p1, q1, rfl, rfl, rfl, h1, r1⟩ := trodAll_cons r0
  obtain ⟨v2, vs2, d2, ds2, p2, q2, rfl, rfl, rfl, h2, r2⟩ := trodAll_cons r1
  obtain ⟨v3, vs3, d3, ds3, p3, q3, rfl, rfl, rfl, h3, r3⟩ := trodAll_cons r2
  obtain ⟨rfl, rfl, rfl⟩ := trodAll_nil r3
  obtain rfl : args = #[v0, v1, v2, v3] := by cases args; simp_all
  obtain ⟨rfl, rfl⟩ := trodVars_none hV
  have k0 := h0
  have lt0 : ∀ x ∈ p0, x.block < W.heap.size := by obtain ⟨m, hm⟩ := k0; exact DataW.trod_lt m _ _ _ hm
  obtain ⟨x0, rfl, hv0⟩ := open_world_in (hval 0 28 v0 rfl rfl) h0
  have k1 := h1
  have lt1 : ∀ x ∈ p1, x.block < W.heap.size := by obtain ⟨m, hm⟩ := k1; exact DataW.trod_lt m _ _ _ hm
  obtain ⟨x1, rfl, hv1, hw1⟩ := open_plan_in (hval 1 32 v1 rfl rfl) h1
  have hs1 : Few x1 := fun r hr => by
    have hsc := (hv1.ra r hr).sc
    rcases hw1 r hr with h0 | hin
    · omega
    · have := List.all_eq_true.1 hsz _ (DataW.weights_mem_each (j := 1) (t := 32) (d := d1) rfl rfl _ hin)
      have h2 : r.sc * 8 ≤ reachBytes := by simpa using this
      have h3 := reachBytes_lt
      omega
  obtain ⟨a2, rfl, rfl, rfl, w2⟩ := open_int Tryz.underlying3 (hval 2 3 v2 rfl rfl) h2
  obtain ⟨a3, rfl, rfl, rfl, w3⟩ := open_int Tryz.underlying3 (hval 3 3 v3 rfl rfl) h3
  clear hA0 hval0
  refine (walk x0 hv0 x1 hv1 hs1 a2 w2 a3 w3).mono fun e W' ⟨he, bel⟩ => ?_
  subst he
  exact ⟨_, rfl, _, _, _, [], _, [], hW', trodAll_mk1 (shut_bool Tryz.underlying4 _), (trodAll_cons_mk (Below.trod laidOut (by kernel_rfl) (of_decide_eq_true (by kernel_rfl)) k0 bel lt0) (trodAll_cons_mk (Below.trod laidOut (by kernel_rfl) (of_decide_eq_true (by kernel_rfl)) k1 bel lt1) (trodAll_cons_mk (shut_int Tryz.underlying3 w2) (trodAll_cons_mk (shut_int Tryz.underlying3 w3) trodAll_mk0)))), rfl, bel.frame _, fun h => by cases h⟩

theorem over : Rows.betterNotRow.holds Tryz.pinned (OpenSpec.ofChange Rows.betterNotSpec) :=
  OpenClaim.holds_of_wide 5 Tryz.f5 rfl rfl rfl rfl rfl rfl rfl ⟨rfl, rfl, rfl, rfl, rfl⟩ rfl rfl rfl rfl rfl (by kernel_rfl) Tryz.func5 (by kernel_rfl)
    (of_decide_eq_true (by kernel_rfl)) (by unfold Func.isWrapper; first | (rw [if_pos (by decide +kernel)]; kernel_rfl) | (rw [if_neg (by decide +kernel)]; exact ⟨rfl, rfl⟩))
    (fun os started H enc _ => lifted os started H enc)

theorem proved : Rows.BetterNotSaid := over
end Go.Proofs.YtgjmlnpfkmpfgaaGreat.betterNot
