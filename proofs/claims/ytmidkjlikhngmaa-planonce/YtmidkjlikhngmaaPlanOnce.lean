/- Every call of the law that a plan that may be serves each order at most once, lists every other one, and has no truck twice, answers true: for every world and plan. No conditions. -/
import Derived.Test.YtmidkjlikhngmaaRows
import Derived.Test.YtmidkjlikhngmaaPlanMap
import Derived.WalkKit
import Derived.ProofKit
import Derived.OpenShut
import Derived.ShutString
import Derived.ChangeOld
import Derived.Below
import Derived.SizedLaws
namespace Go.Proofs.Ytmidkjlikhngmaa.planOnce
open Go.ChangeShapes Go.WideShapes Go.ChangeAt Go.RowKit
open Go.ChangeMaps (open_string shut_string)
set_option linter.unusedVariables false

theorem own : ownKnob Try.prog.godebug = none := by kernel_rfl
theorem laidOut : laidOutB Try.prog = true := by kernel_rfl

open Go.Proofs.Ytmidkjlikhngmaa Go.Maps
set_option maxRecDepth 100000

/-- the boxes of the law -/
structure OB (V : World) (b1 b2 : Nat) (x : Wd) (p : Pd) : Prop where
  w : Box V b1 x.cells 28
  p : Box V b2 p.cells 32
theorem OB.below {V V' : World} {b1 b2 : Nat} {x : Wd} {p : Pd} (h : OB V b1 b2 x p) (hb : Below V.heap.size V V') : OB V' b1 b2 x p := ⟨h.w.below hb, h.p.below hb⟩
theorem OB.new (w : World) (x : Wd) (p : Pd) : OB ((w.alloc (.cells #[.int .i64 x.N, .slice x.dA x.dm x.dc, .slice x.tA x.tm x.tc, .slice x.A x.m x.c, .slice x.B x.k x.d] 28)).alloc (.cells #[.slice p.rA p.rm p.rc, .slice p.uA p.um p.uc] 32)) w.heap.size (w.heap.size + 1) x p :=
  ⟨(Box.new w _ _).below (below_alloc _ _), box_new_at _ _ _ _ (by simp)⟩

set_option maxHeartbeats 20000000 in
theorem walk {w : World} (x : Wd) (hx : WorldIn w x) (p : Pd) (hp : PlanIn w p) (fp : Few p) :
    Calls Try.prog 4 #[.agg #[.int .i64 x.N, .slice x.dA x.dm x.dc, .slice x.tA x.tm x.tc, .slice x.A x.m x.c, .slice x.B x.k x.d], .agg #[.slice p.rA p.rm p.rc, .slice p.uA p.um p.uc]] w fun e w' => e = .returned (.bool true) ∧ Below w.heap.size w w' := by
  have HB0 : Hid (Below w.heap.size w ((w.alloc (.cells #[.int .i64 x.N, .slice x.dA x.dm x.dc, .slice x.tA x.tm x.tc, .slice x.A x.m x.c, .slice x.B x.k x.d] 28)).alloc (.cells #[.slice p.rA p.rm p.rc, .slice p.uA p.um p.uc] 32))) := below_more (below_alloc _ _) _
  have HX := Lib.hid (OB.new w x p)
  have HWI := Lib.hid hx
  have HPI : Hid (Plans w [p]) := ⟨by simp only [List.mem_cons, List.not_mem_nil, or_false]; rintro q rfl; exact hp, by simp only [List.mem_cons, List.not_mem_nil, or_false]; rintro q rfl; exact fp⟩
  clear hx hp fp
  have hmm := @run_makeMap Try.prog
  go_enter Try.func4, Try.ntmps4
  go_wp2_with fail
  generalize ((w.alloc (.cells #[.int .i64 x.N, .slice x.dA x.dm x.dc, .slice x.tA x.tm x.tc, .slice x.A x.m x.c, .slice x.B x.k x.d] 28)).alloc (.cells #[.slice p.rA p.rm p.rc, .slice p.uA p.um p.uc] 32)) = V at *
  generalize w.heap.size + 1 = b2 at *
  generalize hb1 : w.heap.size = b1 at HX ⊢
  have HBE := Lib.hid hb1
  clear hb1
  with_reducible refine (awake_any _).mono ?_
  rintro e V1 ⟨rfl, hv1⟩
  have HX1 := Lib.hid (HX.out.below hv1)
  have HB1 := Lib.hid (below_next HB0.out hv1)
  clear hv1 HX HB0
  obtain ⟨r, hr⟩ : ∃ r : Bool, r = true ↔ LargeL x [p] := by
    by_cases h : LargeL x [p]
    · exact ⟨true, by simp [h]⟩
    · exact ⟨false, by simp [h]⟩
  have HR := Lib.hid hr
  have HBL := Lib.hid (below_more HB1.out (.cells #[.slice p.rA p.rm p.rc, .slice p.uA p.um p.uc] 32))
  have HC := Lib.hid (llarge_b x (some ⟨V1.heap.size, 0, none⟩) 1 1 [p] (V1.alloc (.cells #[.slice p.rA p.rm p.rc, .slice p.uA p.um p.uc] 32)) r hr (WorldIn.below HWI.out HBL.out) rfl (by omega) (rowsP_box (ps := [p]) (Box.new V1 _ _)) (HPI.out.below HBL.out))
  clear hr
  have c0 := wbox0 HX1.out.w
  have c1 := wbox1 HX1.out.w
  have c2 := wbox2 HX1.out.w
  have c3 := wbox3 HX1.out.w
  have c4 := wbox4 HX1.out.w
  have a0 := pbox0 HX1.out.p
  have a1 := pbox1 HX1.out.p
  go_wp2_with fail
  clear c0 c1 c2 c3 c4 a0 a1
  with_reducible refine HC.out.mono ?_
  rintro e V2 ⟨rfl, hv2⟩
  have HX2' := Lib.hid ((HX1.out.below (below_alloc _ (.cells #[.slice p.rA p.rm p.rc, .slice p.uA p.um p.uc] 32))).below hv2.out)
  have HB2 := Lib.hid (below_next HBL.out hv2.out)
  clear hv2 HX1 HB1 HBL HC
  cases r with
  | true =>
    clear hmm
    go_wp2_with fail
    go_ret
    exact ⟨rfl, HB2.out⟩
  | false =>
    have hnl : ¬ LargeL x [p] := fun h => by have := HR.out.2 h; cases this
    obtain ⟨nl, np⟩ := not_large hnl
    have HX2 : Hid (WPB V2 b1 b2 x p) := ⟨⟨HX2'.out.w, WorldIn.at_ (HWI.out.below HB2.out) nl⟩, ⟨HX2'.out.p, ((HPI.out.c p (by simp)).below HB2.out).at_ (np p (by simp))⟩⟩
    clear hnl nl np HR HX2' HWI HPI
    obtain ⟨c, hck⟩ : ∃ c, Pl.checkS x.N x.D x.T x.os x.ts (ros p.rs) p.us = c := ⟨_, rfl⟩
    have HCK := Lib.hid hck
    have HC := Lib.hid (check_b x p V2 c hck HX2.out.w.at_ HX2.out.p.at_)
    clear hck
    have c0 := HX2.out.w.c0
    have c1 := HX2.out.w.c1
    have c2 := HX2.out.w.c2
    have c3 := HX2.out.w.c3
    have c4 := HX2.out.w.c4
    have a0 := HX2.out.p.c0
    have a1 := HX2.out.p.c1
    go_wp2_with fail
    clear c0 c1 c2 c3 c4 a0 a1
    with_reducible refine HC.out.mono ?_
    rintro e V3 ⟨rfl, hv3⟩
    have HX3 := Lib.hid (HX2.out.below hv3.out)
    have HB3 := Lib.hid (below_next HB2.out hv3.out)
    clear hv3 HX2 HB2 HC
    obtain ⟨cost, er⟩ := c
    by_cases he : er = 0
    · subst he
      have e1 : ((0 : Int) != (0 : Int)) = false := by decide
      have HMAY : Hid (Pl.May x.N x.D x.T x.os x.ts (ros p.rs) p.us) := (Pl.may_of (by rw [HCK.out])).1
      clear HCK
      have hrm := HX3.out.p.at_.r2
      have hum := HX3.out.p.at_.u2
      have hxm := HX3.out.w.at_.m2
      have HRL : Hid ((ros p.rs).length = p.rm) := by unfold Hid; rw [ros_len]; exact HX3.out.p.at_.rl
      have HUL := Lib.hid HX3.out.p.at_.ul
      have HOL := Lib.hid HX3.out.w.at_.ml
      have HTOT := Lib.hid HX3.out.p.at_.tot
      have HM0 : Hid (Below V3.heap.size V3 ((V3.alloc (.map #[] 0)).alloc (.map #[] 0)) ∧ Met 3 (.int .i64 1) (.int .i64 0) ((V3.alloc (.map #[] 0)).alloc (.map #[] 0)) V3.heap.size [] ∧ Met 4 (.bool true) (.bool false) ((V3.alloc (.map #[] 0)).alloc (.map #[] 0)) (V3.heap.size + 1) []) := by
        refine ⟨below_more (below_alloc _ _) _, (Met.made _ _ _ _).below (below_alloc _ _), ?_⟩
        rw [size_one V3 (.map #[] 0)]
        exact Met.made _ _ _ _
      have a0' : ((V3.alloc (.map #[] 0)).alloc (.map #[] 0)).cell? ⟨b2, 0, none⟩ = some (.slice p.rA p.rm p.rc) := (HX3.out.below HM0.out.1).p.c0
      go_wp2_with fail
      generalize (V3.alloc (.map #[] 0)).alloc (.map #[] 0) = V4 at *
      have HN1 : Hid (V3.heap.size ≠ V3.heap.size + 1) := by unfold Hid; omega
      have HN2 : Hid (V3.heap.size ≤ V3.heap.size + 1) := by unfold Hid; omega
      generalize V3.heap.size + 1 = m2 at *
      obtain ⟨m1, hm1⟩ : ∃ m, V3.heap.size = m := ⟨_, rfl⟩
      rw [hm1] at HM0 HN1 HN2 ⊢
      have HME := Lib.hid hm1
      clear hmm a0' hm1
      go_loopg [40] p.rm (fun gk s40 W => ∃ (k : Nat) (W0 : World), W0 = W ∧ k + gk = p.rm ∧ s40 = .int .i64 k ∧ Hid (Below m1 V3 W0) ∧ Hid (Met 3 (.int .i64 1) (.int .i64 0) W0 m1 (Pl.stops ((ros p.rs).take k))) ∧ Hid (Met 4 (.bool true) (.bool false) W0 m2 (Pl.trs ((ros p.rs).take k))))
      case atStart => exact ⟨0, _, rfl, by omega, rfl, HM0.out.1, HM0.out.2.1, HM0.out.2.2⟩
      case round =>
        obtain ⟨k, W0, rfl, hkg, rfl, HK, HT, HTR⟩ := hrel
        have HK' : Hid (Below V3.heap.size V3 W0) := by rw [HME.out]; exact HK.out
        by_cases hlt : k < p.rm
        · obtain ⟨go, rfl⟩ : ∃ j, gk = j + 1 := ⟨gk - 1, by omega⟩
          obtain ⟨r, hr⟩ := mlist_at p.rs k (by rw [HX3.out.p.at_.rl]; exact hlt)
          have HX4 := Lib.hid (HX3.out.below HK'.out)
          obtain ⟨ad, hrA, hc, hra⟩ := HX4.out.p.at_.at_ hr
          obtain ⟨c0, c1⟩ := hc
          have i2 : (k : Int) < (p.rm : Int) := by omega
          have HRK := Lib.hid (ros_at hr)
          have HRP := Lib.hid hr
          have HX5 := Lib.hid (HX4.out.below (below_alloc W0 (.cells #[.int .i64 r.tr, .slice r.sA r.sm r.sc] 44)))
          have hre : (Pl.run x.N x.D x.T x.os x.ts r.ro).e = 0 := HMAY.out.tp r.ro (List.mem_of_getElem? (ros_at hr))
          obtain ⟨res, hres⟩ : ∃ z, Pl.run x.N x.D x.T x.os x.ts r.ro = z := ⟨_, rfl⟩
          rw [hres] at hre
          have e2 : (res.e != (0 : Int)) = false := by rw [hre]; decide
          have HC := Lib.hid (run_b x r (W0.alloc (.cells #[.int .i64 r.tr, .slice r.sA r.sm r.sc] 44)) res hres HX5.out.w.at_ (hra.below (below_alloc _ _)))
          have HBX := Lib.hid (Box.new W0 #[.int .i64 r.tr, .slice r.sA r.sm r.sc] 44)
          have HB5 := Lib.hid (below_more HK'.out (.cells #[.int .i64 r.tr, .slice r.sA r.sm r.sc] 44))
          have HT5 := Lib.hid (HT.out.below (below_alloc W0 (.cells #[.int .i64 r.tr, .slice r.sA r.sm r.sc] 44)))
          have HTR5 := Lib.hid (HTR.out.below (below_alloc W0 (.cells #[.int .i64 r.tr, .slice r.sA r.sm r.sc] 44)))
          have HRIN : Hid (InR r.tr) := HMAY.out.truck_fits (x := r.tr) (List.mem_map.2 ⟨r.ro, List.mem_of_getElem? (ros_at hr), rfl⟩)
          have HTNEW : Hid (r.tr ∉ Pl.trs ((ros p.rs).take k)) := by
            have := Pl.new_of HMAY.out.tn (k := k) (x := r.tr) (by show (List.map _ _)[k]? = _; rw [List.getElem?_map, HRK.out]; rfl)
            unfold Pl.trs at this ⊢
            rw [List.map_take]
            exact this
          have HRA := Lib.hid hrA
          clear hr hrA hre hres
          have x0 := HX5.out.w.c0
          have x1 := HX5.out.w.c1
          have x2 := HX5.out.w.c2
          have x3 := HX5.out.w.c3
          have x4 := HX5.out.w.c4
          have HRAV := Lib.hid (HX3.out.p.at_.ra r (List.mem_of_getElem? HRP.out))
          clear hra
          generalize p.rA = rA at *
          obtain rfl := HRA.out
          go_wp2_with fail
          with_reducible refine HC.out.mono ?_
          rintro e w2 ⟨A2, c2, rfl, h2⟩
          clear x0 x1 x2 x3 x4 c0 c1 HC
          generalize res.vs.length = vn at *
          have HBX7 := Lib.hid ((HBX.out.below h2.out.1).below (below_alloc w2 (.cells #[.slice A2 vn c2, .int .i64 res.back, .int .i64 res.dist, .int .i64 res.cost] 40)))
          have HB7 := Lib.hid (below_more (below_next HB5.out h2.out.1) (.cells #[.slice A2 vn c2, .int .i64 res.back, .int .i64 res.dist, .int .i64 res.cost] 40))
          have HT7 := Lib.hid ((HT5.out.below h2.out.1).below (below_alloc w2 (.cells #[.slice A2 vn c2, .int .i64 res.back, .int .i64 res.dist, .int .i64 res.cost] 40)))
          have HTR7 := Lib.hid ((HTR5.out.below h2.out.1).below (below_alloc w2 (.cells #[.slice A2 vn c2, .int .i64 res.back, .int .i64 res.dist, .int .i64 res.cost] 40)))
          have hlook := Trucks.look HTR7.out HRIN.out false (decide_eq_false HTNEW.out)
          have HTL : Hid ((Pl.trs ((ros p.rs).take k)).length ≤ 100000) := by
            have h1 : (Pl.trs ((ros p.rs).take k)).length ≤ k := by unfold Pl.trs; rw [List.length_map]; exact List.length_take_le _ _
            unfold Hid; omega
          have HPT := Lib.hid (Trucks.put HTR7.out HTNEW.out HRIN.out HTL.out)
          have z0 := HBX7.out.cell 0 _ rfl
          have HG1 : Hid (W0.heap.size ≠ m2) := by have := HTR.out.lt; unfold Hid; omega
          have HC1 : Hid (∀ w4, Met 4 (.bool true) (.bool false) w4 m2 (Pl.trs ((ros p.rs).take k) ++ [r.tr]) ∧ (w2.alloc (.cells #[.slice A2 vn c2, .int .i64 res.back, .int .i64 res.dist, .int .i64 res.cost] 40)).grownBy w4 (some m2) → w4.cell? ⟨W0.heap.size, 1, none⟩ = some (.slice r.sA r.sm r.sc)) := fun w4 h => by
            have hb : Box w4 W0.heap.size #[.int .i64 r.tr, .slice r.sA r.sm r.sc] 44 := (grown_other h.2 _ HBX7.out.lt HG1.out).trans HBX7.out
            exact hb.cell 1 _ rfl
          clear h2 HBX HB5 HT5 HTR5
          go_wp2_with (at_mapUpdate; refine wpList_mapUpdate_any rfl (.tmp 58) (.tmp 60) (.const (.bool true)) 48 rfl _ _ _ rfl rfl rfl _ HPT.out ?_; intro w4 h4; have y1 := HC1.out w4 h4.out)
          have HB8 : Hid (Below m1 V3 w4) := Below.grown (by rw [← HME.out]; exact HB7.out) h4.out.2 (by rw [← HME.out]; exact HB7.out.size) (fun i e => by injection e with e; rw [← e]; exact HN2.out)
          have HT8 : Hid (Met 3 (.int .i64 1) (.int .i64 0) w4 m1 (Pl.stops ((ros p.rs).take k) ++ r.st.take 0)) := by
            rw [List.take_zero, List.append_nil]
            exact HT7.out.at_ (grown_other h4.out.2 _ HT7.out.lt HN1.out)
          have HTR8 : Hid (Met 4 (.bool true) (.bool false) w4 m2 (Pl.trs ((ros p.rs).take (k + 1)))) := by rw [Pl.trs_take HRK.out]; exact h4.out.1
          clear h4 HC1 hlook z0 y1 HPT HT7 HTR7 HB7 HBX7
          go_loopg [64] r.sm (fun gk s64 W => ∃ (j : Nat) (W1 : World), W1 = W ∧ j + gk = r.sm ∧ s64 = .int .i64 j ∧ Hid (Below m1 V3 W1) ∧ Hid (Met 3 (.int .i64 1) (.int .i64 0) W1 m1 (Pl.stops ((ros p.rs).take k) ++ r.st.take j)) ∧ Hid (Met 4 (.bool true) (.bool false) W1 m2 (Pl.trs ((ros p.rs).take (k + 1)))))
          case atStart => exact ⟨0, _, rfl, by omega, rfl, HB8.out, HT8.out, HTR8.out⟩
          case round =>
            obtain ⟨j, W1, rfl, hjg, rfl, HKj, HTj, HTRj⟩ := hrel
            have HKj' : Hid (Below V3.heap.size V3 W1) := by rw [HME.out]; exact HKj.out
            have hsm := HRAV.out.s2
            by_cases hjl : j < r.sm
            · obtain ⟨gi, rfl⟩ : ∃ i, gk = i + 1 := ⟨gk - 1, by omega⟩
              obtain ⟨id, hid⟩ := mlist_at r.st j (by rw [HRAV.out.sl]; exact hjl)
              obtain ⟨sd, hsA, hcs⟩ := (HRAV.out.st.below HKj'.out) j id hid
              have i4 : (j : Int) < (r.sm : Int) := by omega
              have HIN : Hid (InR id) := HMAY.out.fits (x := id) (List.mem_append_left _ (Pl.mem_stops_at HRK.out hid))
              have HNEW : Hid (id ∉ Pl.stops ((ros p.rs).take k) ++ r.st.take j) := HMAY.out.stop_new HRK.out hid
              have HSN : Hid (Pl.stops ((ros p.rs).take k) ++ r.st.take (j + 1) = Pl.stops ((ros p.rs).take k) ++ r.st.take j ++ [id]) := by
                unfold Hid
                rw [List.take_add_one, hid, List.append_assoc]
                rfl
              have HLL : Hid ((Pl.stops ((ros p.rs).take k) ++ r.st.take j).length ≤ 100000) := by
                have h1 := Pl.stops_le (ros p.rs) k
                have h2 := HTOT.out
                have h3 := List.length_take_le j r.st
                unfold Hid
                rw [List.length_append]
                omega
              have hlook := Times.look HTj.out HIN.out 0 (if_neg HNEW.out)
              have HPT := Lib.hid (Times.put HTj.out HNEW.out HIN.out HLL.out)
              have HSA := Lib.hid hsA
              clear hid hsA
              generalize r.sA = sA at *
              obtain rfl := HSA.out
              go_wp2_with (at_mapUpdate; refine wpList_mapUpdate_any rfl (.tmp 68) (.tmp 69) (.tmp 71) 47 rfl _ _ _ rfl rfl rfl _ HPT.out ?_; intro w5 h5)
              go_roundg gi
              case measure => omega
              case rel => exact ⟨j + 1, _, rfl, by omega, by first | rfl | go_num, Below.grown HKj.out h5.out.2 (Nat.le_of_lt HTj.out.lt) (fun i e => by injection e with e; rw [← e]; exact Nat.le_refl _), by rw [HSN.out]; exact h5.out.1, HTRj.out.at_ (grown_other h5.out.2 _ HTRj.out.lt HN1.out.symm)⟩
            · have HSE : Hid (Pl.stops ((ros p.rs).take k) ++ r.st.take j = Pl.stops ((ros p.rs).take (k + 1))) := by
                unfold Hid
                have e : r.st.take j = r.ro.st := List.take_of_length_le (by rw [HRAV.out.sl]; omega)
                rw [Pl.stops_take HRK.out, e]
              have HTE : Hid (Met 3 (.int .i64 1) (.int .i64 0) W1 m1 (Pl.stops ((ros p.rs).take (k + 1)))) := by rw [← HSE.out]; exact HTj.out
              go_wp2_with fail
              go_roundg go
              case measure => omega
              case rel => exact ⟨k + 1, _, rfl, by omega, by first | rfl | go_num, HKj.out, HTE.out, HTRj.out⟩
        · have HTA : Hid (Met 3 (.int .i64 1) (.int .i64 0) W0 m1 (Pl.stops (ros p.rs) ++ p.us.take 0)) := by
            have e : (ros p.rs).take k = ros p.rs := List.take_of_length_le (by rw [HRL.out]; omega)
            have h := HT.out
            rw [e] at h
            rw [List.take_zero, List.append_nil]
            exact h
          have y1 := (HX3.out.below HK'.out).p.c1
          clear HT HTR
          go_wp2_with fail
          clear y1
          go_loopg [77] p.um (fun gk s77 W => ∃ (j : Nat) (W1 : World), W1 = W ∧ j + gk = p.um ∧ s77 = .int .i64 j ∧ Hid (Below m1 V3 W1) ∧ Hid (Met 3 (.int .i64 1) (.int .i64 0) W1 m1 (Pl.stops (ros p.rs) ++ p.us.take j)))
          case atStart => exact ⟨0, _, rfl, by omega, rfl, HK.out, HTA.out⟩
          case round =>
            obtain ⟨j, W1, rfl, hjg, rfl, HKj, HTj⟩ := hrel
            have HKj' : Hid (Below V3.heap.size V3 W1) := by rw [HME.out]; exact HKj.out
            by_cases hjl : j < p.um
            · obtain ⟨gi, rfl⟩ : ∃ i, gk = i + 1 := ⟨gk - 1, by omega⟩
              obtain ⟨id, hid⟩ := mlist_at p.us j (by rw [HUL.out]; exact hjl)
              obtain ⟨sd, hsA, hcs⟩ := (HX3.out.p.at_.us.below HKj'.out) j id hid
              have i4 : (j : Int) < (p.um : Int) := by omega
              have HIN : Hid (InR id) := HMAY.out.fits (x := id) (List.mem_append_right _ (List.mem_of_getElem? hid))
              have HNEW : Hid (id ∉ Pl.stops (ros p.rs) ++ p.us.take j) := HMAY.out.un_new hid
              have HSN : Hid (Pl.stops (ros p.rs) ++ p.us.take (j + 1) = Pl.stops (ros p.rs) ++ p.us.take j ++ [id]) := by
                unfold Hid
                rw [List.take_add_one, hid, List.append_assoc]
                rfl
              have HLL : Hid ((Pl.stops (ros p.rs) ++ p.us.take j).length ≤ 100000) := by
                have h2 := HTOT.out
                have h3 := List.length_take_le j p.us
                unfold Hid
                rw [List.length_append]
                omega
              have hlook := Times.look HTj.out HIN.out 0 (if_neg HNEW.out)
              have HPT := Lib.hid (Times.put HTj.out HNEW.out HIN.out HLL.out)
              have HSA := Lib.hid hsA
              clear hid hsA
              generalize p.uA = sA at *
              obtain rfl := HSA.out
              go_wp2_with (at_mapUpdate; refine wpList_mapUpdate_any rfl (.tmp 81) (.tmp 82) (.tmp 84) 47 rfl _ _ _ rfl rfl rfl _ HPT.out ?_; intro w5 h5)
              go_roundg gi
              case measure => omega
              case rel => exact ⟨j + 1, _, rfl, by omega, by first | rfl | go_num, Below.grown HKj.out h5.out.2 (Nat.le_of_lt HTj.out.lt) (fun i e => by injection e with e; rw [← e]; exact Nat.le_refl _), by rw [HSN.out]; exact h5.out.1⟩
            · have HTE : Hid (Met 3 (.int .i64 1) (.int .i64 0) W1 m1 (Pl.stops (ros p.rs) ++ p.us)) := by
                have h := HTj.out
                rw [List.take_of_length_le (by rw [HUL.out]; omega)] at h
                exact h
              have x3 := (HX3.out.below HKj'.out).w.c3
              clear HTj
              go_wp2_with fail
              clear x3
              go_loopg [89] x.m (fun gk s89 W => ∃ (i : Nat) (W2 : World), W2 = W ∧ i + gk = x.m ∧ s89 = .int .i64 i ∧ Hid (Below m1 V3 W2) ∧ Hid (Met 3 (.int .i64 1) (.int .i64 0) W2 m1 (Pl.stops (ros p.rs) ++ p.us)))
              case atStart => exact ⟨0, _, rfl, by omega, rfl, HKj.out, HTE.out⟩
              case round =>
                obtain ⟨i, W2, rfl, hig, rfl, HKi, HTi⟩ := hrel
                have HKi' : Hid (Below V3.heap.size V3 W2) := by rw [HME.out]; exact HKi.out
                have HX6 := Lib.hid (HX3.out.below HKi'.out)
                by_cases hil : i < x.m
                · obtain ⟨gi, rfl⟩ : ∃ i, gk = i + 1 := ⟨gk - 1, by omega⟩
                  obtain ⟨o, ho⟩ := mlist_at x.os i (by rw [HOL.out]; exact hil)
                  obtain ⟨ad, hA, hc⟩ := HX6.out.w.at_.os.at_ ho
                  have HHAS : Hid (o.id ∈ Pl.stops (ros p.rs) ++ p.us) := HMAY.out.has (List.mem_of_getElem? ho)
                  have HIN : Hid (InR o.id) := HMAY.out.fits HHAS.out
                  obtain ⟨c0, c1, c2, c3, c4, c5, c6, c7⟩ := hc
                  obtain ⟨a0, a1, a2, a3, a4, a5, a6, a7⟩ := o
                  simp only at c0 c1 c2 c3 c4 c5 c6 c7 HHAS HIN
                  have i4 : (i : Int) < (x.m : Int) := by omega
                  have HT9 := Lib.hid (HTi.out.below (below_alloc W2 (.cells #[.int .i64 a0, .int .i64 a1, .int .i64 a2, .int .i64 a3, .int .i64 a4, .int .i64 a5, .int .i64 a6, .int .i64 a7] 50)))
                  have hlook := Times.look HT9.out HIN.out 1 (if_pos HHAS.out)
                  have d1 : ((1 : Int) != (1 : Int)) = false := by decide
                  have HB9 : Hid (Below m1 V3 (W2.alloc (.cells #[.int .i64 a0, .int .i64 a1, .int .i64 a2, .int .i64 a3, .int .i64 a4, .int .i64 a5, .int .i64 a6, .int .i64 a7] 50))) := by rw [← HME.out]; exact below_more HKi'.out _
                  have HSA := Lib.hid hA
                  clear ho hA
                  generalize x.A = sA at *
                  obtain rfl := HSA.out
                  go_wp2_with fail
                  go_roundg gi
                  case measure => omega
                  case rel => exact ⟨i + 1, _, rfl, by omega, by first | rfl | go_num, HB9.out, HT9.out⟩
                · have hlen := Times.len HTi.out x.m (by rw [HMAY.out.all_len]; exact HOL.out)
                  have x3 := HX6.out.w.c3
                  have d1 : ((x.m : Int) == (x.m : Int)) = true := by simp
                  go_wp2_with fail
                  go_ret
                  exact ⟨rfl, below_next HB3.out HKi'.out⟩
    · have e1 : (er != (0 : Int)) = true := bne_iff_ne.2 he
      have HC0 : Hid (cost = 0) := by
        have := Pl.check_zero (N := x.N) (D := x.D) (T := x.T) (os := x.os) (ts := x.ts) (rs := ros p.rs) (us := p.us) (by rw [HCK.out]; exact he)
        rw [HCK.out] at this
        exact this
      obtain rfl := HC0.out
      clear he hmm
      go_wp2_with fail
      go_ret
      exact ⟨rfl, HB3.out⟩

set_option maxRecDepth 100000 in
theorem lifted (os : Os) (started : os.Started) (H : Type) (enc : TypeId × Value → H) :
    ReturnsInHanded {} Try.checked os 4 .any (Rows.planOnceSpec.pre6 enc Try.prog Try.f4 Rows.planOnceRow.domain false) (Rows.planOnceSpec.post enc Try.prog Try.f4 false true false false) := by
  refine returnsInHanded_of_change_sized (C := Try.checked) own started (by kernel_rfl) Try.func4
    (ChangeSpec.witness6 (enc := enc) (C := Try.checked) false ⟨#[], #[.agg #[.int .i64 0, .slice none 0 0, .slice none 0 0, .slice none 0 0, .slice none 0 0], .agg #[.slice none 0 0, .slice none 0 0]], []⟩ 8 (by kernel_rfl) (by kernel_rfl) (by kernel_rfl) (by kernel_rfl)) ?_
  intro W base args ds gs before hval0 hW _ hsz0 _
  have hsz : (DataW.weightsEach Try.prog (Try.f4.params.toList ++ Rows.planOnceSpec.plain.varTypes Try.prog) (ds ++ gs)).all (· ≤ reachBytes) = true := hsz0
  have hval : ∀ (j : Nat) t v, Try.f4.params[j]? = some t → args[j]? = some v → Value.okWide Try.prog W .any base t v := hval0
  have hW' := hW
  obtain ⟨p, q, hA0, hV, rfl, hfz, hnd⟩ := hW
  have hA : DataW.TrodAll enc Try.prog W 0 (fun _ => true) true Try.f4.params.toList args.toList ds p := hA0
  rw [Try.params4] at hA hval hsz
  obtain ⟨v0, vs0, d0, ds0, p0, q0, hargs, rfl, rfl, h0, r0⟩ := trodAll_cons hA
  obtain ⟨v1, vs1, d1, ds1, p1, q1, rfl, rfl, rfl, h1, r1⟩ := trodAll_cons r0
  obtain ⟨rfl, rfl, rfl⟩ := trodAll_nil r1
  obtain rfl : args = #[v0, v1] := by cases args; simp_all
  obtain ⟨rfl, rfl⟩ := trodVars_none hV
  have k0 := h0
  have lt0 : ∀ x ∈ p0, x.block < W.heap.size := by obtain ⟨m, hm⟩ := k0; exact DataW.trod_lt m _ _ _ hm
  obtain ⟨x0, rfl, hv0⟩ := open_world_in (hval 0 28 v0 rfl rfl) h0
  have k1 := h1
  have lt1 : ∀ x ∈ p1, x.block < W.heap.size := by obtain ⟨m, hm⟩ := k1; exact DataW.trod_lt m _ _ _ hm
  obtain ⟨x1, rfl, hv1, hw1⟩ := open_plan_in (hval 1 32 v1 rfl rfl) h1
  have hs1 : Few x1 := fun r hr => by
    have hsc := (hv1.ra r hr).sc
    rcases hw1 r hr with h0 | hin
    · omega
    · have := List.all_eq_true.1 hsz _ (DataW.weights_mem_each (j := 1) (t := 32) (d := d1) rfl rfl _ hin)
      have h2 : r.sc * 8 ≤ reachBytes := by simpa using this
      have h3 := reachBytes_lt
      omega
  clear hA0 hval0
  refine (walk x0 hv0 x1 hv1 hs1).mono fun e W' ⟨he, bel⟩ => ?_
  subst he
  exact ⟨_, rfl, _, _, _, [], _, [], hW', trodAll_mk1 (shut_bool Try.underlying4 _), (trodAll_cons_mk (Below.trod laidOut (by kernel_rfl) (of_decide_eq_true (by kernel_rfl)) k0 bel lt0) (trodAll_cons_mk (Below.trod laidOut (by kernel_rfl) (of_decide_eq_true (by kernel_rfl)) k1 bel lt1) trodAll_mk0)), rfl, bel.frame _, fun h => by cases h⟩

theorem over : Rows.planOnceRow.holds Try.pinned (OpenSpec.ofChange Rows.planOnceSpec) :=
  OpenClaim.holds_of_wide 4 Try.f4 rfl rfl rfl rfl rfl rfl rfl ⟨rfl, rfl, rfl, rfl, rfl⟩ rfl rfl rfl rfl rfl (by kernel_rfl) Try.func4 (by kernel_rfl)
    (of_decide_eq_true (by kernel_rfl)) (by unfold Func.isWrapper; first | (rw [if_pos (by decide +kernel)]; kernel_rfl) | (rw [if_neg (by decide +kernel)]; exact ⟨rfl, rfl⟩))
    (fun os started H enc _ => lifted os started H enc)

theorem proved : Rows.PlanOnceSaid := over
end Go.Proofs.Ytmidkjlikhngmaa.planOnce
