/- Every call of the law that a plan's cost, or why it may not be, whom it serves and whom not, and whether it is better than another one, are as the document says, and that a copy is a plan of its own, answers true: for every world and plans. No conditions. -/
import Derived.Test.YtmidkjlikhngmaaGreatRows
import Derived.Test.YtmidkjlikhngmaaGreatPlanDoc
import Derived.Deep.RegionHeld3
import Derived.WalkKit
import Derived.ProofKit
import Derived.OpenShut
import Derived.ShutString
import Derived.ChangeOld
import Derived.Below
import Derived.SizedLaws
namespace Go.Proofs.YtmidkjlikhngmaaGreat.planTells
open Go.ChangeShapes Go.WideShapes Go.ChangeAt Go.RowKit
open Go.ChangeMaps (open_string shut_string)
set_option linter.unusedVariables false

theorem own : ownKnob Tryz.prog.godebug = none := by kernel_rfl
theorem laidOut : laidOutB Tryz.prog = true := by kernel_rfl

open Go.Proofs.YtmidkjlikhngmaaGreat
set_option maxRecDepth 100000

/-- the boxes of the law -/
structure OB (V : World) (b1 b2 b3 : Nat) (x : Wd) (a b : Pd) : Prop where
  w : Box V b1 x.cells 28
  a : Box V b2 a.cells 32
  b : Box V b3 b.cells 32
theorem OB.below {V V' : World} {b1 b2 b3 : Nat} {x : Wd} {a b : Pd} (h : OB V b1 b2 b3 x a b) (hb : Below V.heap.size V V') : OB V' b1 b2 b3 x a b := ⟨h.w.below hb, h.a.below hb, h.b.below hb⟩
theorem OB.new (w : World) (x : Wd) (a b : Pd) : OB (((w.alloc (.cells #[.int .i64 x.N, .slice x.dA x.dm x.dc, .slice x.tA x.tm x.tc, .slice x.A x.m x.c, .slice x.B x.k x.d] 28)).alloc (.cells #[.slice a.rA a.rm a.rc, .slice a.uA a.um a.uc] 32)).alloc (.cells #[.slice b.rA b.rm b.rc, .slice b.uA b.um b.uc] 32)) w.heap.size (w.heap.size + 1) (w.heap.size + 1 + 1) x a b :=
  ⟨((Box.new w _ _).below (below_alloc _ _)).below (below_alloc _ _), (box_new_at _ _ _ _ (by simp)).below (below_alloc _ _), box_new_at _ _ _ _ (by simp)⟩

set_option maxHeartbeats 20000000 in
theorem walk {w : World} (x : Wd) (hx : WorldIn w x) (a : Pd) (ha : PlanIn w a) (fa : Few a) (b : Pd) (hb : PlanIn w b) (fb : Few b) :
    Calls Tryz.prog 3 #[.agg #[.int .i64 x.N, .slice x.dA x.dm x.dc, .slice x.tA x.tm x.tc, .slice x.A x.m x.c, .slice x.B x.k x.d], .agg #[.slice a.rA a.rm a.rc, .slice a.uA a.um a.uc], .agg #[.slice b.rA b.rm b.rc, .slice b.uA b.um b.uc]] w fun e w' => e = .returned (.bool true) ∧ Below w.heap.size w w' := by
  have HB0 : Hid (Below w.heap.size w (((w.alloc (.cells #[.int .i64 x.N, .slice x.dA x.dm x.dc, .slice x.tA x.tm x.tc, .slice x.A x.m x.c, .slice x.B x.k x.d] 28)).alloc (.cells #[.slice a.rA a.rm a.rc, .slice a.uA a.um a.uc] 32)).alloc (.cells #[.slice b.rA b.rm b.rc, .slice b.uA b.um b.uc] 32))) := below_more (below_more (below_alloc _ _) _) _
  have HX := Lib.hid (OB.new w x a b)
  have HWI := Lib.hid hx
  have HPI : Hid (Plans w [a, b]) := ⟨by simp only [List.mem_cons, List.not_mem_nil, or_false]; rintro p (rfl | rfl) <;> assumption, by simp only [List.mem_cons, List.not_mem_nil, or_false]; rintro p (rfl | rfl) <;> assumption⟩
  clear hx ha hb fa fb
  go_enter Tryz.func3, Tryz.ntmps3
  go_wp2_with fail
  generalize (((w.alloc (.cells #[.int .i64 x.N, .slice x.dA x.dm x.dc, .slice x.tA x.tm x.tc, .slice x.A x.m x.c, .slice x.B x.k x.d] 28)).alloc (.cells #[.slice a.rA a.rm a.rc, .slice a.uA a.um a.uc] 32)).alloc (.cells #[.slice b.rA b.rm b.rc, .slice b.uA b.um b.uc] 32)) = V at *
  generalize w.heap.size + 1 + 1 = b3 at *
  generalize w.heap.size + 1 = b2 at *
  generalize hb1 : w.heap.size = b1 at HX ⊢
  have HBE := Lib.hid hb1
  clear hb1
  with_reducible refine (awake_any _).mono ?_
  rintro e V1 ⟨rfl, hv1⟩
  have HX1 := Lib.hid (HX.out.below hv1)
  have HB1 := Lib.hid (below_next HB0.out hv1)
  clear hv1 HX HB0
  obtain ⟨r, hr⟩ : ∃ r : Bool, r = true ↔ LargeL x [a, b] := by
    by_cases h : LargeL x [a, b]
    · exact ⟨true, by simp [h]⟩
    · exact ⟨false, by simp [h]⟩
  have HR := Lib.hid hr
  have HBL := Lib.hid (below_more HB1.out (.cells #[.slice a.rA a.rm a.rc, .slice a.uA a.um a.uc, .slice b.rA b.rm b.rc, .slice b.uA b.um b.uc] 32))
  have HC := Lib.hid (llarge_b x (some ⟨V1.heap.size, 0, none⟩) 2 2 [a, b] (V1.alloc (.cells #[.slice a.rA a.rm a.rc, .slice a.uA a.um a.uc, .slice b.rA b.rm b.rc, .slice b.uA b.um b.uc] 32)) r hr (WorldIn.below HWI.out HBL.out) rfl (by omega) (rowsP_box (ps := [a, b]) (Box.new V1 _ _)) (HPI.out.below HBL.out))
  clear hr
  have c0 := wbox0 HX1.out.w
  have c1 := wbox1 HX1.out.w
  have c2 := wbox2 HX1.out.w
  have c3 := wbox3 HX1.out.w
  have c4 := wbox4 HX1.out.w
  have a0 := pbox0 HX1.out.a
  have a1 := pbox1 HX1.out.a
  have e0 := pbox0 HX1.out.b
  have e1 := pbox1 HX1.out.b
  go_wp2_with fail
  clear c0 c1 c2 c3 c4 a0 a1 e0 e1
  with_reducible refine HC.out.mono ?_
  rintro e V2 ⟨rfl, hv2⟩
  have HX2 := Lib.hid ((HX1.out.below (below_alloc _ (.cells #[.slice a.rA a.rm a.rc, .slice a.uA a.um a.uc, .slice b.rA b.rm b.rc, .slice b.uA b.um b.uc] 32))).below hv2.out)
  have HB2 := Lib.hid (below_next HBL.out hv2.out)
  clear hv2 HX1 HB1 HBL HC
  cases r with
  | true =>
    go_wp2_with fail
    go_ret
    exact ⟨rfl, HB2.out⟩
  | false =>
    have hnl : ¬ LargeL x [a, b] := fun h => by have := HR.out.2 h; cases this
    obtain ⟨nl, np⟩ := not_large hnl
    have HWX : Hid (∀ U, Below V2.heap.size V2 U → WAt U x) := fun U hU => (WorldIn.at_ (HWI.out.below HB2.out) nl).below hU
    have HPA : Hid (∀ p ∈ [a, b], ∀ U, Below V2.heap.size V2 U → PAt U p) := fun p hp U hU => (((HPI.out.c p hp).below HB2.out).at_ (np p hp)).below hU
    clear hnl nl np HR HWI HPI
    obtain ⟨ca, hca⟩ : ∃ c, Pl.checkS x.N x.D x.T x.os x.ts (ros a.rs) a.us = c := ⟨_, rfl⟩
    have HCA := Lib.hid hca
    clear hca
    have HC := Lib.hid (check_b x a V2 ca HCA.out (HWX.out V2 (Below.refl _ _)) (HPA.out a (by simp) V2 (Below.refl _ _)))
    have c0 := wbox0 HX2.out.w
    have c1 := wbox1 HX2.out.w
    have c2 := wbox2 HX2.out.w
    have c3 := wbox3 HX2.out.w
    have c4 := wbox4 HX2.out.w
    have a0 := pbox0 HX2.out.a
    have a1 := pbox1 HX2.out.a
    go_wp2_with fail
    clear c0 c1 c2 c3 c4 a0 a1
    with_reducible refine HC.out.mono ?_
    rintro e V3 ⟨rfl, hv3⟩
    have HX3 := Lib.hid (HX2.out.below hv3.out)
    have HV3 : Hid (Below V2.heap.size V2 V3) := hv3.out
    clear hv3 HX2 HC
    have HC := Lib.hid (dcheck_b x a V3 ca HCA.out (HWX.out V3 HV3.out) (HPA.out a (by simp) V3 HV3.out))
    have c0 := wbox0 HX3.out.w
    have c1 := wbox1 HX3.out.w
    have c2 := wbox2 HX3.out.w
    have c3 := wbox3 HX3.out.w
    have c4 := wbox4 HX3.out.w
    have a0 := pbox0 HX3.out.a
    have a1 := pbox1 HX3.out.a
    go_wp2_with fail
    clear c0 c1 c2 c3 c4 a0 a1
    with_reducible refine HC.out.mono ?_
    rintro e V4 ⟨rfl, hv4⟩
    have HX4 := Lib.hid (HX3.out.below hv4.out)
    have HV4 := Lib.hid (below_next HV3.out hv4.out)
    clear hv4 HX3 HV3 HC
    have HC := Lib.hid (copy_b a V4 (HPA.out a (by simp) V4 HV4.out))
    have a0 := pbox0 HX4.out.a
    have a1 := pbox1 HX4.out.a
    go_wp2_with fail
    clear a0 a1
    with_reducible refine HC.out.mono ?_
    rintro e V5 ⟨q, rfl, h5⟩
    clear HC
    have HBQ : Hid (Box (V5.alloc (.cells #[.slice q.rA q.rm q.rc, .slice q.uA q.um q.uc] 32)) V5.heap.size q.cells 32 ∧ Below V5.heap.size V5 (V5.alloc (.cells #[.slice q.rA q.rm q.rc, .slice q.uA q.um q.uc] 32))) := ⟨Box.new _ _ _, below_alloc _ _⟩
    have HX6 := Lib.hid ((HX4.out.below h5.out.bel).below HBQ.out.2)
    have HV6 := Lib.hid (below_next (below_next HV4.out h5.out.bel) HBQ.out.2)
    have HQ6 : Hid (∀ U, Below (V5.alloc (.cells #[.slice q.rA q.rm q.rc, .slice q.uA q.um q.uc] 32)).heap.size (V5.alloc (.cells #[.slice q.rA q.rm q.rc, .slice q.uA q.um q.uc] 32)) U → PAt U q) := fun U hU => (h5.out.at_.below HBQ.out.2).below hU
    go_upto_region 8 with fail
    generalize V5.alloc (.cells #[.slice q.rA q.rm q.rc, .slice q.uA q.um q.uc] 32) = V6 at *
    obtain ⟨bq, hbq⟩ : ∃ g, V5.heap.size = g := ⟨_, rfl⟩
    have HBV := Lib.hid hbq
    rw [hbq] at HBQ ⊢
    clear hbq
    have HBQ' : Hid (Below V5.heap.size V5 V6) := by rw [HBV.out]; exact HBQ.out.2
    have HCE : Hid (∀ U : World, Below V6.heap.size V6 U → (U.cell? ⟨b1, 0, none⟩ = some (.int .i64 x.N) ∧ U.cell? ⟨b1, 1, none⟩ = some (.slice x.dA x.dm x.dc) ∧ U.cell? ⟨b1, 2, none⟩ = some (.slice x.tA x.tm x.tc) ∧ U.cell? ⟨b1, 3, none⟩ = some (.slice x.A x.m x.c) ∧ U.cell? ⟨b1, 4, none⟩ = some (.slice x.B x.k x.d) ∧ U.cell? ⟨b2, 0, none⟩ = some (.slice a.rA a.rm a.rc) ∧ U.cell? ⟨b2, 1, none⟩ = some (.slice a.uA a.um a.uc) ∧ U.cell? ⟨b3, 0, none⟩ = some (.slice b.rA b.rm b.rc) ∧ U.cell? ⟨b3, 1, none⟩ = some (.slice b.uA b.um b.uc) ∧ U.cell? ⟨bq, 0, none⟩ = some (.slice q.rA q.rm q.rc) ∧ U.cell? ⟨bq, 1, none⟩ = some (.slice q.uA q.um q.uc) ∧ Below V6.heap.size V6 U)) := fun U hU => by
      have h := HX6.out.below hU
      have h2 := HBQ.out.1.below hU
      exact ⟨wbox0 h.w, wbox1 h.w, wbox2 h.w, wbox3 h.w, wbox4 h.w, pbox0 h.a, pbox1 h.a, pbox0 h.b, pbox1 h.b, pbox0 h2, pbox1 h2, hU⟩
    have HW6 : Hid (∀ U, Below V6.heap.size V6 U → WAt U x) := fun U hU => HWX.out U (below_next HV6.out hU)
    have HP6 : Hid (∀ p ∈ [a, b], ∀ U, Below V6.heap.size V6 U → PAt U p) := fun p hp U hU => HPA.out p hp U (below_next HV6.out hU)
    obtain ⟨sv, hsv⟩ : ∃ s, Pl.servedS (ros a.rs) = s := ⟨_, rfl⟩
    obtain ⟨rv, hrv⟩ : ∃ s, Pl.restS x.os (ros a.rs) = s := ⟨_, rfl⟩
    have HSV := Lib.hid hsv
    have HRV := Lib.hid hrv
    obtain ⟨n5, hn5⟩ : ∃ n, sv.length = n := ⟨_, rfl⟩
    obtain ⟨n7, hn7⟩ : ∃ n, rv.length = n := ⟨_, rfl⟩
    have HN5 := Lib.hid hn5
    have HN7 := Lib.hid hn7
    have HL5 : Hid (n5 ≤ 100000) := by
      have h := (HP6.out a (by simp) V6 (Below.refl _ _)).tot
      rw [← hn5, ← hsv]
      unfold Hid Pl.servedS
      rw [Pl.srt_len]
      omega
    have HL7 : Hid (n7 ≤ 100000) := by
      have := Pl.restS_len x.os (ros a.rs)
      have h := HW6.out V6 (Below.refl _ _)
      rw [hrv, hn7, h.ml] at this
      have h2 := h.m2
      unfold Hid; omega
    obtain ⟨lr, hlr⟩ : ∃ r, lessP x a b = r := ⟨_, rfl⟩
    have HLR := Lib.hid hlr
    clear hsv hrv hn5 hn7 hlr
    have HS1 : Hid (∀ U : World, (U.cell? ⟨b1, 0, none⟩ = some (.int .i64 x.N) ∧ U.cell? ⟨b1, 1, none⟩ = some (.slice x.dA x.dm x.dc) ∧ U.cell? ⟨b1, 2, none⟩ = some (.slice x.tA x.tm x.tc) ∧ U.cell? ⟨b1, 3, none⟩ = some (.slice x.A x.m x.c) ∧ U.cell? ⟨b1, 4, none⟩ = some (.slice x.B x.k x.d) ∧ U.cell? ⟨b2, 0, none⟩ = some (.slice a.rA a.rm a.rc) ∧ U.cell? ⟨b2, 1, none⟩ = some (.slice a.uA a.um a.uc) ∧ U.cell? ⟨b3, 0, none⟩ = some (.slice b.rA b.rm b.rc) ∧ U.cell? ⟨b3, 1, none⟩ = some (.slice b.uA b.um b.uc) ∧ U.cell? ⟨bq, 0, none⟩ = some (.slice q.rA q.rm q.rc) ∧ U.cell? ⟨bq, 1, none⟩ = some (.slice q.uA q.um q.uc) ∧ Below V6.heap.size V6 U) → Calls Tryz.prog 10 #[.agg #[.slice a.rA a.rm a.rc, .slice a.uA a.um a.uc]] U fun e U => ∃ A c, e = .returned (.slice A n5 c) ∧ Hid (IntsAt U A sv) ∧ (U.cell? ⟨b1, 0, none⟩ = some (.int .i64 x.N) ∧ U.cell? ⟨b1, 1, none⟩ = some (.slice x.dA x.dm x.dc) ∧ U.cell? ⟨b1, 2, none⟩ = some (.slice x.tA x.tm x.tc) ∧ U.cell? ⟨b1, 3, none⟩ = some (.slice x.A x.m x.c) ∧ U.cell? ⟨b1, 4, none⟩ = some (.slice x.B x.k x.d) ∧ U.cell? ⟨b2, 0, none⟩ = some (.slice a.rA a.rm a.rc) ∧ U.cell? ⟨b2, 1, none⟩ = some (.slice a.uA a.um a.uc) ∧ U.cell? ⟨b3, 0, none⟩ = some (.slice b.rA b.rm b.rc) ∧ U.cell? ⟨b3, 1, none⟩ = some (.slice b.uA b.um b.uc) ∧ U.cell? ⟨bq, 0, none⟩ = some (.slice q.rA q.rm q.rc) ∧ U.cell? ⟨bq, 1, none⟩ = some (.slice q.uA q.um q.uc) ∧ Below V6.heap.size V6 U)) := by
      rintro U ⟨_, _, _, _, _, _, _, _, _, _, _, h⟩
      refine (served_b a U (HP6.out a (by simp) U h)).mono ?_
      rintro e U' ⟨A, c, e1, e2, e3⟩
      rw [HSV.out, HN5.out] at e1
      rw [HSV.out] at e3
      exact ⟨A, c, e1, e3.out.2.1, HCE.out _ (below_next h e3.out.1)⟩
    have HS2 : Hid (∀ (U : World) (A : Option Addr), (U.cell? ⟨b1, 0, none⟩ = some (.int .i64 x.N) ∧ U.cell? ⟨b1, 1, none⟩ = some (.slice x.dA x.dm x.dc) ∧ U.cell? ⟨b1, 2, none⟩ = some (.slice x.tA x.tm x.tc) ∧ U.cell? ⟨b1, 3, none⟩ = some (.slice x.A x.m x.c) ∧ U.cell? ⟨b1, 4, none⟩ = some (.slice x.B x.k x.d) ∧ U.cell? ⟨b2, 0, none⟩ = some (.slice a.rA a.rm a.rc) ∧ U.cell? ⟨b2, 1, none⟩ = some (.slice a.uA a.um a.uc) ∧ U.cell? ⟨b3, 0, none⟩ = some (.slice b.rA b.rm b.rc) ∧ U.cell? ⟨b3, 1, none⟩ = some (.slice b.uA b.um b.uc) ∧ U.cell? ⟨bq, 0, none⟩ = some (.slice q.rA q.rm q.rc) ∧ U.cell? ⟨bq, 1, none⟩ = some (.slice q.uA q.um q.uc) ∧ Below V6.heap.size V6 U) → Hid (IntsAt U A sv) → Calls Tryz.prog 11 #[.agg #[.slice a.rA a.rm a.rc, .slice a.uA a.um a.uc]] U fun e U => ∃ A2 c2, e = .returned (.slice A2 n5 c2) ∧ Hid (IntsAt U A sv ∧ IntsAt U A2 sv) ∧ (U.cell? ⟨b1, 0, none⟩ = some (.int .i64 x.N) ∧ U.cell? ⟨b1, 1, none⟩ = some (.slice x.dA x.dm x.dc) ∧ U.cell? ⟨b1, 2, none⟩ = some (.slice x.tA x.tm x.tc) ∧ U.cell? ⟨b1, 3, none⟩ = some (.slice x.A x.m x.c) ∧ U.cell? ⟨b1, 4, none⟩ = some (.slice x.B x.k x.d) ∧ U.cell? ⟨b2, 0, none⟩ = some (.slice a.rA a.rm a.rc) ∧ U.cell? ⟨b2, 1, none⟩ = some (.slice a.uA a.um a.uc) ∧ U.cell? ⟨b3, 0, none⟩ = some (.slice b.rA b.rm b.rc) ∧ U.cell? ⟨b3, 1, none⟩ = some (.slice b.uA b.um b.uc) ∧ U.cell? ⟨bq, 0, none⟩ = some (.slice q.rA q.rm q.rc) ∧ U.cell? ⟨bq, 1, none⟩ = some (.slice q.uA q.um q.uc) ∧ Below V6.heap.size V6 U)) := by
      rintro U A ⟨_, _, _, _, _, _, _, _, _, _, _, h⟩ hv
      refine (dserved_b a U (HP6.out a (by simp) U h)).mono ?_
      rintro e U' ⟨A2, c2, e1, e2, e3⟩
      rw [HSV.out, HN5.out] at e1
      rw [HSV.out] at e3
      exact ⟨A2, c2, e1, ⟨hv.out.below e3.out.1, e3.out.2.1⟩, HCE.out _ (below_next h e3.out.1)⟩
    have HS3 : Hid (∀ (U : World) (A A2 : Option Addr) (c c2 : Nat), (U.cell? ⟨b1, 0, none⟩ = some (.int .i64 x.N) ∧ U.cell? ⟨b1, 1, none⟩ = some (.slice x.dA x.dm x.dc) ∧ U.cell? ⟨b1, 2, none⟩ = some (.slice x.tA x.tm x.tc) ∧ U.cell? ⟨b1, 3, none⟩ = some (.slice x.A x.m x.c) ∧ U.cell? ⟨b1, 4, none⟩ = some (.slice x.B x.k x.d) ∧ U.cell? ⟨b2, 0, none⟩ = some (.slice a.rA a.rm a.rc) ∧ U.cell? ⟨b2, 1, none⟩ = some (.slice a.uA a.um a.uc) ∧ U.cell? ⟨b3, 0, none⟩ = some (.slice b.rA b.rm b.rc) ∧ U.cell? ⟨b3, 1, none⟩ = some (.slice b.uA b.um b.uc) ∧ U.cell? ⟨bq, 0, none⟩ = some (.slice q.rA q.rm q.rc) ∧ U.cell? ⟨bq, 1, none⟩ = some (.slice q.uA q.um q.uc) ∧ Below V6.heap.size V6 U) → Hid (IntsAt U A sv ∧ IntsAt U A2 sv) → Calls Tryz.prog 9 #[.slice A n5 c, .slice A2 n5 c2] U fun e U => e = .returned (.bool true) ∧ (U.cell? ⟨b1, 0, none⟩ = some (.int .i64 x.N) ∧ U.cell? ⟨b1, 1, none⟩ = some (.slice x.dA x.dm x.dc) ∧ U.cell? ⟨b1, 2, none⟩ = some (.slice x.tA x.tm x.tc) ∧ U.cell? ⟨b1, 3, none⟩ = some (.slice x.A x.m x.c) ∧ U.cell? ⟨b1, 4, none⟩ = some (.slice x.B x.k x.d) ∧ U.cell? ⟨b2, 0, none⟩ = some (.slice a.rA a.rm a.rc) ∧ U.cell? ⟨b2, 1, none⟩ = some (.slice a.uA a.um a.uc) ∧ U.cell? ⟨b3, 0, none⟩ = some (.slice b.rA b.rm b.rc) ∧ U.cell? ⟨b3, 1, none⟩ = some (.slice b.uA b.um b.uc) ∧ U.cell? ⟨bq, 0, none⟩ = some (.slice q.rA q.rm q.rc) ∧ U.cell? ⟨bq, 1, none⟩ = some (.slice q.uA q.um q.uc) ∧ Below V6.heap.size V6 U)) := by
      rintro U A A2 c c2 ⟨_, _, _, _, _, _, _, _, _, _, _, h⟩ hv
      exact (psame_b A A2 n5 c n5 c2 sv sv U true (decide_eq_true rfl) HN5.out HN5.out HL5.out HL5.out hv.out.1 hv.out.2).mono fun _ _ ⟨e1, q, e2⟩ => ⟨e1, HCE.out _ (by subst e2; exact ⟨h.os, h.tape, h.output, h.size, h.block⟩)⟩
    have HT1 : Hid (∀ U : World, (U.cell? ⟨b1, 0, none⟩ = some (.int .i64 x.N) ∧ U.cell? ⟨b1, 1, none⟩ = some (.slice x.dA x.dm x.dc) ∧ U.cell? ⟨b1, 2, none⟩ = some (.slice x.tA x.tm x.tc) ∧ U.cell? ⟨b1, 3, none⟩ = some (.slice x.A x.m x.c) ∧ U.cell? ⟨b1, 4, none⟩ = some (.slice x.B x.k x.d) ∧ U.cell? ⟨b2, 0, none⟩ = some (.slice a.rA a.rm a.rc) ∧ U.cell? ⟨b2, 1, none⟩ = some (.slice a.uA a.um a.uc) ∧ U.cell? ⟨b3, 0, none⟩ = some (.slice b.rA b.rm b.rc) ∧ U.cell? ⟨b3, 1, none⟩ = some (.slice b.uA b.um b.uc) ∧ U.cell? ⟨bq, 0, none⟩ = some (.slice q.rA q.rm q.rc) ∧ U.cell? ⟨bq, 1, none⟩ = some (.slice q.uA q.um q.uc) ∧ Below V6.heap.size V6 U) → Calls Tryz.prog 12 #[.agg #[.int .i64 x.N, .slice x.dA x.dm x.dc, .slice x.tA x.tm x.tc, .slice x.A x.m x.c, .slice x.B x.k x.d], .agg #[.slice a.rA a.rm a.rc, .slice a.uA a.um a.uc]] U fun e U => ∃ A c, e = .returned (.slice A n7 c) ∧ Hid (IntsAt U A rv) ∧ (U.cell? ⟨b1, 0, none⟩ = some (.int .i64 x.N) ∧ U.cell? ⟨b1, 1, none⟩ = some (.slice x.dA x.dm x.dc) ∧ U.cell? ⟨b1, 2, none⟩ = some (.slice x.tA x.tm x.tc) ∧ U.cell? ⟨b1, 3, none⟩ = some (.slice x.A x.m x.c) ∧ U.cell? ⟨b1, 4, none⟩ = some (.slice x.B x.k x.d) ∧ U.cell? ⟨b2, 0, none⟩ = some (.slice a.rA a.rm a.rc) ∧ U.cell? ⟨b2, 1, none⟩ = some (.slice a.uA a.um a.uc) ∧ U.cell? ⟨b3, 0, none⟩ = some (.slice b.rA b.rm b.rc) ∧ U.cell? ⟨b3, 1, none⟩ = some (.slice b.uA b.um b.uc) ∧ U.cell? ⟨bq, 0, none⟩ = some (.slice q.rA q.rm q.rc) ∧ U.cell? ⟨bq, 1, none⟩ = some (.slice q.uA q.um q.uc) ∧ Below V6.heap.size V6 U)) := by
      rintro U ⟨_, _, _, _, _, _, _, _, _, _, _, h⟩
      refine (rest_b x a U (HW6.out U h) (HP6.out a (by simp) U h)).mono ?_
      rintro e U' ⟨A, c, e1, e2, e3⟩
      rw [HRV.out, HN7.out] at e1
      rw [HRV.out] at e3
      exact ⟨A, c, e1, e3.out.2.1, HCE.out _ (below_next h e3.out.1)⟩
    have HT2 : Hid (∀ (U : World) (A : Option Addr), (U.cell? ⟨b1, 0, none⟩ = some (.int .i64 x.N) ∧ U.cell? ⟨b1, 1, none⟩ = some (.slice x.dA x.dm x.dc) ∧ U.cell? ⟨b1, 2, none⟩ = some (.slice x.tA x.tm x.tc) ∧ U.cell? ⟨b1, 3, none⟩ = some (.slice x.A x.m x.c) ∧ U.cell? ⟨b1, 4, none⟩ = some (.slice x.B x.k x.d) ∧ U.cell? ⟨b2, 0, none⟩ = some (.slice a.rA a.rm a.rc) ∧ U.cell? ⟨b2, 1, none⟩ = some (.slice a.uA a.um a.uc) ∧ U.cell? ⟨b3, 0, none⟩ = some (.slice b.rA b.rm b.rc) ∧ U.cell? ⟨b3, 1, none⟩ = some (.slice b.uA b.um b.uc) ∧ U.cell? ⟨bq, 0, none⟩ = some (.slice q.rA q.rm q.rc) ∧ U.cell? ⟨bq, 1, none⟩ = some (.slice q.uA q.um q.uc) ∧ Below V6.heap.size V6 U) → Hid (IntsAt U A rv) → Calls Tryz.prog 13 #[.agg #[.int .i64 x.N, .slice x.dA x.dm x.dc, .slice x.tA x.tm x.tc, .slice x.A x.m x.c, .slice x.B x.k x.d], .agg #[.slice a.rA a.rm a.rc, .slice a.uA a.um a.uc]] U fun e U => ∃ A2 c2, e = .returned (.slice A2 n7 c2) ∧ Hid (IntsAt U A rv ∧ IntsAt U A2 rv) ∧ (U.cell? ⟨b1, 0, none⟩ = some (.int .i64 x.N) ∧ U.cell? ⟨b1, 1, none⟩ = some (.slice x.dA x.dm x.dc) ∧ U.cell? ⟨b1, 2, none⟩ = some (.slice x.tA x.tm x.tc) ∧ U.cell? ⟨b1, 3, none⟩ = some (.slice x.A x.m x.c) ∧ U.cell? ⟨b1, 4, none⟩ = some (.slice x.B x.k x.d) ∧ U.cell? ⟨b2, 0, none⟩ = some (.slice a.rA a.rm a.rc) ∧ U.cell? ⟨b2, 1, none⟩ = some (.slice a.uA a.um a.uc) ∧ U.cell? ⟨b3, 0, none⟩ = some (.slice b.rA b.rm b.rc) ∧ U.cell? ⟨b3, 1, none⟩ = some (.slice b.uA b.um b.uc) ∧ U.cell? ⟨bq, 0, none⟩ = some (.slice q.rA q.rm q.rc) ∧ U.cell? ⟨bq, 1, none⟩ = some (.slice q.uA q.um q.uc) ∧ Below V6.heap.size V6 U)) := by
      rintro U A ⟨_, _, _, _, _, _, _, _, _, _, _, h⟩ hv
      refine (drest_b x a U (HW6.out U h) (HP6.out a (by simp) U h)).mono ?_
      rintro e U' ⟨A2, c2, e1, e2, e3⟩
      rw [HRV.out, HN7.out] at e1
      rw [HRV.out] at e3
      exact ⟨A2, c2, e1, ⟨hv.out.below e3.out.1, e3.out.2.1⟩, HCE.out _ (below_next h e3.out.1)⟩
    have HT3 : Hid (∀ (U : World) (A A2 : Option Addr) (c c2 : Nat), (U.cell? ⟨b1, 0, none⟩ = some (.int .i64 x.N) ∧ U.cell? ⟨b1, 1, none⟩ = some (.slice x.dA x.dm x.dc) ∧ U.cell? ⟨b1, 2, none⟩ = some (.slice x.tA x.tm x.tc) ∧ U.cell? ⟨b1, 3, none⟩ = some (.slice x.A x.m x.c) ∧ U.cell? ⟨b1, 4, none⟩ = some (.slice x.B x.k x.d) ∧ U.cell? ⟨b2, 0, none⟩ = some (.slice a.rA a.rm a.rc) ∧ U.cell? ⟨b2, 1, none⟩ = some (.slice a.uA a.um a.uc) ∧ U.cell? ⟨b3, 0, none⟩ = some (.slice b.rA b.rm b.rc) ∧ U.cell? ⟨b3, 1, none⟩ = some (.slice b.uA b.um b.uc) ∧ U.cell? ⟨bq, 0, none⟩ = some (.slice q.rA q.rm q.rc) ∧ U.cell? ⟨bq, 1, none⟩ = some (.slice q.uA q.um q.uc) ∧ Below V6.heap.size V6 U) → Hid (IntsAt U A rv ∧ IntsAt U A2 rv) → Calls Tryz.prog 9 #[.slice A n7 c, .slice A2 n7 c2] U fun e U => e = .returned (.bool true) ∧ (U.cell? ⟨b1, 0, none⟩ = some (.int .i64 x.N) ∧ U.cell? ⟨b1, 1, none⟩ = some (.slice x.dA x.dm x.dc) ∧ U.cell? ⟨b1, 2, none⟩ = some (.slice x.tA x.tm x.tc) ∧ U.cell? ⟨b1, 3, none⟩ = some (.slice x.A x.m x.c) ∧ U.cell? ⟨b1, 4, none⟩ = some (.slice x.B x.k x.d) ∧ U.cell? ⟨b2, 0, none⟩ = some (.slice a.rA a.rm a.rc) ∧ U.cell? ⟨b2, 1, none⟩ = some (.slice a.uA a.um a.uc) ∧ U.cell? ⟨b3, 0, none⟩ = some (.slice b.rA b.rm b.rc) ∧ U.cell? ⟨b3, 1, none⟩ = some (.slice b.uA b.um b.uc) ∧ U.cell? ⟨bq, 0, none⟩ = some (.slice q.rA q.rm q.rc) ∧ U.cell? ⟨bq, 1, none⟩ = some (.slice q.uA q.um q.uc) ∧ Below V6.heap.size V6 U)) := by
      rintro U A A2 c c2 ⟨_, _, _, _, _, _, _, _, _, _, _, h⟩ hv
      exact (psame_b A A2 n7 c n7 c2 rv rv U true (decide_eq_true rfl) HN7.out HN7.out HL7.out HL7.out hv.out.1 hv.out.2).mono fun _ _ ⟨e1, q, e2⟩ => ⟨e1, HCE.out _ (by subst e2; exact ⟨h.os, h.tape, h.output, h.size, h.block⟩)⟩
    have HL1 : Hid (∀ U : World, (U.cell? ⟨b1, 0, none⟩ = some (.int .i64 x.N) ∧ U.cell? ⟨b1, 1, none⟩ = some (.slice x.dA x.dm x.dc) ∧ U.cell? ⟨b1, 2, none⟩ = some (.slice x.tA x.tm x.tc) ∧ U.cell? ⟨b1, 3, none⟩ = some (.slice x.A x.m x.c) ∧ U.cell? ⟨b1, 4, none⟩ = some (.slice x.B x.k x.d) ∧ U.cell? ⟨b2, 0, none⟩ = some (.slice a.rA a.rm a.rc) ∧ U.cell? ⟨b2, 1, none⟩ = some (.slice a.uA a.um a.uc) ∧ U.cell? ⟨b3, 0, none⟩ = some (.slice b.rA b.rm b.rc) ∧ U.cell? ⟨b3, 1, none⟩ = some (.slice b.uA b.um b.uc) ∧ U.cell? ⟨bq, 0, none⟩ = some (.slice q.rA q.rm q.rc) ∧ U.cell? ⟨bq, 1, none⟩ = some (.slice q.uA q.um q.uc) ∧ Below V6.heap.size V6 U) → Calls Tryz.prog 14 #[.agg #[.int .i64 x.N, .slice x.dA x.dm x.dc, .slice x.tA x.tm x.tc, .slice x.A x.m x.c, .slice x.B x.k x.d], .agg #[.slice a.rA a.rm a.rc, .slice a.uA a.um a.uc], .agg #[.slice b.rA b.rm b.rc, .slice b.uA b.um b.uc]] U fun e U => e = .returned (.bool lr) ∧ (U.cell? ⟨b1, 0, none⟩ = some (.int .i64 x.N) ∧ U.cell? ⟨b1, 1, none⟩ = some (.slice x.dA x.dm x.dc) ∧ U.cell? ⟨b1, 2, none⟩ = some (.slice x.tA x.tm x.tc) ∧ U.cell? ⟨b1, 3, none⟩ = some (.slice x.A x.m x.c) ∧ U.cell? ⟨b1, 4, none⟩ = some (.slice x.B x.k x.d) ∧ U.cell? ⟨b2, 0, none⟩ = some (.slice a.rA a.rm a.rc) ∧ U.cell? ⟨b2, 1, none⟩ = some (.slice a.uA a.um a.uc) ∧ U.cell? ⟨b3, 0, none⟩ = some (.slice b.rA b.rm b.rc) ∧ U.cell? ⟨b3, 1, none⟩ = some (.slice b.uA b.um b.uc) ∧ U.cell? ⟨bq, 0, none⟩ = some (.slice q.rA q.rm q.rc) ∧ U.cell? ⟨bq, 1, none⟩ = some (.slice q.uA q.um q.uc) ∧ Below V6.heap.size V6 U)) := by
      rintro U ⟨_, _, _, _, _, _, _, _, _, _, _, h⟩
      exact (less_b x a b U lr HLR.out (HW6.out U h) (HP6.out a (by simp) U h) (HP6.out b (by simp) U h)).mono fun _ _ ⟨e1, e2⟩ => ⟨e1, HCE.out _ (below_next h e2.out)⟩
    have HL2 : Hid (∀ U : World, (U.cell? ⟨b1, 0, none⟩ = some (.int .i64 x.N) ∧ U.cell? ⟨b1, 1, none⟩ = some (.slice x.dA x.dm x.dc) ∧ U.cell? ⟨b1, 2, none⟩ = some (.slice x.tA x.tm x.tc) ∧ U.cell? ⟨b1, 3, none⟩ = some (.slice x.A x.m x.c) ∧ U.cell? ⟨b1, 4, none⟩ = some (.slice x.B x.k x.d) ∧ U.cell? ⟨b2, 0, none⟩ = some (.slice a.rA a.rm a.rc) ∧ U.cell? ⟨b2, 1, none⟩ = some (.slice a.uA a.um a.uc) ∧ U.cell? ⟨b3, 0, none⟩ = some (.slice b.rA b.rm b.rc) ∧ U.cell? ⟨b3, 1, none⟩ = some (.slice b.uA b.um b.uc) ∧ U.cell? ⟨bq, 0, none⟩ = some (.slice q.rA q.rm q.rc) ∧ U.cell? ⟨bq, 1, none⟩ = some (.slice q.uA q.um q.uc) ∧ Below V6.heap.size V6 U) → Calls Tryz.prog 15 #[.agg #[.int .i64 x.N, .slice x.dA x.dm x.dc, .slice x.tA x.tm x.tc, .slice x.A x.m x.c, .slice x.B x.k x.d], .agg #[.slice a.rA a.rm a.rc, .slice a.uA a.um a.uc], .agg #[.slice b.rA b.rm b.rc, .slice b.uA b.um b.uc]] U fun e U => e = .returned (.bool lr) ∧ (U.cell? ⟨b1, 0, none⟩ = some (.int .i64 x.N) ∧ U.cell? ⟨b1, 1, none⟩ = some (.slice x.dA x.dm x.dc) ∧ U.cell? ⟨b1, 2, none⟩ = some (.slice x.tA x.tm x.tc) ∧ U.cell? ⟨b1, 3, none⟩ = some (.slice x.A x.m x.c) ∧ U.cell? ⟨b1, 4, none⟩ = some (.slice x.B x.k x.d) ∧ U.cell? ⟨b2, 0, none⟩ = some (.slice a.rA a.rm a.rc) ∧ U.cell? ⟨b2, 1, none⟩ = some (.slice a.uA a.um a.uc) ∧ U.cell? ⟨b3, 0, none⟩ = some (.slice b.rA b.rm b.rc) ∧ U.cell? ⟨b3, 1, none⟩ = some (.slice b.uA b.um b.uc) ∧ U.cell? ⟨bq, 0, none⟩ = some (.slice q.rA q.rm q.rc) ∧ U.cell? ⟨bq, 1, none⟩ = some (.slice q.uA q.um q.uc) ∧ Below V6.heap.size V6 U)) := by
      rintro U ⟨_, _, _, _, _, _, _, _, _, _, _, h⟩
      exact (dless_b x a b U lr HLR.out (HW6.out U h) (HP6.out a (by simp) U h) (HP6.out b (by simp) U h)).mono fun _ _ ⟨e1, e2⟩ => ⟨e1, HCE.out _ (below_next h e2.out)⟩
    have HEQ : Hid (∀ U : World, (U.cell? ⟨b1, 0, none⟩ = some (.int .i64 x.N) ∧ U.cell? ⟨b1, 1, none⟩ = some (.slice x.dA x.dm x.dc) ∧ U.cell? ⟨b1, 2, none⟩ = some (.slice x.tA x.tm x.tc) ∧ U.cell? ⟨b1, 3, none⟩ = some (.slice x.A x.m x.c) ∧ U.cell? ⟨b1, 4, none⟩ = some (.slice x.B x.k x.d) ∧ U.cell? ⟨b2, 0, none⟩ = some (.slice a.rA a.rm a.rc) ∧ U.cell? ⟨b2, 1, none⟩ = some (.slice a.uA a.um a.uc) ∧ U.cell? ⟨b3, 0, none⟩ = some (.slice b.rA b.rm b.rc) ∧ U.cell? ⟨b3, 1, none⟩ = some (.slice b.uA b.um b.uc) ∧ U.cell? ⟨bq, 0, none⟩ = some (.slice q.rA q.rm q.rc) ∧ U.cell? ⟨bq, 1, none⟩ = some (.slice q.uA q.um q.uc) ∧ Below V6.heap.size V6 U) → Calls Tryz.prog 16 #[.agg #[.slice a.rA a.rm a.rc, .slice a.uA a.um a.uc], .agg #[.slice q.rA q.rm q.rc, .slice q.uA q.um q.uc]] U fun e U => e = .returned (.bool true) ∧ (U.cell? ⟨b1, 0, none⟩ = some (.int .i64 x.N) ∧ U.cell? ⟨b1, 1, none⟩ = some (.slice x.dA x.dm x.dc) ∧ U.cell? ⟨b1, 2, none⟩ = some (.slice x.tA x.tm x.tc) ∧ U.cell? ⟨b1, 3, none⟩ = some (.slice x.A x.m x.c) ∧ U.cell? ⟨b1, 4, none⟩ = some (.slice x.B x.k x.d) ∧ U.cell? ⟨b2, 0, none⟩ = some (.slice a.rA a.rm a.rc) ∧ U.cell? ⟨b2, 1, none⟩ = some (.slice a.uA a.um a.uc) ∧ U.cell? ⟨b3, 0, none⟩ = some (.slice b.rA b.rm b.rc) ∧ U.cell? ⟨b3, 1, none⟩ = some (.slice b.uA b.um b.uc) ∧ U.cell? ⟨bq, 0, none⟩ = some (.slice q.rA q.rm q.rc) ∧ U.cell? ⟨bq, 1, none⟩ = some (.slice q.uA q.um q.uc) ∧ Below V6.heap.size V6 U)) := by
      rintro U ⟨_, _, _, _, _, _, _, _, _, _, _, h⟩
      exact (pequal_b a q U (HP6.out a (by simp) U h) (HQ6.out U h) h5.out.ro.symm h5.out.us.symm).mono fun _ _ ⟨e1, e2⟩ => ⟨e1, HCE.out _ (below_next h e2.out)⟩
    obtain ⟨c0, c1, c2, c3, c4, a0, a1, e0, e1, q0, q1, _⟩ := HCE.out V6 (Below.refl _ _)
    have hB := (Below.refl V6.heap.size V6).drew
    obtain ⟨cost, er⟩ := ca
    have hn1 : (cost != cost) = false := by simp
    have hn2 : (er != er) = false := by simp
    have hn3 : (lr != lr) = false := by cases lr <;> rfl
    go_region_held3 (fun U : World => (U.cell? ⟨b1, 0, none⟩ = some (.int .i64 x.N) ∧ U.cell? ⟨b1, 1, none⟩ = some (.slice x.dA x.dm x.dc) ∧ U.cell? ⟨b1, 2, none⟩ = some (.slice x.tA x.tm x.tc) ∧ U.cell? ⟨b1, 3, none⟩ = some (.slice x.A x.m x.c) ∧ U.cell? ⟨b1, 4, none⟩ = some (.slice x.B x.k x.d) ∧ U.cell? ⟨b2, 0, none⟩ = some (.slice a.rA a.rm a.rc) ∧ U.cell? ⟨b2, 1, none⟩ = some (.slice a.uA a.um a.uc) ∧ U.cell? ⟨b3, 0, none⟩ = some (.slice b.rA b.rm b.rc) ∧ U.cell? ⟨b3, 1, none⟩ = some (.slice b.uA b.um b.uc) ∧ U.cell? ⟨bq, 0, none⟩ = some (.slice q.rA q.rm q.rc) ∧ U.cell? ⟨bq, 1, none⟩ = some (.slice q.uA q.um q.uc) ∧ Below V6.heap.size V6 U)) (first | exact ⟨c0, c1, c2, c3, c4, a0, a1, e0, e1, q0, q1, hB⟩ | exact ⟨k0, k1, k2, k3, k4, k5, k6, k7, k8, k9, k10, kb⟩ | assumption)
      (first
        | (go_at_call 10; ((with_reducible refine (HS1.out _ (by assumption)).mono ?_)); rintro e w7 ⟨A1, d1, rfl, HZ1, k0, k1, k2, k3, k4, k5, k6, k7, k8, k9, k10, kb⟩)
        | (go_at_call 11; ((with_reducible refine (HS2.out _ _ (by assumption) HZ1).mono ?_)); rintro e w7 ⟨A2, d2, rfl, HZ2, k0, k1, k2, k3, k4, k5, k6, k7, k8, k9, k10, kb⟩)
        | (go_at_call 9; ((with_reducible refine (HS3.out _ _ _ _ _ (by assumption) HZ2).mono ?_)); rintro e w7 ⟨rfl, k0, k1, k2, k3, k4, k5, k6, k7, k8, k9, k10, kb⟩)
        | (go_at_call 12; ((with_reducible refine (HT1.out _ (by assumption)).mono ?_)); rintro e w7 ⟨A3, d3, rfl, HZ3, k0, k1, k2, k3, k4, k5, k6, k7, k8, k9, k10, kb⟩)
        | (go_at_call 13; ((with_reducible refine (HT2.out _ _ (by assumption) HZ3).mono ?_)); rintro e w7 ⟨A4, d4, rfl, HZ4, k0, k1, k2, k3, k4, k5, k6, k7, k8, k9, k10, kb⟩)
        | (go_at_call 9; ((with_reducible refine (HT3.out _ _ _ _ _ (by assumption) HZ4).mono ?_)); rintro e w7 ⟨rfl, k0, k1, k2, k3, k4, k5, k6, k7, k8, k9, k10, kb⟩)
        | (go_at_call 14; ((with_reducible refine (HL1.out _ (by assumption)).mono ?_)); rintro e w7 ⟨rfl, k0, k1, k2, k3, k4, k5, k6, k7, k8, k9, k10, kb⟩)
        | (go_at_call 15; ((with_reducible refine (HL2.out _ (by assumption)).mono ?_)); rintro e w7 ⟨rfl, k0, k1, k2, k3, k4, k5, k6, k7, k8, k9, k10, kb⟩)
        | (go_at_call 16; ((with_reducible refine (HEQ.out _ (by assumption)).mono ?_)); rintro e w7 ⟨rfl, k0, k1, k2, k3, k4, k5, k6, k7, k8, k9, k10, kb⟩))
    all_goals
      have KB := Lib.hid kb
      have HBU : Hid (Below V5.heap.size V5 w7) := below_next HBQ'.out kb
      clear k0 k1 k2 k3 k4 k5 k6 k7 k8 k9 k10 kb c0 c1 c2 c3 c4 a0 a1 e0 e1 q0 q1 hB HS1 HS2 HS3 HT1 HT2 HT3 HL1 HL2 HEQ HCE HW6 HP6 HQ6 hn1 hn2 hn3
      obtain ⟨h, hh, hq, hbump⟩ := Bump.start h5.out HBU.out (by rw [HBV.out]; exact HBQ.out.1.below KB.out)
      rw [HBV.out] at hbump
      have HBP := Lib.hid hbump
      have HHH := Lib.hid hh
      have HHQ := Lib.hid hq
      have hqm : q.rm ≤ 1000 := h5.out.at_.r2
      have HQL : Hid (q.rs.length = q.rm) := h5.out.at_.rl
      have HQS : Hid (∀ r ∈ q.rs, r.sm ≤ 1000) := fun r hr => (h5.out.at_.ra r hr).s2
      clear hbump hh hq HBU
      have x0 := pbox0 HBP.out.box
      go_wp2
      clear x0
      go_loopg [83] q.rm (fun gk s83 W => ∃ (k : Nat) (W0 : World), W0 = W ∧ k + gk = q.rm ∧ s83 = .int .i64 k ∧ Hid (Bump V4 h bq q W0))
      case atStart => exact ⟨0, _, rfl, by omega, rfl, HBP.out⟩
      case round =>
        obtain ⟨k, W0, rfl, hkg, rfl, HI⟩ := hrel
        by_cases hlt : k < q.rm
        · obtain ⟨go, rfl⟩ : ∃ j, gk = j + 1 := ⟨gk - 1, by omega⟩
          obtain ⟨r, hr⟩ := mlist_at q.rs k (by rw [HQL.out]; exact hlt)
          obtain ⟨ad, hrA, _⟩ := HI.out.rows k r hr
          have HPA2 := Lib.hid hrA
          have HRK := Lib.hid hr
          have hsm := HQS.out r (List.mem_of_getElem? hr)
          have HRM := Lib.hid (List.mem_of_getElem? hr)
          have HFA : Hid (∀ U, Bump V4 h bq q U → U.cell? ⟨bq, 0, none⟩ = some (.slice (some ad) q.rm q.rc) ∧ U.cell? ⟨(ad.add (k * 2)).block, (ad.add (k * 2)).off + 1, none⟩ = some (.slice r.sA r.sm r.sc)) := fun U hU => by
            obtain ⟨ad', e, hro⟩ := hU.rows k r HRK.out
            obtain rfl : ad' = ad := by rw [HPA2.out] at e; exact (Option.some.inj e).symm
            have h0 := pbox0 hU.box
            rw [HPA2.out] at h0
            exact ⟨h0, hro.c1⟩
          clear hr hrA
          have i2 : (k : Int) < (q.rm : Int) := by omega
          obtain ⟨x0, x1⟩ := HFA.out W0 HI.out
          go_wp2_with fail
          clear x0 x1
          go_loopg [93] r.sm (fun gk s93 W => ∃ (j : Nat) (W1 : World), W1 = W ∧ j + gk = r.sm ∧ s93 = .int .i64 j ∧ Hid (Bump V4 h bq q W1))
          case atStart => exact ⟨0, _, rfl, by omega, rfl, HI.out⟩
          case round =>
            obtain ⟨j, W1, rfl, hjg, rfl, HJ⟩ := hrel
            by_cases hjl : j < r.sm
            · obtain ⟨gi, rfl⟩ : ∃ i, gk = i + 1 := ⟨gk - 1, by omega⟩
              obtain ⟨ad2, z, hsA, l1, l2, z0, z1⟩ := HJ.out.st r HRM.out j hjl
              obtain ⟨x0, x1'⟩ := HFA.out W1 HJ.out
              have x1 : W1.cell? ⟨(ad.add (k * 2)).block, (ad.add (k * 2)).off + 1, none⟩ = some (.slice (some ad2) r.sm r.sc) := by rw [hsA] at x1'; exact x1'
              have HNX : Hid (∀ y, Bump V4 h bq q (W1.setCell (ad2.add j) (.int .i64 y))) := fun y => HJ.out.set HHH.out HHQ.out ad2 j l1 l2 y
              have j2 : (j : Int) < (r.sm : Int) := by omega
              clear x1' hsA
              go_wp2_with fail
              go_roundg gi
              case measure => omega
              case rel => exact ⟨j + 1, _, rfl, by omega, by first | rfl | go_num, HNX.out _⟩
            · have hjr : decide ((j : Int) < (r.sm : Int)) = false := decide_eq_false (by omega)
              go_wp2_with fail
              go_roundg go
              case measure => omega
              case rel => exact ⟨k + 1, _, rfl, by omega, by first | rfl | go_num, HJ.out⟩
        · have hkr : decide ((k : Int) < (q.rm : Int)) = false := decide_eq_false (by omega)
          have HV9 := Lib.hid (below_next HV4.out HI.out.bel)
          have HX9 := Lib.hid (HX4.out.below HI.out.bel)
          have HC := Lib.hid (check_b x a W0 (cost, er) HCA.out (HWX.out W0 HV9.out) (HPA.out a (by simp) W0 HV9.out))
          have c0 := wbox0 HX9.out.w
          have c1 := wbox1 HX9.out.w
          have c2 := wbox2 HX9.out.w
          have c3 := wbox3 HX9.out.w
          have c4 := wbox4 HX9.out.w
          have a0 := pbox0 HX9.out.a
          have a1 := pbox1 HX9.out.a
          go_wp2_with fail
          clear c0 c1 c2 c3 c4 a0 a1
          with_reducible refine HC.out.mono ?_
          rintro e W9 ⟨rfl, h9⟩
          have hq1 : (cost == cost) = true := by simp
          have hq2 : (er == er) = true := by simp
          go_wp2_with fail
          go_ret
          exact ⟨rfl, below_next HB2.out (below_next HV9.out h9.out)⟩

set_option maxRecDepth 100000 in
theorem lifted (os : Os) (started : os.Started) (H : Type) (enc : TypeId × Value → H) :
    ReturnsInHanded {} Tryz.checked os 3 .any (Rows.planTellsSpec.pre6 enc Tryz.prog Tryz.f3 Rows.planTellsRow.domain false) (Rows.planTellsSpec.post enc Tryz.prog Tryz.f3 false true false false) := by
  refine returnsInHanded_of_change_sized (C := Tryz.checked) own started (by kernel_rfl) Tryz.func3
    (ChangeSpec.witness6 (enc := enc) (C := Tryz.checked) false ⟨#[], #[.agg #[.int .i64 0, .slice none 0 0, .slice none 0 0, .slice none 0 0, .slice none 0 0], .agg #[.slice none 0 0, .slice none 0 0], .agg #[.slice none 0 0, .slice none 0 0]], []⟩ 8 (by kernel_rfl) (by kernel_rfl) (by kernel_rfl) (by kernel_rfl)) ?_
  intro W base args ds gs before hval0 hW _ hsz0 _
  have hsz : (DataW.weightsEach Tryz.prog (Tryz.f3.params.toList ++ Rows.planTellsSpec.plain.varTypes Tryz.prog) (ds ++ gs)).all (· ≤ reachBytes) = true := hsz0
  have hval : ∀ (j : Nat) t v, Tryz.f3.params[j]? = some t → args[j]? = some v → Value.okWide Tryz.prog W .any base t v := hval0
  have hW' := hW
  obtain ⟨p, q, hA0, hV, rfl, hfz, hnd⟩ := hW
  have hA : DataW.TrodAll enc Tryz.prog W 0 (fun _ => true) true Tryz.f3.params.toList args.toList ds p := hA0
  rw [Tryz.params3] at hA hval hsz
  obtain ⟨v0, vs0, d0, ds0, p0, q0, hargs, rfl, rfl, h0, r0⟩ := trodAll_cons hA
  obtain ⟨v1, vs1, d1, ds1, p1, q1, rfl, rfl, rfl, h1, r1⟩ := trodAll_cons r0
  obtain ⟨v2, vs2, d2, ds2, p2, q2, rfl, rfl, rfl, h2, r2⟩ := trodAll_cons r1
  obtain ⟨rfl, rfl, rfl⟩ := trodAll_nil r2
  obtain rfl : args = #[v0, v1, v2] := by cases args; simp_all
  obtain ⟨rfl, rfl⟩ := trodVars_none hV
  have k0 := h0
  have lt0 : ∀ x ∈ p0, x.block < W.heap.size := by obtain ⟨m, hm⟩ := k0; exact DataW.trod_lt m _ _ _ hm
  obtain ⟨x0, rfl, hv0⟩ := open_world_in (hval 0 28 v0 rfl rfl) h0
  have k1 := h1
  have lt1 : ∀ x ∈ p1, x.block < W.heap.size := by obtain ⟨m, hm⟩ := k1; exact DataW.trod_lt m _ _ _ hm
  obtain ⟨x1, rfl, hv1, hw1⟩ := open_plan_in (hval 1 32 v1 rfl rfl) h1
  have hs1 : Few x1 := fun r hr => by
    have hsc := (hv1.ra r hr).sc
    rcases hw1 r hr with h0 | hin
    · omega
    · have := List.all_eq_true.1 hsz _ (DataW.weights_mem_each (j := 1) (t := 32) (d := d1) rfl rfl _ hin)
      have h2 : r.sc * 8 ≤ reachBytes := by simpa using this
      have h3 := reachBytes_lt
      omega
  have k2 := h2
  have lt2 : ∀ x ∈ p2, x.block < W.heap.size := by obtain ⟨m, hm⟩ := k2; exact DataW.trod_lt m _ _ _ hm
  obtain ⟨x2, rfl, hv2, hw2⟩ := open_plan_in (hval 2 32 v2 rfl rfl) h2
  have hs2 : Few x2 := fun r hr => by
    have hsc := (hv2.ra r hr).sc
    rcases hw2 r hr with h0 | hin
    · omega
    · have := List.all_eq_true.1 hsz _ (DataW.weights_mem_each (j := 2) (t := 32) (d := d2) rfl rfl _ hin)
      have h2 : r.sc * 8 ≤ reachBytes := by simpa using this
      have h3 := reachBytes_lt
      omega
  clear hA0 hval0
  refine (walk x0 hv0 x1 hv1 hs1 x2 hv2 hs2).mono fun e W' ⟨he, bel⟩ => ?_
  subst he
  exact ⟨_, rfl, _, _, _, [], _, [], hW', trodAll_mk1 (shut_bool Tryz.underlying4 _), (trodAll_cons_mk (Below.trod laidOut (by kernel_rfl) (of_decide_eq_true (by kernel_rfl)) k0 bel lt0) (trodAll_cons_mk (Below.trod laidOut (by kernel_rfl) (of_decide_eq_true (by kernel_rfl)) k1 bel lt1) (trodAll_cons_mk (Below.trod laidOut (by kernel_rfl) (of_decide_eq_true (by kernel_rfl)) k2 bel lt2) trodAll_mk0))), rfl, bel.frame _, fun h => by cases h⟩

theorem over : Rows.planTellsRow.holds Tryz.pinned (OpenSpec.ofChange Rows.planTellsSpec) :=
  OpenClaim.holds_of_wide 3 Tryz.f3 rfl rfl rfl rfl rfl rfl rfl ⟨rfl, rfl, rfl, rfl, rfl⟩ rfl rfl rfl rfl rfl (by kernel_rfl) Tryz.func3 (by kernel_rfl)
    (of_decide_eq_true (by kernel_rfl)) (by unfold Func.isWrapper; first | (rw [if_pos (by decide +kernel)]; kernel_rfl) | (rw [if_neg (by decide +kernel)]; exact ⟨rfl, rfl⟩))
    (fun os started H enc _ => lifted os started H enc)

theorem proved : Rows.PlanTellsSaid := over
end Go.Proofs.YtmidkjlikhngmaaGreat.planTells
