/- Every call of the law that the certificate that is made, and whether a certificate holds, are the document's, answers true: for every world, orders and certificate. No conditions. -/
import Derived.Test.YtbacakblboodeaaRows
import Derived.Test.YtbacakblboodeaaBndL
import Derived.Test.YtbacakblboodeaaBndDc
import Derived.Test.YtbacakblboodeaaBndDd
import Derived.Deep.RegionHeld3
import Derived.WalkKit
import Derived.ProofKit
import Derived.OpenShut
import Derived.ShutString
import Derived.ChangeOld
import Derived.Below
import Derived.SizedLaws
namespace Go.Proofs.Ytbacakblboodeaa.boundTells
open Go.ChangeShapes Go.WideShapes Go.ChangeAt Go.RowKit
open Go.ChangeMaps (open_string shut_string)
set_option linter.unusedVariables false

theorem own : ownKnob Try.prog.godebug = none := by kernel_rfl
theorem laidOut : laidOutB Try.prog = true := by kernel_rfl

open Go.Proofs.Ytbacakblboodeaa
set_option maxRecDepth 100000

structure LB2 (V : World) (b1 b2 : Nat) (x : Wd) (q : Ct) : Prop where
  w : Box V b1 x.cells 28
  c : Box V b2 q.cells 31
theorem LB2.below {V V' : World} {b1 b2 : Nat} {x : Wd} {q : Ct} (h : LB2 V b1 b2 x q) (hb : Below V.heap.size V V') : LB2 V' b1 b2 x q := ⟨h.w.below hb, h.c.below hb⟩
structure LX2 (V : World) (b1 b2 : Nat) (x : Wd) (q : Ct) : Prop where
  w : WX V b1 x
  c : CX V b2 q
theorem LX2.below {V V' : World} {b1 b2 : Nat} {x : Wd} {q : Ct} (h : LX2 V b1 b2 x q) (hb : Below V.heap.size V V') : LX2 V' b1 b2 x q := ⟨h.w.below hb, h.c.below hb⟩
set_option maxHeartbeats 20000000 in
theorem walk {w : World} (x : Wd) (hx : WorldIn w x) (hk : x.k ≤ x.d) (hd : x.dm ≤ x.dc) (A : Option Addr) (n c : Nat) (l : List Int) (hn : l.length = n) (hnc : n ≤ c) (hc : c ≤ maxLen) (hl : IntsAt w A l) (q : Ct) (hq : CertIn w q) :
    Calls Try.prog 3 #[.agg #[.int .i64 x.N, .slice x.dA x.dm x.dc, .slice x.tA x.tm x.tc, .slice x.A x.m x.c, .slice x.B x.k x.d], .slice A n c, .agg #[.slice q.iA q.im q.ic, .slice q.nA q.nm q.nc, .int .i64 q.back, .int .i64 q.rate, .int .i64 q.fixed, .int .i64 q.bound]] w fun e w' => e = .returned (.bool true) ∧ Below w.heap.size w w' := by
  have HB0 : Hid (Below w.heap.size w ((w.alloc (.cells #[.int .i64 x.N, .slice x.dA x.dm x.dc, .slice x.tA x.tm x.tc, .slice x.A x.m x.c, .slice x.B x.k x.d] 28)).alloc (.cells #[.slice q.iA q.im q.ic, .slice q.nA q.nm q.nc, .int .i64 q.back, .int .i64 q.rate, .int .i64 q.fixed, .int .i64 q.bound] 31))) := below_more (below_alloc _ _) _
  have HX : Hid (LB2 ((w.alloc (.cells #[.int .i64 x.N, .slice x.dA x.dm x.dc, .slice x.tA x.tm x.tc, .slice x.A x.m x.c, .slice x.B x.k x.d] 28)).alloc (.cells #[.slice q.iA q.im q.ic, .slice q.nA q.nm q.nc, .int .i64 q.back, .int .i64 q.rate, .int .i64 q.fixed, .int .i64 q.bound] 31)) w.heap.size (w.heap.size + 1) x q) := ⟨(box_at _ _ _ _ (by simp)).below (below_alloc _ _), box_at _ _ _ _ (by simp)⟩
  have HWI := Lib.hid hx
  have HQI := Lib.hid hq
  have HCAP := Lib.hid hk
  have HN := Lib.hid hn
  have HL := Lib.hid hl
  have hcm : n ≤ 9223372036854775807 := by unfold maxLen at hc; omega
  clear hx hq hk hd hn hl hnc hc
  go_enter Try.func3, Try.ntmps3
  go_wp2_with fail
  generalize ((w.alloc (.cells #[.int .i64 x.N, .slice x.dA x.dm x.dc, .slice x.tA x.tm x.tc, .slice x.A x.m x.c, .slice x.B x.k x.d] 28)).alloc (.cells #[.slice q.iA q.im q.ic, .slice q.nA q.nm q.nc, .int .i64 q.back, .int .i64 q.rate, .int .i64 q.fixed, .int .i64 q.bound] 31)) = V at *
  generalize w.heap.size + 1 = b2 at *
  generalize hb1 : w.heap.size = b1 at HX ⊢
  have HBE := Lib.hid hb1
  clear hb1
  with_reducible refine (awake_any _).mono ?_
  rintro e V1 ⟨rfl, hv1⟩
  have HX1 := Lib.hid (HX.out.below hv1)
  have HB1 := Lib.hid (below_next HB0.out hv1)
  clear hv1 HX HB0
  obtain ⟨r, hr⟩ : ∃ r : Bool, r = true ↔ LargeC x q := by
    by_cases h : LargeC x q
    · exact ⟨true, by simp [h]⟩
    · exact ⟨false, by simp [h]⟩
  have HR := Lib.hid hr
  have HC := Lib.hid (clarge_b x q V1 r hr (HWI.out.below HB1.out) (HQI.out.below HB1.out))
  clear hr
  have c0 := wbox0 HX1.out.w
  have c1 := wbox1 HX1.out.w
  have c2 := wbox2 HX1.out.w
  have c3 := wbox3 HX1.out.w
  have c4 := wbox4 HX1.out.w
  have y0 := qbox0 HX1.out.c
  have y1 := qbox1 HX1.out.c
  have y2 := qbox2 HX1.out.c
  have y3 := qbox3 HX1.out.c
  have y4 := qbox4 HX1.out.c
  have y5 := qbox5 HX1.out.c
  go_wp2_with fail
  clear c0 c1 c2 c3 c4 y0 y1 y2 y3 y4 y5
  with_reducible refine HC.out.mono ?_
  rintro e V2 ⟨rfl, hv2⟩
  have HX2 := Lib.hid (HX1.out.below hv2.out)
  have HB2 := Lib.hid (below_next HB1.out hv2.out)
  clear hv2 HX1 HB1 HC
  cases r with
  | true =>
    go_wp2_with fail
    go_ret
    exact ⟨rfl, HB2.out⟩
  | false =>
    have HNL : Hid (¬ LargeC x q) := fun h => by have := HR.out.2 h; cases this
    clear HR
    by_cases h100 : 100 < n
    · have d1 : decide ((100 : Int) < (n : Int)) = true := decide_eq_true (by omega)
      go_wp2_with fail
      go_ret
      exact ⟨rfl, HB2.out⟩
    have d1 : decide ((100 : Int) < (n : Int)) = false := decide_eq_false (by omega)
    have HX3 : Hid (LX2 V2 b1 b2 x q) := ⟨⟨HX2.out.w, (HWI.out.below HB2.out).at_ (rd_of HNL.out)⟩, ⟨HX2.out.c, (HQI.out.below HB2.out).small HNL.out⟩⟩
    have hn2 : n ≤ 900 := by omega
    clear HX2 HNL HWI HQI h100
    obtain ⟨rm, hrm⟩ : ∃ z, Bo.makeS x.N x.D x.T x.os x.ts l = z := ⟨_, rfl⟩
    have HRM := Lib.hid hrm
    have HC := Lib.hid (make_b x A n c l V2 rm hrm HX3.out.w.at_ HCAP.out HN.out hn2 (HL.out.below HB2.out))
    clear hrm
    have c0 := HX3.out.w.c0
    have c1 := HX3.out.w.c1
    have c2 := HX3.out.w.c2
    have c3 := HX3.out.w.c3
    have c4 := HX3.out.w.c4
    go_wp2_with fail
    clear c0 c1 c2 c3 c4
    clear d1
    with_reducible refine HC.out.mono ?_
    rintro e w5 ⟨m, rfl, hmc, hm⟩
    have HMC := Lib.hid hmc
    have HX5 := Lib.hid ((HX3.out.below hm.out.1).below (below_alloc w5 (.cells #[.slice m.iA m.im m.ic, .slice m.nA m.nm m.nc, .int .i64 m.back, .int .i64 m.rate, .int .i64 m.fixed, .int .i64 m.bound] 31)))
    have HB5 := Lib.hid (below_more (below_next HB2.out hm.out.1) (.cells #[.slice m.iA m.im m.ic, .slice m.nA m.nm m.nc, .int .i64 m.back, .int .i64 m.rate, .int .i64 m.fixed, .int .i64 m.bound] 31))
    have HM5 : Hid (CX (w5.alloc (.cells #[.slice m.iA m.im m.ic, .slice m.nA m.nm m.nc, .int .i64 m.back, .int .i64 m.rate, .int .i64 m.fixed, .int .i64 m.bound] 31)) w5.heap.size m) := CX.new hm.out.2
    clear hmc hm HC HX3 HB2
    have c0 := HX5.out.w.c0
    have c1 := HX5.out.w.c1
    have c2 := HX5.out.w.c2
    have c3 := HX5.out.w.c3
    have c4 := HX5.out.w.c4
    go_wp2_with fail
    clear c0 c1 c2 c3 c4
    generalize w5.alloc (.cells #[.slice m.iA m.im m.ic, .slice m.nA m.nm m.nc, .int .i64 m.back, .int .i64 m.rate, .int .i64 m.fixed, .int .i64 m.bound] 31) = W5 at *
    generalize w5.heap.size = e7 at *
    have HC := Lib.hid (dmake_b x A n c l W5 rm HRM.out HX5.out.w.at_ HN.out hn2 (HL.out.below HB5.out))
    with_reducible refine HC.out.mono ?_
    rintro e w6 ⟨d, rfl, hdc, hd⟩
    have HDC := Lib.hid hdc
    have HX7 := Lib.hid ((HX5.out.below hd.out.1).below (below_alloc w6 (.cells #[.slice d.iA d.im d.ic, .slice d.nA d.nm d.nc, .int .i64 d.back, .int .i64 d.rate, .int .i64 d.fixed, .int .i64 d.bound] 37)))
    have HB7 := Lib.hid (below_more (below_next HB5.out hd.out.1) (.cells #[.slice d.iA d.im d.ic, .slice d.nA d.nm d.nc, .int .i64 d.back, .int .i64 d.rate, .int .i64 d.fixed, .int .i64 d.bound] 37))
    have HM7 := Lib.hid ((HM5.out.below hd.out.1).below (below_alloc w6 (.cells #[.slice d.iA d.im d.ic, .slice d.nA d.nm d.nc, .int .i64 d.back, .int .i64 d.rate, .int .i64 d.fixed, .int .i64 d.bound] 37)))
    have HD7 : Hid (Box (w6.alloc (.cells #[.slice d.iA d.im d.ic, .slice d.nA d.nm d.nc, .int .i64 d.back, .int .i64 d.rate, .int .i64 d.fixed, .int .i64 d.bound] 37)) w6.heap.size d.cells 37) := Box.new _ _ _
    have HDA := Lib.hid (hd.out.2.below (below_alloc w6 (.cells #[.slice d.iA d.im d.ic, .slice d.nA d.nm d.nc, .int .i64 d.back, .int .i64 d.rate, .int .i64 d.fixed, .int .i64 d.bound] 37)))
    clear hdc hd HC HX5 HB5 HM5
    go_upto_region 7 with fail
    generalize w6.alloc (.cells #[.slice d.iA d.im d.ic, .slice d.nA d.nm d.nc, .int .i64 d.back, .int .i64 d.rate, .int .i64 d.fixed, .int .i64 d.bound] 37) = W0 at *
    generalize w6.heap.size = e9 at *
    have HSA : Hid (m.c = d.c) := by unfold Hid; rw [HMC.out, HDC.out]
    obtain ⟨bh, hbh⟩ : ∃ z, Bo.holdsB x.N x.D x.T x.os x.ts q.c = z := ⟨_, rfl⟩
    have HBH := Lib.hid hbh
    clear hbh
    have HYS : Hid (∀ U, Hid (Below W0.heap.size W0 U) → (U.cell? ⟨b1, 0, none⟩ = some (.int .i64 x.N) ∧ U.cell? ⟨b1, 1, none⟩ = some (.slice x.dA x.dm x.dc) ∧ U.cell? ⟨b1, 2, none⟩ = some (.slice x.tA x.tm x.tc) ∧ U.cell? ⟨b1, 3, none⟩ = some (.slice x.A x.m x.c) ∧ U.cell? ⟨b1, 4, none⟩ = some (.slice x.B x.k x.d) ∧ U.cell? ⟨b2, 0, none⟩ = some (.slice q.iA q.im q.ic) ∧ U.cell? ⟨b2, 1, none⟩ = some (.slice q.nA q.nm q.nc) ∧ U.cell? ⟨b2, 2, none⟩ = some (.int .i64 q.back) ∧ U.cell? ⟨b2, 3, none⟩ = some (.int .i64 q.rate) ∧ U.cell? ⟨b2, 4, none⟩ = some (.int .i64 q.fixed) ∧ U.cell? ⟨b2, 5, none⟩ = some (.int .i64 q.bound) ∧ U.cell? ⟨e7, 0, none⟩ = some (.slice m.iA m.im m.ic) ∧ U.cell? ⟨e7, 1, none⟩ = some (.slice m.nA m.nm m.nc) ∧ U.cell? ⟨e7, 2, none⟩ = some (.int .i64 m.back) ∧ U.cell? ⟨e7, 3, none⟩ = some (.int .i64 m.rate) ∧ U.cell? ⟨e7, 4, none⟩ = some (.int .i64 m.fixed) ∧ U.cell? ⟨e7, 5, none⟩ = some (.int .i64 m.bound) ∧ U.cell? ⟨e9, 0, none⟩ = some (.slice d.iA d.im d.ic) ∧ U.cell? ⟨e9, 1, none⟩ = some (.slice d.nA d.nm d.nc) ∧ U.cell? ⟨e9, 2, none⟩ = some (.int .i64 d.back) ∧ U.cell? ⟨e9, 3, none⟩ = some (.int .i64 d.rate) ∧ U.cell? ⟨e9, 4, none⟩ = some (.int .i64 d.fixed) ∧ U.cell? ⟨e9, 5, none⟩ = some (.int .i64 d.bound) ∧ Hid (Below W0.heap.size W0 U))) := fun U hU => ⟨(HX7.out.below hU.out).w.c0, (HX7.out.below hU.out).w.c1, (HX7.out.below hU.out).w.c2, (HX7.out.below hU.out).w.c3, (HX7.out.below hU.out).w.c4, (HX7.out.below hU.out).c.c0, (HX7.out.below hU.out).c.c1, (HX7.out.below hU.out).c.c2, (HX7.out.below hU.out).c.c3, (HX7.out.below hU.out).c.c4, (HX7.out.below hU.out).c.c5, (HM7.out.below hU.out).c0, (HM7.out.below hU.out).c1, (HM7.out.below hU.out).c2, (HM7.out.below hU.out).c3, (HM7.out.below hU.out).c4, (HM7.out.below hU.out).c5, qrc0 (HD7.out.below hU.out), qrc1 (HD7.out.below hU.out), qrc2 (HD7.out.below hU.out), qrc3 (HD7.out.below hU.out), qrc4 (HD7.out.below hU.out), qrc5 (HD7.out.below hU.out), hU⟩
    have HDR : Hid (Below W0.heap.size W0 W0.drew) := (Below.refl W0.heap.size W0).drew
    have HSM : Hid (∀ U, Hid (Below W0.heap.size W0 U) → Calls Try.prog 11 #[.agg #[.slice m.iA m.im m.ic, .slice m.nA m.nm m.nc, .int .i64 m.back, .int .i64 m.rate, .int .i64 m.fixed, .int .i64 m.bound], .agg #[.slice d.iA d.im d.ic, .slice d.nA d.nm d.nc, .int .i64 d.back, .int .i64 d.rate, .int .i64 d.fixed, .int .i64 d.bound]] U fun e w' => e = .returned (.bool true) ∧ Hid (Below W0.heap.size W0 w')) := fun U hU =>
      (csame_b m d U true ⟨fun _ => HSA.out, fun _ => rfl⟩ (HM7.out.below hU.out).at_ (HDA.out.below hU.out)).mono fun e w' ⟨e1, h⟩ => ⟨e1, below_next hU.out h.out⟩
    have HHO : Hid (∀ U, Hid (Below W0.heap.size W0 U) → Calls Try.prog 12 #[.agg #[.int .i64 x.N, .slice x.dA x.dm x.dc, .slice x.tA x.tm x.tc, .slice x.A x.m x.c, .slice x.B x.k x.d], .agg #[.slice q.iA q.im q.ic, .slice q.nA q.nm q.nc, .int .i64 q.back, .int .i64 q.rate, .int .i64 q.fixed, .int .i64 q.bound]] U fun e w' => e = .returned (.bool bh) ∧ Hid (Below W0.heap.size W0 w')) := fun U hU =>
      (holds_b x q U bh HBH.out (HX7.out.below hU.out).w.at_ HCAP.out (HX7.out.below hU.out).c.at_).mono fun e w' ⟨e1, h⟩ => ⟨e1, below_next hU.out h.out⟩
    have HHD : Hid (∀ U, Hid (Below W0.heap.size W0 U) → Calls Try.prog 13 #[.agg #[.int .i64 x.N, .slice x.dA x.dm x.dc, .slice x.tA x.tm x.tc, .slice x.A x.m x.c, .slice x.B x.k x.d], .agg #[.slice q.iA q.im q.ic, .slice q.nA q.nm q.nc, .int .i64 q.back, .int .i64 q.rate, .int .i64 q.fixed, .int .i64 q.bound]] U fun e w' => e = .returned (.bool bh) ∧ Hid (Below W0.heap.size W0 w')) := fun U hU =>
      (dholds_b x q U bh HBH.out (HX7.out.below hU.out).w.at_ (HX7.out.below hU.out).c.at_).mono fun e w' ⟨e1, h⟩ => ⟨e1, below_next hU.out h.out⟩
    have eb : (bh == bh) = true := by simp
    have ee : (rm.2 == rm.2) = true := by simp
    go_region_held3 (fun U : World => U.cell? ⟨b1, 0, none⟩ = some (.int .i64 x.N) ∧ U.cell? ⟨b1, 1, none⟩ = some (.slice x.dA x.dm x.dc) ∧ U.cell? ⟨b1, 2, none⟩ = some (.slice x.tA x.tm x.tc) ∧ U.cell? ⟨b1, 3, none⟩ = some (.slice x.A x.m x.c) ∧ U.cell? ⟨b1, 4, none⟩ = some (.slice x.B x.k x.d) ∧ U.cell? ⟨b2, 0, none⟩ = some (.slice q.iA q.im q.ic) ∧ U.cell? ⟨b2, 1, none⟩ = some (.slice q.nA q.nm q.nc) ∧ U.cell? ⟨b2, 2, none⟩ = some (.int .i64 q.back) ∧ U.cell? ⟨b2, 3, none⟩ = some (.int .i64 q.rate) ∧ U.cell? ⟨b2, 4, none⟩ = some (.int .i64 q.fixed) ∧ U.cell? ⟨b2, 5, none⟩ = some (.int .i64 q.bound) ∧ U.cell? ⟨e7, 0, none⟩ = some (.slice m.iA m.im m.ic) ∧ U.cell? ⟨e7, 1, none⟩ = some (.slice m.nA m.nm m.nc) ∧ U.cell? ⟨e7, 2, none⟩ = some (.int .i64 m.back) ∧ U.cell? ⟨e7, 3, none⟩ = some (.int .i64 m.rate) ∧ U.cell? ⟨e7, 4, none⟩ = some (.int .i64 m.fixed) ∧ U.cell? ⟨e7, 5, none⟩ = some (.int .i64 m.bound) ∧ U.cell? ⟨e9, 0, none⟩ = some (.slice d.iA d.im d.ic) ∧ U.cell? ⟨e9, 1, none⟩ = some (.slice d.nA d.nm d.nc) ∧ U.cell? ⟨e9, 2, none⟩ = some (.int .i64 d.back) ∧ U.cell? ⟨e9, 3, none⟩ = some (.int .i64 d.rate) ∧ U.cell? ⟨e9, 4, none⟩ = some (.int .i64 d.fixed) ∧ U.cell? ⟨e9, 5, none⟩ = some (.int .i64 d.bound) ∧ Hid (Below W0.heap.size W0 U)) (first | exact HYS.out _ (by assumption) | exact HYS.out _ HDR.out) (first
      | (go_at_call 11; (with_reducible refine (HSM.out _ (by assumption)).mono ?_); rintro e u5 ⟨rfl, k5⟩)
      | (go_at_call 12; (with_reducible refine (HHO.out _ (by assumption)).mono ?_); rintro e u6 ⟨rfl, k6⟩)
      | (go_at_call 13; (with_reducible refine (HHD.out _ (by assumption)).mono ?_); rintro e u7 ⟨rfl, k7⟩))
    all_goals
      go_wp2
      go_ret
      exact ⟨by simp, below_next HB7.out (Hid.out (by assumption))⟩

set_option maxRecDepth 100000 in
theorem lifted (os : Os) (started : os.Started) (H : Type) (enc : TypeId × Value → H) :
    ReturnsInHanded {} Try.checked os 3 .any (Rows.boundTellsSpec.pre6 enc Try.prog Try.f3 Rows.boundTellsRow.domain false) (Rows.boundTellsSpec.post enc Try.prog Try.f3 false true false false) := by
  refine returnsInHanded_of_change_sized (C := Try.checked) own started (by kernel_rfl) Try.func3
    (ChangeSpec.witness6 (enc := enc) (C := Try.checked) false ⟨#[], #[.agg #[.int .i64 0, .slice none 0 0, .slice none 0 0, .slice none 0 0, .slice none 0 0], .slice none 0 0, .agg #[.slice none 0 0, .slice none 0 0, .int .i64 0, .int .i64 0, .int .i64 0, .int .i64 0]], []⟩ 8 (by kernel_rfl) (by kernel_rfl) (by kernel_rfl) (by kernel_rfl)) ?_
  intro W base args ds gs before hval0 hW _ hsz0 _
  have hsz : (DataW.weightsEach Try.prog (Try.f3.params.toList ++ Rows.boundTellsSpec.plain.varTypes Try.prog) (ds ++ gs)).all (· ≤ reachBytes) = true := hsz0
  have hval : ∀ (j : Nat) t v, Try.f3.params[j]? = some t → args[j]? = some v → Value.okWide Try.prog W .any base t v := hval0
  have hW' := hW
  obtain ⟨p, q, hA0, hV, rfl, hfz, hnd⟩ := hW
  have hA : DataW.TrodAll enc Try.prog W 0 (fun _ => true) true Try.f3.params.toList args.toList ds p := hA0
  rw [Try.params3] at hA hval hsz
  obtain ⟨v0, vs0, d0, ds0, p0, q0, hargs, rfl, rfl, h0, r0⟩ := trodAll_cons hA
  obtain ⟨v1, vs1, d1, ds1, p1, q1, rfl, rfl, rfl, h1, r1⟩ := trodAll_cons r0
  obtain ⟨v2, vs2, d2, ds2, p2, q2, rfl, rfl, rfl, h2, r2⟩ := trodAll_cons r1
  obtain ⟨rfl, rfl, rfl⟩ := trodAll_nil r2
  obtain rfl : args = #[v0, v1, v2] := by cases args; simp_all
  obtain ⟨rfl, rfl⟩ := trodVars_none hV
  have k0 := h0
  have lt0 : ∀ x ∈ p0, x.block < W.heap.size := by obtain ⟨m, hm⟩ := k0; exact DataW.trod_lt m _ _ _ hm
  obtain ⟨x0, rfl, hv0, hk0, hd0⟩ := open_world_cap (hval 0 28 v0 rfl rfl) h0
  have k1 := h1
  have lt1 : ∀ x ∈ p1, x.block < W.heap.size := by obtain ⟨m, hm⟩ := k1; exact DataW.trod_lt m _ _ _ hm
  obtain ⟨a1, len1, cap1, l1, rfl, hl1, hlc1, hcm1, hv1⟩ := open_nodes (hval 1 29 v1 rfl rfl) h1
  have k2 := h2
  have lt2 : ∀ x ∈ p2, x.block < W.heap.size := by obtain ⟨m, hm⟩ := k2; exact DataW.trod_lt m _ _ _ hm
  obtain ⟨x2, rfl, hv2⟩ := open_cert_in (hval 2 31 v2 rfl rfl) h2
  clear hA0 hval0
  refine (walk x0 hv0 hk0 hd0 a1 len1 cap1 l1 hl1 hlc1 hcm1 hv1 x2 hv2).mono fun e W' ⟨he, bel⟩ => ?_
  subst he
  exact ⟨_, rfl, _, _, _, [], _, [], hW', trodAll_mk1 (shut_bool Try.underlying4 _), (trodAll_cons_mk (Below.trod laidOut (by kernel_rfl) (of_decide_eq_true (by kernel_rfl)) k0 bel lt0) (trodAll_cons_mk (Below.trod laidOut (by kernel_rfl) (of_decide_eq_true (by kernel_rfl)) k1 bel lt1) (trodAll_cons_mk (Below.trod laidOut (by kernel_rfl) (of_decide_eq_true (by kernel_rfl)) k2 bel lt2) trodAll_mk0))), rfl, bel.frame _, fun h => by cases h⟩

theorem over : Rows.boundTellsRow.holds Try.pinned (OpenSpec.ofChange Rows.boundTellsSpec) :=
  OpenClaim.holds_of_wide 3 Try.f3 rfl rfl rfl rfl rfl rfl rfl ⟨rfl, rfl, rfl, rfl, rfl⟩ rfl rfl rfl rfl rfl (by kernel_rfl) Try.func3 (by kernel_rfl)
    (of_decide_eq_true (by kernel_rfl)) (by unfold Func.isWrapper; first | (rw [if_pos (by decide +kernel)]; kernel_rfl) | (rw [if_neg (by decide +kernel)]; exact ⟨rfl, rfl⟩))
    (fun os started H enc _ => lifted os started H enc)

theorem proved : Rows.BoundTellsSaid := over
end Go.Proofs.Ytbacakblboodeaa.boundTells
