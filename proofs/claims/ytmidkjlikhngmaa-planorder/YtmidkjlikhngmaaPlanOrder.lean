/- Every call of the law that nothing is better than itself, of two plans one is better at most, and better than a better one is better, answers true: for every world and plans. No conditions. -/
import Derived.Test.YtmidkjlikhngmaaRows
import Derived.Test.YtmidkjlikhngmaaPlanLaw
import Derived.Deep.RegionHeld3
import Derived.WalkKit
import Derived.ProofKit
import Derived.OpenShut
import Derived.ShutString
import Derived.ChangeOld
import Derived.Below
import Derived.SizedLaws
namespace Go.Proofs.Ytmidkjlikhngmaa.planOrder
open Go.ChangeShapes Go.WideShapes Go.ChangeAt Go.RowKit
open Go.ChangeMaps (open_string shut_string)
set_option linter.unusedVariables false

theorem own : ownKnob Try.prog.godebug = none := by kernel_rfl
theorem laidOut : laidOutB Try.prog = true := by kernel_rfl

open Go.Proofs.Ytmidkjlikhngmaa
set_option maxRecDepth 100000

/-- the boxes of the law -/
structure OB (V : World) (b1 b2 b3 b4 : Nat) (x : Wd) (a b c : Pd) : Prop where
  w : Box V b1 x.cells 28
  a : Box V b2 a.cells 32
  b : Box V b3 b.cells 32
  c : Box V b4 c.cells 32
theorem OB.below {V V' : World} {b1 b2 b3 b4 : Nat} {x : Wd} {a b c : Pd} (h : OB V b1 b2 b3 b4 x a b c) (hb : Below V.heap.size V V') : OB V' b1 b2 b3 b4 x a b c := ⟨h.w.below hb, h.a.below hb, h.b.below hb, h.c.below hb⟩
theorem OB.new (w : World) (x : Wd) (a b c : Pd) : OB ((((w.alloc (.cells #[.int .i64 x.N, .slice x.dA x.dm x.dc, .slice x.tA x.tm x.tc, .slice x.A x.m x.c, .slice x.B x.k x.d] 28)).alloc (.cells #[.slice a.rA a.rm a.rc, .slice a.uA a.um a.uc] 32)).alloc (.cells #[.slice b.rA b.rm b.rc, .slice b.uA b.um b.uc] 32)).alloc (.cells #[.slice c.rA c.rm c.rc, .slice c.uA c.um c.uc] 32)) w.heap.size (w.heap.size + 1) (w.heap.size + 1 + 1) (w.heap.size + 1 + 1 + 1) x a b c :=
  ⟨(((Box.new w _ _).below (below_alloc _ _)).below (below_alloc _ _)).below (below_alloc _ _), ((box_new_at _ _ _ _ (by simp)).below (below_alloc _ _)).below (below_alloc _ _), (box_new_at _ _ _ _ (by simp)).below (below_alloc _ _), box_new_at _ _ _ _ (by simp)⟩

set_option maxHeartbeats 20000000 in
theorem walk {w : World} (x : Wd) (hx : WorldIn w x) (a : Pd) (ha : PlanIn w a) (fa : Few a) (b : Pd) (hb : PlanIn w b) (fb : Few b) (c : Pd) (hc : PlanIn w c) (fc : Few c) :
    Calls Try.prog 5 #[.agg #[.int .i64 x.N, .slice x.dA x.dm x.dc, .slice x.tA x.tm x.tc, .slice x.A x.m x.c, .slice x.B x.k x.d], .agg #[.slice a.rA a.rm a.rc, .slice a.uA a.um a.uc], .agg #[.slice b.rA b.rm b.rc, .slice b.uA b.um b.uc], .agg #[.slice c.rA c.rm c.rc, .slice c.uA c.um c.uc]] w fun e w' => e = .returned (.bool true) ∧ Below w.heap.size w w' := by
  have HB0 : Hid (Below w.heap.size w ((((w.alloc (.cells #[.int .i64 x.N, .slice x.dA x.dm x.dc, .slice x.tA x.tm x.tc, .slice x.A x.m x.c, .slice x.B x.k x.d] 28)).alloc (.cells #[.slice a.rA a.rm a.rc, .slice a.uA a.um a.uc] 32)).alloc (.cells #[.slice b.rA b.rm b.rc, .slice b.uA b.um b.uc] 32)).alloc (.cells #[.slice c.rA c.rm c.rc, .slice c.uA c.um c.uc] 32))) := below_more (below_more (below_more (below_alloc _ _) _) _) _
  have HX := Lib.hid (OB.new w x a b c)
  have HWI := Lib.hid hx
  have HPI : Hid (Plans w [a, b, c]) := ⟨by simp only [List.mem_cons, List.not_mem_nil, or_false]; rintro p (rfl | rfl | rfl) <;> assumption, by simp only [List.mem_cons, List.not_mem_nil, or_false]; rintro p (rfl | rfl | rfl) <;> assumption⟩
  clear hx ha hb hc fa fb fc
  go_enter Try.func5, Try.ntmps5
  go_wp2_with fail
  generalize ((((w.alloc (.cells #[.int .i64 x.N, .slice x.dA x.dm x.dc, .slice x.tA x.tm x.tc, .slice x.A x.m x.c, .slice x.B x.k x.d] 28)).alloc (.cells #[.slice a.rA a.rm a.rc, .slice a.uA a.um a.uc] 32)).alloc (.cells #[.slice b.rA b.rm b.rc, .slice b.uA b.um b.uc] 32)).alloc (.cells #[.slice c.rA c.rm c.rc, .slice c.uA c.um c.uc] 32)) = V at *
  generalize w.heap.size + 1 + 1 + 1 = b4 at *
  generalize w.heap.size + 1 + 1 = b3 at *
  generalize w.heap.size + 1 = b2 at *
  generalize hb1 : w.heap.size = b1 at HX ⊢
  have HBE := Lib.hid hb1
  clear hb1
  with_reducible refine (awake_any _).mono ?_
  rintro e V1 ⟨rfl, hv1⟩
  have HX1 := Lib.hid (HX.out.below hv1)
  have HB1 := Lib.hid (below_next HB0.out hv1)
  clear hv1 HX HB0
  obtain ⟨r, hr⟩ : ∃ r : Bool, r = true ↔ LargeL x [a, b, c] := by
    by_cases h : LargeL x [a, b, c]
    · exact ⟨true, by simp [h]⟩
    · exact ⟨false, by simp [h]⟩
  have HR := Lib.hid hr
  have HBL := Lib.hid (below_more HB1.out (.cells #[.slice a.rA a.rm a.rc, .slice a.uA a.um a.uc, .slice b.rA b.rm b.rc, .slice b.uA b.um b.uc, .slice c.rA c.rm c.rc, .slice c.uA c.um c.uc] 32))
  have HC := Lib.hid (llarge_b x (some ⟨V1.heap.size, 0, none⟩) 3 3 [a, b, c] (V1.alloc (.cells #[.slice a.rA a.rm a.rc, .slice a.uA a.um a.uc, .slice b.rA b.rm b.rc, .slice b.uA b.um b.uc, .slice c.rA c.rm c.rc, .slice c.uA c.um c.uc] 32)) r hr (WorldIn.below HWI.out HBL.out) rfl (by omega) (rowsP_box (ps := [a, b, c]) (Box.new V1 _ _)) (HPI.out.below HBL.out))
  clear hr
  have c0 := wbox0 HX1.out.w
  have c1 := wbox1 HX1.out.w
  have c2 := wbox2 HX1.out.w
  have c3 := wbox3 HX1.out.w
  have c4 := wbox4 HX1.out.w
  have a0 := pbox0 HX1.out.a
  have a1 := pbox1 HX1.out.a
  have e0 := pbox0 HX1.out.b
  have e1 := pbox1 HX1.out.b
  have f0 := pbox0 HX1.out.c
  have f1 := pbox1 HX1.out.c
  go_wp2_with fail
  clear c0 c1 c2 c3 c4 a0 a1 e0 e1 f0 f1
  with_reducible refine HC.out.mono ?_
  rintro e V2 ⟨rfl, hv2⟩
  have HX2 := Lib.hid ((HX1.out.below (below_alloc _ (.cells #[.slice a.rA a.rm a.rc, .slice a.uA a.um a.uc, .slice b.rA b.rm b.rc, .slice b.uA b.um b.uc, .slice c.rA c.rm c.rc, .slice c.uA c.um c.uc] 32))).below hv2.out)
  have HB2 := Lib.hid (below_next HBL.out hv2.out)
  clear hv2 HX1 HB1 HBL HC
  cases r with
  | true =>
    go_wp2_with fail
    go_ret
    exact ⟨rfl, HB2.out⟩
  | false =>
    have hnl : ¬ LargeL x [a, b, c] := fun h => by have := HR.out.2 h; cases this
    obtain ⟨nl, np⟩ := not_large hnl
    have HWX : Hid (∀ U, Below V2.heap.size V2 U → WAt U x) := fun U hU => (WorldIn.at_ (HWI.out.below HB2.out) nl).below hU
    have HPA : Hid (∀ p ∈ [a, b, c], ∀ U, Below V2.heap.size V2 U → PAt U p) := fun p hp U hU => (((HPI.out.c p hp).below HB2.out).at_ (np p hp)).below hU
    clear hnl nl np HR
    have HCE : Hid (∀ U : World, Below V2.heap.size V2 U → (U.cell? ⟨b1, 0, none⟩ = some (.int .i64 x.N) ∧ U.cell? ⟨b1, 1, none⟩ = some (.slice x.dA x.dm x.dc) ∧ U.cell? ⟨b1, 2, none⟩ = some (.slice x.tA x.tm x.tc) ∧ U.cell? ⟨b1, 3, none⟩ = some (.slice x.A x.m x.c) ∧ U.cell? ⟨b1, 4, none⟩ = some (.slice x.B x.k x.d) ∧ U.cell? ⟨b2, 0, none⟩ = some (.slice a.rA a.rm a.rc) ∧ U.cell? ⟨b2, 1, none⟩ = some (.slice a.uA a.um a.uc) ∧ U.cell? ⟨b3, 0, none⟩ = some (.slice b.rA b.rm b.rc) ∧ U.cell? ⟨b3, 1, none⟩ = some (.slice b.uA b.um b.uc) ∧ U.cell? ⟨b4, 0, none⟩ = some (.slice c.rA c.rm c.rc) ∧ U.cell? ⟨b4, 1, none⟩ = some (.slice c.uA c.um c.uc) ∧ Below V2.heap.size V2 U)) := fun U hU => by
      have h := HX2.out.below hU
      exact ⟨wbox0 h.w, wbox1 h.w, wbox2 h.w, wbox3 h.w, wbox4 h.w, pbox0 h.a, pbox1 h.a, pbox0 h.b, pbox1 h.b, pbox0 h.c, pbox1 h.c, hU⟩
    obtain ⟨ab, hab⟩ : ∃ r, lessP x a b = r := ⟨_, rfl⟩
    obtain ⟨bc, hbc⟩ : ∃ r, lessP x b c = r := ⟨_, rfl⟩
    obtain ⟨ac, hac⟩ : ∃ r, lessP x a c = r := ⟨_, rfl⟩
    have HAB := Lib.hid hab
    have HBC := Lib.hid hbc
    have HAC := Lib.hid hac
    clear hab hbc hac
    have HC1 : Hid (∀ U : World, (U.cell? ⟨b1, 0, none⟩ = some (.int .i64 x.N) ∧ U.cell? ⟨b1, 1, none⟩ = some (.slice x.dA x.dm x.dc) ∧ U.cell? ⟨b1, 2, none⟩ = some (.slice x.tA x.tm x.tc) ∧ U.cell? ⟨b1, 3, none⟩ = some (.slice x.A x.m x.c) ∧ U.cell? ⟨b1, 4, none⟩ = some (.slice x.B x.k x.d) ∧ U.cell? ⟨b2, 0, none⟩ = some (.slice a.rA a.rm a.rc) ∧ U.cell? ⟨b2, 1, none⟩ = some (.slice a.uA a.um a.uc) ∧ U.cell? ⟨b3, 0, none⟩ = some (.slice b.rA b.rm b.rc) ∧ U.cell? ⟨b3, 1, none⟩ = some (.slice b.uA b.um b.uc) ∧ U.cell? ⟨b4, 0, none⟩ = some (.slice c.rA c.rm c.rc) ∧ U.cell? ⟨b4, 1, none⟩ = some (.slice c.uA c.um c.uc) ∧ Below V2.heap.size V2 U) → Calls Try.prog 11 #[.agg #[.int .i64 x.N, .slice x.dA x.dm x.dc, .slice x.tA x.tm x.tc, .slice x.A x.m x.c, .slice x.B x.k x.d], .agg #[.slice a.rA a.rm a.rc, .slice a.uA a.um a.uc], .agg #[.slice b.rA b.rm b.rc, .slice b.uA b.um b.uc]] U fun e U => e = .returned (.bool ab) ∧ (U.cell? ⟨b1, 0, none⟩ = some (.int .i64 x.N) ∧ U.cell? ⟨b1, 1, none⟩ = some (.slice x.dA x.dm x.dc) ∧ U.cell? ⟨b1, 2, none⟩ = some (.slice x.tA x.tm x.tc) ∧ U.cell? ⟨b1, 3, none⟩ = some (.slice x.A x.m x.c) ∧ U.cell? ⟨b1, 4, none⟩ = some (.slice x.B x.k x.d) ∧ U.cell? ⟨b2, 0, none⟩ = some (.slice a.rA a.rm a.rc) ∧ U.cell? ⟨b2, 1, none⟩ = some (.slice a.uA a.um a.uc) ∧ U.cell? ⟨b3, 0, none⟩ = some (.slice b.rA b.rm b.rc) ∧ U.cell? ⟨b3, 1, none⟩ = some (.slice b.uA b.um b.uc) ∧ U.cell? ⟨b4, 0, none⟩ = some (.slice c.rA c.rm c.rc) ∧ U.cell? ⟨b4, 1, none⟩ = some (.slice c.uA c.um c.uc) ∧ Below V2.heap.size V2 U)) := by
      rintro U ⟨_, _, _, _, _, _, _, _, _, _, _, h⟩
      exact (less_b x a b U ab HAB.out (HWX.out U h) (HPA.out a (by simp) U h) (HPA.out b (by simp) U h)).mono fun _ _ ⟨e1, e2⟩ => ⟨e1, HCE.out _ (below_next h e2.out)⟩
    have HC2 : Hid (∀ U : World, (U.cell? ⟨b1, 0, none⟩ = some (.int .i64 x.N) ∧ U.cell? ⟨b1, 1, none⟩ = some (.slice x.dA x.dm x.dc) ∧ U.cell? ⟨b1, 2, none⟩ = some (.slice x.tA x.tm x.tc) ∧ U.cell? ⟨b1, 3, none⟩ = some (.slice x.A x.m x.c) ∧ U.cell? ⟨b1, 4, none⟩ = some (.slice x.B x.k x.d) ∧ U.cell? ⟨b2, 0, none⟩ = some (.slice a.rA a.rm a.rc) ∧ U.cell? ⟨b2, 1, none⟩ = some (.slice a.uA a.um a.uc) ∧ U.cell? ⟨b3, 0, none⟩ = some (.slice b.rA b.rm b.rc) ∧ U.cell? ⟨b3, 1, none⟩ = some (.slice b.uA b.um b.uc) ∧ U.cell? ⟨b4, 0, none⟩ = some (.slice c.rA c.rm c.rc) ∧ U.cell? ⟨b4, 1, none⟩ = some (.slice c.uA c.um c.uc) ∧ Below V2.heap.size V2 U) → Calls Try.prog 11 #[.agg #[.int .i64 x.N, .slice x.dA x.dm x.dc, .slice x.tA x.tm x.tc, .slice x.A x.m x.c, .slice x.B x.k x.d], .agg #[.slice b.rA b.rm b.rc, .slice b.uA b.um b.uc], .agg #[.slice c.rA c.rm c.rc, .slice c.uA c.um c.uc]] U fun e U => e = .returned (.bool bc) ∧ (U.cell? ⟨b1, 0, none⟩ = some (.int .i64 x.N) ∧ U.cell? ⟨b1, 1, none⟩ = some (.slice x.dA x.dm x.dc) ∧ U.cell? ⟨b1, 2, none⟩ = some (.slice x.tA x.tm x.tc) ∧ U.cell? ⟨b1, 3, none⟩ = some (.slice x.A x.m x.c) ∧ U.cell? ⟨b1, 4, none⟩ = some (.slice x.B x.k x.d) ∧ U.cell? ⟨b2, 0, none⟩ = some (.slice a.rA a.rm a.rc) ∧ U.cell? ⟨b2, 1, none⟩ = some (.slice a.uA a.um a.uc) ∧ U.cell? ⟨b3, 0, none⟩ = some (.slice b.rA b.rm b.rc) ∧ U.cell? ⟨b3, 1, none⟩ = some (.slice b.uA b.um b.uc) ∧ U.cell? ⟨b4, 0, none⟩ = some (.slice c.rA c.rm c.rc) ∧ U.cell? ⟨b4, 1, none⟩ = some (.slice c.uA c.um c.uc) ∧ Below V2.heap.size V2 U)) := by
      rintro U ⟨_, _, _, _, _, _, _, _, _, _, _, h⟩
      exact (less_b x b c U bc HBC.out (HWX.out U h) (HPA.out b (by simp) U h) (HPA.out c (by simp) U h)).mono fun _ _ ⟨e1, e2⟩ => ⟨e1, HCE.out _ (below_next h e2.out)⟩
    have HC3 : Hid (∀ U : World, (U.cell? ⟨b1, 0, none⟩ = some (.int .i64 x.N) ∧ U.cell? ⟨b1, 1, none⟩ = some (.slice x.dA x.dm x.dc) ∧ U.cell? ⟨b1, 2, none⟩ = some (.slice x.tA x.tm x.tc) ∧ U.cell? ⟨b1, 3, none⟩ = some (.slice x.A x.m x.c) ∧ U.cell? ⟨b1, 4, none⟩ = some (.slice x.B x.k x.d) ∧ U.cell? ⟨b2, 0, none⟩ = some (.slice a.rA a.rm a.rc) ∧ U.cell? ⟨b2, 1, none⟩ = some (.slice a.uA a.um a.uc) ∧ U.cell? ⟨b3, 0, none⟩ = some (.slice b.rA b.rm b.rc) ∧ U.cell? ⟨b3, 1, none⟩ = some (.slice b.uA b.um b.uc) ∧ U.cell? ⟨b4, 0, none⟩ = some (.slice c.rA c.rm c.rc) ∧ U.cell? ⟨b4, 1, none⟩ = some (.slice c.uA c.um c.uc) ∧ Below V2.heap.size V2 U) → Calls Try.prog 11 #[.agg #[.int .i64 x.N, .slice x.dA x.dm x.dc, .slice x.tA x.tm x.tc, .slice x.A x.m x.c, .slice x.B x.k x.d], .agg #[.slice a.rA a.rm a.rc, .slice a.uA a.um a.uc], .agg #[.slice c.rA c.rm c.rc, .slice c.uA c.um c.uc]] U fun e U => e = .returned (.bool ac) ∧ (U.cell? ⟨b1, 0, none⟩ = some (.int .i64 x.N) ∧ U.cell? ⟨b1, 1, none⟩ = some (.slice x.dA x.dm x.dc) ∧ U.cell? ⟨b1, 2, none⟩ = some (.slice x.tA x.tm x.tc) ∧ U.cell? ⟨b1, 3, none⟩ = some (.slice x.A x.m x.c) ∧ U.cell? ⟨b1, 4, none⟩ = some (.slice x.B x.k x.d) ∧ U.cell? ⟨b2, 0, none⟩ = some (.slice a.rA a.rm a.rc) ∧ U.cell? ⟨b2, 1, none⟩ = some (.slice a.uA a.um a.uc) ∧ U.cell? ⟨b3, 0, none⟩ = some (.slice b.rA b.rm b.rc) ∧ U.cell? ⟨b3, 1, none⟩ = some (.slice b.uA b.um b.uc) ∧ U.cell? ⟨b4, 0, none⟩ = some (.slice c.rA c.rm c.rc) ∧ U.cell? ⟨b4, 1, none⟩ = some (.slice c.uA c.um c.uc) ∧ Below V2.heap.size V2 U)) := by
      rintro U ⟨_, _, _, _, _, _, _, _, _, _, _, h⟩
      exact (less_b x a c U ac HAC.out (HWX.out U h) (HPA.out a (by simp) U h) (HPA.out c (by simp) U h)).mono fun _ _ ⟨e1, e2⟩ => ⟨e1, HCE.out _ (below_next h e2.out)⟩
    obtain ⟨c0, c1, c2, c3, c4, a0, a1, e0, e1, f0, f1, _⟩ := HCE.out V2 (Below.refl _ _)
    have hB := (Below.refl V2.heap.size V2).drew
    go_wp2
    go_region_held3 (fun U : World => (U.cell? ⟨b1, 0, none⟩ = some (.int .i64 x.N) ∧ U.cell? ⟨b1, 1, none⟩ = some (.slice x.dA x.dm x.dc) ∧ U.cell? ⟨b1, 2, none⟩ = some (.slice x.tA x.tm x.tc) ∧ U.cell? ⟨b1, 3, none⟩ = some (.slice x.A x.m x.c) ∧ U.cell? ⟨b1, 4, none⟩ = some (.slice x.B x.k x.d) ∧ U.cell? ⟨b2, 0, none⟩ = some (.slice a.rA a.rm a.rc) ∧ U.cell? ⟨b2, 1, none⟩ = some (.slice a.uA a.um a.uc) ∧ U.cell? ⟨b3, 0, none⟩ = some (.slice b.rA b.rm b.rc) ∧ U.cell? ⟨b3, 1, none⟩ = some (.slice b.uA b.um b.uc) ∧ U.cell? ⟨b4, 0, none⟩ = some (.slice c.rA c.rm c.rc) ∧ U.cell? ⟨b4, 1, none⟩ = some (.slice c.uA c.um c.uc) ∧ Below V2.heap.size V2 U)) (first | exact ⟨c0, c1, c2, c3, c4, a0, a1, e0, e1, f0, f1, hB⟩ | exact ⟨k0, k1, k2, k3, k4, k5, k6, k7, k8, k9, k10, kb⟩ | assumption)
      (first
        | (go_at_call 11; ((with_reducible refine (HC1.out _ (by assumption)).mono ?_)); rintro e w7 ⟨rfl, k0, k1, k2, k3, k4, k5, k6, k7, k8, k9, k10, kb⟩)
        | (go_at_call 11; ((with_reducible refine (HC2.out _ (by assumption)).mono ?_)); rintro e w7 ⟨rfl, k0, k1, k2, k3, k4, k5, k6, k7, k8, k9, k10, kb⟩)
        | (go_at_call 11; ((with_reducible refine (HC3.out _ (by assumption)).mono ?_)); rintro e w7 ⟨rfl, k0, k1, k2, k3, k4, k5, k6, k7, k8, k9, k10, kb⟩))
    all_goals
      have KB := Lib.hid kb
      clear c0 c1 c2 c3 c4 a0 a1 e0 e1 f0 f1 hB HC1 HC2 HC3 kb
      have HC4 : Hid (∀ U : World, Below V2.heap.size V2 U → Calls Try.prog 11 #[.agg #[.int .i64 x.N, .slice x.dA x.dm x.dc, .slice x.tA x.tm x.tc, .slice x.A x.m x.c, .slice x.B x.k x.d], .agg #[.slice a.rA a.rm a.rc, .slice a.uA a.um a.uc], .agg #[.slice a.rA a.rm a.rc, .slice a.uA a.um a.uc]] U fun e U => e = .returned (.bool false) ∧ Hid (Below V2.heap.size V2 U)) := fun U h =>
        (less_b x a a U false (Pl.less_self _ _) (HWX.out U h) (HPA.out a (by simp) U h) (HPA.out a (by simp) U h)).mono fun _ _ ⟨e1, e2⟩ => ⟨e1, below_next h e2.out⟩

      cases ab with
      | false =>
        go_wp2_with fail
        with_reducible refine (HC4.out _ KB.out).mono ?_
        rintro e w8 ⟨rfl, h8⟩
        clear k0 k1 k2 k3 k4 k5 k6 k7 k8 k9 k10
        go_wp2_with fail
        go_ret
        exact ⟨rfl, below_next HB2.out h8.out⟩
      | true =>
        have HC5 : Hid (∀ U : World, Below V2.heap.size V2 U → Calls Try.prog 11 #[.agg #[.int .i64 x.N, .slice x.dA x.dm x.dc, .slice x.tA x.tm x.tc, .slice x.A x.m x.c, .slice x.B x.k x.d], .agg #[.slice b.rA b.rm b.rc, .slice b.uA b.um b.uc], .agg #[.slice a.rA a.rm a.rc, .slice a.uA a.um a.uc]] U fun e U => e = .returned (.bool false) ∧ Hid (Below V2.heap.size V2 U)) := fun U h =>
          (less_b x b a U false (Pl.less_asym HAB.out) (HWX.out U h) (HPA.out b (by simp) U h) (HPA.out a (by simp) U h)).mono fun _ _ ⟨e1, e2⟩ => ⟨e1, below_next h e2.out⟩

        go_wp2_with fail
        with_reducible refine (HC4.out _ KB.out).mono ?_
        rintro e w8 ⟨rfl, h8⟩
        clear k0 k1 k2 k3 k4 k5 k6 k7 k8 k9 k10
        obtain ⟨c0, c1, c2, c3, c4, a0, a1, e0, e1, f0, f1, _⟩ := HCE.out w8 h8.out
        go_wp2_with fail
        clear c0 c1 c2 c3 c4 a0 a1 e0 e1 f0 f1
        with_reducible refine (HC5.out _ h8.out).mono ?_
        rintro e w9 ⟨rfl, h9⟩
        cases bc with
        | false =>
          go_wp2_with fail
          go_ret
          exact ⟨rfl, below_next HB2.out h9.out⟩
        | true =>
          obtain rfl : ac = true := HAC.out.symm.trans (Pl.less_trans HAB.out HBC.out)
          go_wp2_with fail
          go_ret
          exact ⟨rfl, below_next HB2.out h9.out⟩

set_option maxRecDepth 100000 in
theorem lifted (os : Os) (started : os.Started) (H : Type) (enc : TypeId × Value → H) :
    ReturnsInHanded {} Try.checked os 5 .any (Rows.planOrderSpec.pre6 enc Try.prog Try.f5 Rows.planOrderRow.domain false) (Rows.planOrderSpec.post enc Try.prog Try.f5 false true false false) := by
  refine returnsInHanded_of_change_sized (C := Try.checked) own started (by kernel_rfl) Try.func5
    (ChangeSpec.witness6 (enc := enc) (C := Try.checked) false ⟨#[], #[.agg #[.int .i64 0, .slice none 0 0, .slice none 0 0, .slice none 0 0, .slice none 0 0], .agg #[.slice none 0 0, .slice none 0 0], .agg #[.slice none 0 0, .slice none 0 0], .agg #[.slice none 0 0, .slice none 0 0]], []⟩ 8 (by kernel_rfl) (by kernel_rfl) (by kernel_rfl) (by kernel_rfl)) ?_
  intro W base args ds gs before hval0 hW _ hsz0 _
  have hsz : (DataW.weightsEach Try.prog (Try.f5.params.toList ++ Rows.planOrderSpec.plain.varTypes Try.prog) (ds ++ gs)).all (· ≤ reachBytes) = true := hsz0
  have hval : ∀ (j : Nat) t v, Try.f5.params[j]? = some t → args[j]? = some v → Value.okWide Try.prog W .any base t v := hval0
  have hW' := hW
  obtain ⟨p, q, hA0, hV, rfl, hfz, hnd⟩ := hW
  have hA : DataW.TrodAll enc Try.prog W 0 (fun _ => true) true Try.f5.params.toList args.toList ds p := hA0
  rw [Try.params5] at hA hval hsz
  obtain ⟨v0, vs0, d0, ds0, p0, q0, hargs, rfl, rfl, h0, r0⟩ := trodAll_cons hA
  obtain ⟨v1, vs1, d1, ds1, p1, q1, rfl, rfl, rfl, h1, r1⟩ := trodAll_cons r0
  obtain ⟨v2, vs2, d2, ds2, p2, q2, rfl, rfl, rfl, h2, r2⟩ := trodAll_cons r1
  obtain ⟨v3, vs3, d3, ds3, p3, q3, rfl, rfl, rfl, h3, r3⟩ := trodAll_cons r2
  obtain ⟨rfl, rfl, rfl⟩ := trodAll_nil r3
  obtain rfl : args = #[v0, v1, v2, v3] := by cases args; simp_all
  obtain ⟨rfl, rfl⟩ := trodVars_none hV
  have k0 := h0
  have lt0 : ∀ x ∈ p0, x.block < W.heap.size := by obtain ⟨m, hm⟩ := k0; exact DataW.trod_lt m _ _ _ hm
  obtain ⟨x0, rfl, hv0⟩ := open_world_in (hval 0 28 v0 rfl rfl) h0
  have k1 := h1
  have lt1 : ∀ x ∈ p1, x.block < W.heap.size := by obtain ⟨m, hm⟩ := k1; exact DataW.trod_lt m _ _ _ hm
  obtain ⟨x1, rfl, hv1, hw1⟩ := open_plan_in (hval 1 32 v1 rfl rfl) h1
  have hs1 : Few x1 := fun r hr => by
    have hsc := (hv1.ra r hr).sc
    rcases hw1 r hr with h0 | hin
    · omega
    · have := List.all_eq_true.1 hsz _ (DataW.weights_mem_each (j := 1) (t := 32) (d := d1) rfl rfl _ hin)
      have h2 : r.sc * 8 ≤ reachBytes := by simpa using this
      have h3 := reachBytes_lt
      omega
  have k2 := h2
  have lt2 : ∀ x ∈ p2, x.block < W.heap.size := by obtain ⟨m, hm⟩ := k2; exact DataW.trod_lt m _ _ _ hm
  obtain ⟨x2, rfl, hv2, hw2⟩ := open_plan_in (hval 2 32 v2 rfl rfl) h2
  have hs2 : Few x2 := fun r hr => by
    have hsc := (hv2.ra r hr).sc
    rcases hw2 r hr with h0 | hin
    · omega
    · have := List.all_eq_true.1 hsz _ (DataW.weights_mem_each (j := 2) (t := 32) (d := d2) rfl rfl _ hin)
      have h2 : r.sc * 8 ≤ reachBytes := by simpa using this
      have h3 := reachBytes_lt
      omega
  have k3 := h3
  have lt3 : ∀ x ∈ p3, x.block < W.heap.size := by obtain ⟨m, hm⟩ := k3; exact DataW.trod_lt m _ _ _ hm
  obtain ⟨x3, rfl, hv3, hw3⟩ := open_plan_in (hval 3 32 v3 rfl rfl) h3
  have hs3 : Few x3 := fun r hr => by
    have hsc := (hv3.ra r hr).sc
    rcases hw3 r hr with h0 | hin
    · omega
    · have := List.all_eq_true.1 hsz _ (DataW.weights_mem_each (j := 3) (t := 32) (d := d3) rfl rfl _ hin)
      have h2 : r.sc * 8 ≤ reachBytes := by simpa using this
      have h3 := reachBytes_lt
      omega
  clear hA0 hval0
  refine (walk x0 hv0 x1 hv1 hs1 x2 hv2 hs2 x3 hv3 hs3).mono fun e W' ⟨he, bel⟩ => ?_
  subst he
  exact ⟨_, rfl, _, _, _, [], _, [], hW', trodAll_mk1 (shut_bool Try.underlying4 _), (trodAll_cons_mk (Below.trod laidOut (by kernel_rfl) (of_decide_eq_true (by kernel_rfl)) k0 bel lt0) (trodAll_cons_mk (Below.trod laidOut (by kernel_rfl) (of_decide_eq_true (by kernel_rfl)) k1 bel lt1) (trodAll_cons_mk (Below.trod laidOut (by kernel_rfl) (of_decide_eq_true (by kernel_rfl)) k2 bel lt2) (trodAll_cons_mk (Below.trod laidOut (by kernel_rfl) (of_decide_eq_true (by kernel_rfl)) k3 bel lt3) trodAll_mk0)))), rfl, bel.frame _, fun h => by cases h⟩

theorem over : Rows.planOrderRow.holds Try.pinned (OpenSpec.ofChange Rows.planOrderSpec) :=
  OpenClaim.holds_of_wide 5 Try.f5 rfl rfl rfl rfl rfl rfl rfl ⟨rfl, rfl, rfl, rfl, rfl⟩ rfl rfl rfl rfl rfl (by kernel_rfl) Try.func5 (by kernel_rfl)
    (of_decide_eq_true (by kernel_rfl)) (by unfold Func.isWrapper; first | (rw [if_pos (by decide +kernel)]; kernel_rfl) | (rw [if_neg (by decide +kernel)]; exact ⟨rfl, rfl⟩))
    (fun os started H enc _ => lifted os started H enc)

theorem proved : Rows.PlanOrderSaid := over
end Go.Proofs.Ytmidkjlikhngmaa.planOrder
