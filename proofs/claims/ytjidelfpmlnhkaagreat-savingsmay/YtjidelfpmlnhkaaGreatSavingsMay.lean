/- Every call of the law that what is built may be, and lists every unserved order, answers true: for every world. No conditions. -/
import Derived.Test.YtjidelfpmlnhkaaGreatRows
import Derived.Test.YtjidelfpmlnhkaaGreatSavAw
import Derived.Test.YtjidelfpmlnhkaaGreatSavLaw
import Derived.WalkKit
import Derived.ProofKit
import Derived.OpenShut
import Derived.ShutString
import Derived.ChangeOld
import Derived.Below
import Derived.SizedLaws
namespace Go.Proofs.YtjidelfpmlnhkaaGreat.savingsMay
open Go.ChangeShapes Go.WideShapes Go.ChangeAt Go.RowKit
open Go.ChangeMaps (open_string shut_string)
set_option linter.unusedVariables false

theorem own : ownKnob Tryz.prog.godebug = none := by kernel_rfl
theorem laidOut : laidOutB Tryz.prog = true := by kernel_rfl

set_option maxHeartbeats 8000000 in
theorem walk {w : World} (x : Wd) (hx : WorldIn w x) :
    Calls Tryz.prog 4 #[.agg #[.int .i64 x.N, .slice x.dA x.dm x.dc, .slice x.tA x.tm x.tc, .slice x.A x.m x.c, .slice x.B x.k x.d]] w fun e w' => e = .returned (.bool true) ∧ Below w.heap.size w w' := by
  have HB0 : Hid (Below w.heap.size w (w.alloc (.cells #[.int .i64 x.N, .slice x.dA x.dm x.dc, .slice x.tA x.tm x.tc, .slice x.A x.m x.c, .slice x.B x.k x.d] 28))) := below_alloc _ _
  have HX : Hid (Box (w.alloc (.cells #[.int .i64 x.N, .slice x.dA x.dm x.dc, .slice x.tA x.tm x.tc, .slice x.A x.m x.c, .slice x.B x.k x.d] 28)) w.heap.size x.cells 28) := Box.new w _ _
  have HWI := Lib.hid hx
  clear hx
  go_enter Tryz.func4, Tryz.ntmps4
  go_wp2_with fail
  generalize (w.alloc (.cells #[.int .i64 x.N, .slice x.dA x.dm x.dc, .slice x.tA x.tm x.tc, .slice x.A x.m x.c, .slice x.B x.k x.d] 28)) = V at *
  generalize hb1 : w.heap.size = b1 at HX ⊢
  clear hb1
  with_reducible refine (awake_any _).mono ?_
  rintro e V1 ⟨rfl, hv1⟩
  have HX1 : Hid (Box V1 b1 x.cells 28) := HX.out.below hv1
  have HB1 := Lib.hid (below_next HB0.out hv1)
  have HW1 : Hid (WorldIn V1 x) := HWI.out.below HB1.out
  clear hv1 HX HB0
  have c0 := HX1.out.cell 0 _ rfl
  have c1 := HX1.out.cell 1 _ rfl
  have c2 := HX1.out.cell 2 _ rfl
  have c3 := HX1.out.cell 3 _ rfl
  have c4 := HX1.out.cell 4 _ rfl
  by_cases hl : Large x (rz 0)
  · have HC : Hid (∀ W, Calls Tryz.prog 8 #[.agg #[.int .i64 x.N, .slice x.dA x.dm x.dc, .slice x.tA x.tm x.tc, .slice x.A x.m x.c, .slice x.B x.k x.d], .int .i64 ((rz 0).sm : Int)] W fun e w' => e = .returned (.bool true) ∧ Hid (Below W.heap.size W w')) := fun W => large_yes x (rz 0) W HW1.out.mx HW1.out.kx HW1.out.dx HW1.out.tx (Nat.zero_le _) hl
    clear hl
    go_wp2_with fail
    refine (HC.out _).mono ?_
    rintro e V2 ⟨rfl, hv2⟩
    go_wp2
    go_ret
    exact ⟨rfl, below_next HB1.out hv2.out⟩
  · have HC : Hid (∀ W, Calls Tryz.prog 8 #[.agg #[.int .i64 x.N, .slice x.dA x.dm x.dc, .slice x.tA x.tm x.tc, .slice x.A x.m x.c, .slice x.B x.k x.d], .int .i64 ((rz 0).sm : Int)] W fun e w' => e = .returned (.bool false) ∧ Hid (Below W.heap.size W w')) := fun W => large_no x (rz 0) W hl
    have HAT := Lib.hid (HW1.out.at_ hl)
    have HNL := Lib.hid hl
    clear hl
    go_wp2_with fail
    refine (HC.out _).mono ?_
    rintro e V2 ⟨rfl, hv2⟩
    have HX2 : Hid (WX V2 b1 x) := ⟨HX1.out.below hv2.out, HAT.out.below hv2.out⟩
    have HB2 := Lib.hid (below_next HB1.out hv2.out)
    clear c0 c1 c2 c3 c4 hv2 HX1 HB1 HW1 HAT HC
    have HC := Lib.hid (build_b x V2 HX2.out.at_)
    have x0 := HX2.out.c0
    have x1 := HX2.out.c1
    have x2 := HX2.out.c2
    have x3 := HX2.out.c3
    have x4 := HX2.out.c4
    go_wp2_with fail
    clear x0 x1 x2 x3 x4
    with_reducible refine HC.out.mono ?_
    rintro e V3 ⟨p, rfl, h3⟩
    obtain ⟨f, hf⟩ : ∃ f, Rt.worldE x.N x.D x.T x.os x.ts = f := ⟨_, rfl⟩
    have HF := Lib.hid hf
    have HPA : Hid (PAt (V3.alloc (.cells #[.slice p.rA p.rm p.rc, .slice p.uA p.um p.uc] 40)) p) := h3.out.2.1.below (below_alloc _ _)
    have HYES := Lib.hid h3.out.2.2.1
    have HNO := Lib.hid h3.out.2.2.2
    rw [hf] at HYES HNO ⊢
    have HX4 := Lib.hid ((HX2.out.below h3.out.1).below (below_alloc V3 (.cells #[.slice p.rA p.rm p.rc, .slice p.uA p.um p.uc] 40)))
    have HPX : Hid (PX (V3.alloc (.cells #[.slice p.rA p.rm p.rc, .slice p.uA p.um p.uc] 40)) V3.heap.size p) := PX.new h3.out.2.1
    have HB4 := Lib.hid (below_more (below_next HB2.out h3.out.1) (.cells #[.slice p.rA p.rm p.rc, .slice p.uA p.um p.uc] 40))
    clear hf h3 HC HX2 HB2
    obtain ⟨c, hck⟩ : ∃ c, Pl.checkS x.N x.D x.T x.os x.ts (ros p.rs) p.us = c := ⟨_, rfl⟩
    have HCK := Lib.hid hck
    have HC := Lib.hid (check_b x p (V3.alloc (.cells #[.slice p.rA p.rm p.rc, .slice p.uA p.um p.uc] 40)) c hck HX4.out.at_ HPA.out)
    clear hck
    have p0 := HPX.out.c0
    have p1 := HPX.out.c1
    have x0 := HX4.out.c0
    have x1 := HX4.out.c1
    have x2 := HX4.out.c2
    have x3 := HX4.out.c3
    have x4 := HX4.out.c4
    go_wp2_with fail
    clear x0 x1 x2 x3 x4 p0 p1
    generalize V3.alloc (.cells #[.slice p.rA p.rm p.rc, .slice p.uA p.um p.uc] 40) = V4 at *
    generalize V3.heap.size = dp at *
    with_reducible refine HC.out.mono ?_
    rintro e V5 ⟨rfl, hv5⟩
    have HX5 := Lib.hid (HX4.out.below hv5.out)
    have HPX5 := Lib.hid (HPX.out.below hv5.out)
    have HPA5 := Lib.hid (HPA.out.below hv5.out)
    have HB5 := Lib.hid (below_next HB4.out hv5.out)
    clear hv5 HC HX4 HPX HPA HB4
    by_cases hf0 : f = 0
    · subst hf0
      have e1 : ((0 : Int) != (0 : Int)) = false := by decide
      have hip := (HYES.out rfl).1
      have hmy := hip.may HF.out
      rw [← (HYES.out rfl).2] at hmy
      have hc : c = ((Pl.costs (Pl.run x.N x.D x.T x.os x.ts) (ros p.rs)).sum, 0) := by rw [← HCK.out]; exact hmy.check
      have hs := Pl.sum_bound hmy.l6 hmy.tp
      have hal := hmy.all_len
      have hul : p.us.length = p.um := HPA5.out.ul
      have hml : x.os.length = x.m := HX5.out.at_.ml
      have hsl : (Pl.servedS (ros p.rs)).length = (Pl.stops (ros p.rs)).length := Pl.srt_len _
      rw [List.length_append] at hal
      obtain ⟨sn, hsn⟩ : ∃ n, (Pl.servedS (ros p.rs)).length = n := ⟨_, rfl⟩
      have hol := (Rt.ok_of HF.out).ol
      have HSN : Hid (sn + p.um = x.m ∧ x.m ≤ 12) := ⟨by omega, by omega⟩
      have HSL := Lib.hid hsn
      obtain ⟨cs, hcs⟩ : ∃ z, (Pl.costs (Pl.run x.N x.D x.T x.os x.ts) (ros p.rs)).sum = z := ⟨_, rfl⟩
      rw [hcs] at hc hs
      subst hc
      have g1 : ((0 : Int) == (0 : Int)) = true := by decide
      have g2 : decide ((0 : Int) ≤ cs) = true := decide_eq_true hs.1
      have g3 : decide (cs ≥ (0 : Int)) = true := decide_eq_true hs.1
      have HSE := Lib.hid (HSN.out)
      clear hip hmy hs hal hul hml hsl hsn hol hcs HYES HNO HCK
      have hsn := HSE.out.1
      have hm12 := HSE.out.2
      have wr : IntKind.i64.wrap ((sn : Int) + (p.um : Int)) = (x.m : Int) := by rw [IntKind.wrap_i64]; omega
      have wr2 : IntKind.i64.wrap ((sn : Int) + (p.um : Int)) = (sn : Int) + (p.um : Int) := by rw [IntKind.wrap_i64]; omega
      have g4 : ((x.m : Int) == (x.m : Int)) = true := by simp
      have g5 : ((sn : Int) + (p.um : Int) == (x.m : Int)) = true := by rw [beq_iff_eq]; omega
      have HCE : Hid (∀ U, Below V5.heap.size V5 U → (U.cell? ⟨dp, 0, none⟩ = some (.slice p.rA p.rm p.rc) ∧ U.cell? ⟨dp, 1, none⟩ = some (.slice p.uA p.um p.uc) ∧ U.cell? ⟨b1, 3, none⟩ = some (.slice x.A x.m x.c) ∧ Below V5.heap.size V5 U)) := fun U hU => ⟨(HPX5.out.below hU).c0, (HPX5.out.below hU).c1, (HX5.out.below hU).c3, hU⟩
      have HC1 : Hid (∀ U, (U.cell? ⟨dp, 0, none⟩ = some (.slice p.rA p.rm p.rc) ∧ U.cell? ⟨dp, 1, none⟩ = some (.slice p.uA p.um p.uc) ∧ U.cell? ⟨b1, 3, none⟩ = some (.slice x.A x.m x.c) ∧ Below V5.heap.size V5 U) → Calls Tryz.prog 19 #[.agg #[.slice p.rA p.rm p.rc, .slice p.uA p.um p.uc]] U fun e U => ∃ (A' : Option Addr) (c' : Nat), e = .returned (.slice A' sn c') ∧ (U.cell? ⟨dp, 0, none⟩ = some (.slice p.rA p.rm p.rc) ∧ U.cell? ⟨dp, 1, none⟩ = some (.slice p.uA p.um p.uc) ∧ U.cell? ⟨b1, 3, none⟩ = some (.slice x.A x.m x.c) ∧ Below V5.heap.size V5 U)) := by
        rintro U ⟨_, _, _, h⟩
        refine (served_b p U (HPA5.out.below h)).mono ?_
        rintro e U' ⟨A', c', rfl, _, h2⟩
        rw [HSL.out]
        exact ⟨A', c', rfl, HCE.out _ (below_next h h2.out.1)⟩
      obtain ⟨y0, y1, y2, hB0⟩ := HCE.out V5 (Below.refl _ _)
      have hB := hB0.drew
      clear HCE
      go_wp2
      go_region_held3 (fun U : World => (U.cell? ⟨dp, 0, none⟩ = some (.slice p.rA p.rm p.rc) ∧ U.cell? ⟨dp, 1, none⟩ = some (.slice p.uA p.um p.uc) ∧ U.cell? ⟨b1, 3, none⟩ = some (.slice x.A x.m x.c) ∧ Below V5.heap.size V5 U)) (first | exact ⟨y0, y1, y2, hB⟩ | exact ⟨k0, k1, k2, kb⟩ | assumption)
        (first
          | (go_at_call 19; ((with_reducible refine (HC1.out _ (by assumption)).mono ?_)); rintro e w7 ⟨A', c', rfl, k0, k1, k2, kb⟩))
      all_goals
        have KB := Lib.hid (below_next HB5.out kb)
        clear k0 k1 k2 kb y0 y1 y2 hB0 hB HC1
        go_wp2
        go_ret
        exact ⟨rfl, KB.out⟩
    · have e1 : (f != (0 : Int)) = true := bne_iff_ne.2 hf0
      have hrm := (HNO.out hf0).2.2
      have e2 : ((p.rm : Int) == (0 : Int)) = true := by rw [hrm]; rfl
      have e3 : (f == f) = true := by simp
      have HC := Lib.hid (rworld_b x V5 f HF.out HX5.out.at_)
      have p0 := HPX5.out.c0
      have x0 := HX5.out.c0
      have x1 := HX5.out.c1
      have x2 := HX5.out.c2
      have x3 := HX5.out.c3
      have x4 := HX5.out.c4
      clear hrm
      go_wp2_with fail
      with_reducible refine HC.out.mono ?_
      rintro e V6 ⟨rfl, hv6⟩
      go_wp2
      go_ret
      exact ⟨rfl, below_next HB5.out hv6.out⟩

set_option maxRecDepth 100000 in
theorem lifted (os : Os) (started : os.Started) (H : Type) (enc : TypeId × Value → H) :
    ReturnsInHanded {} Tryz.checked os 4 .any (Rows.savingsMaySpec.pre6 enc Tryz.prog Tryz.f4 Rows.savingsMayRow.domain false) (Rows.savingsMaySpec.post enc Tryz.prog Tryz.f4 false true false false) := by
  refine returnsInHanded_of_change_sized (C := Tryz.checked) own started (by kernel_rfl) Tryz.func4
    (ChangeSpec.witness6 (enc := enc) (C := Tryz.checked) false ⟨#[], #[.agg #[.int .i64 0, .slice none 0 0, .slice none 0 0, .slice none 0 0, .slice none 0 0]], []⟩ 8 (by kernel_rfl) (by kernel_rfl) (by kernel_rfl) (by kernel_rfl)) ?_
  intro W base args ds gs before hval0 hW _ hsz0 _
  have hsz : (DataW.weightsEach Tryz.prog (Tryz.f4.params.toList ++ Rows.savingsMaySpec.plain.varTypes Tryz.prog) (ds ++ gs)).all (· ≤ reachBytes) = true := hsz0
  have hval : ∀ (j : Nat) t v, Tryz.f4.params[j]? = some t → args[j]? = some v → Value.okWide Tryz.prog W .any base t v := hval0
  have hW' := hW
  obtain ⟨p, q, hA0, hV, rfl, hfz, hnd⟩ := hW
  have hA : DataW.TrodAll enc Tryz.prog W 0 (fun _ => true) true Tryz.f4.params.toList args.toList ds p := hA0
  rw [Tryz.params4] at hA hval hsz
  obtain ⟨v0, vs0, d0, ds0, p0, q0, hargs, rfl, rfl, h0, r0⟩ := trodAll_cons hA
  obtain ⟨rfl, rfl, rfl⟩ := trodAll_nil r0
  obtain rfl : args = #[v0] := by cases args; simp_all
  obtain ⟨rfl, rfl⟩ := trodVars_none hV
  have k0 := h0
  have lt0 : ∀ x ∈ p0, x.block < W.heap.size := by obtain ⟨m, hm⟩ := k0; exact DataW.trod_lt m _ _ _ hm
  obtain ⟨x0, rfl, hv0⟩ := open_world_in (hval 0 28 v0 rfl rfl) h0
  clear hA0 hval0
  refine (walk x0 hv0).mono fun e W' ⟨he, bel⟩ => ?_
  subst he
  exact ⟨_, rfl, _, _, _, [], _, [], hW', trodAll_mk1 (shut_bool Tryz.underlying4 _), (trodAll_cons_mk (Below.trod laidOut (by kernel_rfl) (of_decide_eq_true (by kernel_rfl)) k0 bel lt0) trodAll_mk0), rfl, bel.frame _, fun h => by cases h⟩

theorem over : Rows.savingsMayRow.holds Tryz.pinned (OpenSpec.ofChange Rows.savingsMaySpec) :=
  OpenClaim.holds_of_wide 4 Tryz.f4 rfl rfl rfl rfl rfl rfl rfl ⟨rfl, rfl, rfl, rfl, rfl⟩ rfl rfl rfl rfl rfl (by kernel_rfl) Tryz.func4 (by kernel_rfl)
    (of_decide_eq_true (by kernel_rfl)) (by unfold Func.isWrapper; first | (rw [if_pos (by decide +kernel)]; kernel_rfl) | (rw [if_neg (by decide +kernel)]; exact ⟨rfl, rfl⟩))
    (fun os started H enc _ => lifted os started H enc)

theorem proved : Rows.SavingsMaySaid := over
end Go.Proofs.YtjidelfpmlnhkaaGreat.savingsMay
