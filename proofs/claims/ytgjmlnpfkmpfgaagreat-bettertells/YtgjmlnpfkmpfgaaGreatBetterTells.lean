/- Every call of the law that what any plan is when steps were taken is as the document says answers true: for every world, plan and number of steps. No conditions. -/
import Derived.Test.YtgjmlnpfkmpfgaaGreatRows
import Derived.Test.YtgjmlnpfkmpfgaaGreatBetNm
import Derived.Test.YtgjmlnpfkmpfgaaGreatBetDn
import Derived.WalkKit
import Derived.ProofKit
import Derived.OpenShut
import Derived.ShutString
import Derived.ChangeOld
import Derived.Below
import Derived.SizedLaws
namespace Go.Proofs.YtgjmlnpfkmpfgaaGreat.betterTells
open Go.ChangeShapes Go.WideShapes Go.ChangeAt Go.RowKit
open Go.ChangeMaps (open_string shut_string)
set_option linter.unusedVariables false

theorem own : ownKnob Tryz.prog.godebug = none := by kernel_rfl
theorem laidOut : laidOutB Tryz.prog = true := by kernel_rfl

open Go.Proofs.YtgjmlnpfkmpfgaaGreat
set_option maxRecDepth 100000

/-- a plan, a number of steps, why none -/
def TPost (w : World) (rs : List Pl.Ro) (us : List Int) (t er : Int) (e : Ending) (w' : World) : Prop := ∃ q : Pd, e = .returned (.tuple #[.agg #[.slice q.rA q.rm q.rc, .slice q.uA q.um q.uc], .int .i64 t, .int .i64 er]) ∧ Hid (Below w.heap.size w w' ∧ PAt w' q ∧ ros q.rs = rs ∧ q.us = us)
theorem both_imp (x : Wd) (p : Pd) (n : Int) (hn : n ≤ 400 ∨ 100000 < n) (hcap : ∀ r ∈ p.rs, r.sm ≤ r.sc) : ∃ rs us t er, (∀ w, WAt w x → PAt w p → Calls Tryz.prog 12 #[.agg #[.int .i64 x.N, .slice x.dA x.dm x.dc, .slice x.tA x.tm x.tc, .slice x.A x.m x.c, .slice x.B x.k x.d], .agg #[.slice p.rA p.rm p.rc, .slice p.uA p.um p.uc], .int .i64 n] w (TPost w rs us t er)) ∧ ∀ w, WAt w x → PAt w p → Calls Tryz.prog 13 #[.agg #[.int .i64 x.N, .slice x.dA x.dm x.dc, .slice x.tA x.tm x.tc, .slice x.A x.m x.c, .slice x.B x.k x.d], .agg #[.slice p.rA p.rm p.rc, .slice p.uA p.um p.uc], .int .i64 n] w (TPost w rs us t er) := by
  obtain ⟨z, er, hck⟩ : ∃ z er, Pl.checkS x.N x.D x.T x.os x.ts (ros p.rs) p.us = (z, er) := ⟨_, _, rfl⟩
  by_cases he : er = 0
  · subst he
    by_cases hb : n < 0 ∨ 100000 < n
    · refine ⟨[], [], 0, 1, fun w hx hp => (imp_steps x p w z n hck hb hx hp).mono ?_, fun w hx hp => (dimp_steps x p w z n hck hb hx hp).mono ?_⟩
      · rintro e w' ⟨rfl, h⟩
        exact ⟨akE, rfl, h.out, akE_at _, rfl, rfl⟩
      · rintro e w' ⟨rfl, h⟩
        exact ⟨akE, rfl, h.out, akE_at _, rfl, rfl⟩
    · obtain ⟨k, rfl⟩ : ∃ k : Nat, n = (k : Int) := ⟨n.toNat, by omega⟩
      refine ⟨(Bt.goS (betB x) (mvB x) k (ros p.rs) (mvB x (ros p.rs))).1, Pl.restS x.os (Bt.goS (betB x) (mvB x) k (ros p.rs) (mvB x (ros p.rs))).1, ((Bt.goS (betB x) (mvB x) k (ros p.rs) (mvB x (ros p.rs))).2 : Int), 0, fun w hx hp => (imp_yes x p w z k hck (by omega) hx hp).mono ?_, fun w hx hp => (dimp_yes x p w z k hck (by omega) hx hp hcap).mono ?_⟩
      · rintro e w' ⟨q, t, rfl, hgo, h⟩
        rw [hgo]
        exact ⟨q, rfl, h.out.1, h.out.2.1.at_, rfl, h.out.2.2.1⟩
      · rintro e w' ⟨q, t, rfl, hgo, h⟩
        rw [hgo]
        exact ⟨q, rfl, h.out.1, h.out.2.1, rfl, h.out.2.2⟩
  · have hz : z = 0 := by
      have := Pl.check_zero (N := x.N) (D := x.D) (T := x.T) (os := x.os) (ts := x.ts) (rs := ros p.rs) (us := p.us) (by rw [hck]; exact he)
      rw [hck] at this
      exact this
    subst hz
    refine ⟨[], [], 0, er, fun w hx hp => (imp_check x p w er n hck he hx hp).mono ?_, fun w hx hp => (dimp_check x p w er n hck he hx hp).mono ?_⟩
    · rintro e w' ⟨rfl, h⟩
      exact ⟨akE, rfl, h.out, akE_at _, rfl, rfl⟩
    · rintro e w' ⟨rfl, h⟩
      exact ⟨akE, rfl, h.out, akE_at _, rfl, rfl⟩

set_option maxHeartbeats 20000000 in
theorem walk {w : World} (x : Wd) (hx : WorldIn w x) (p : Pd) (hp : PlanIn w p) (fp : Few p) (n : Int) (hn : (Lit.int .i64 n).wf = true) :
    Calls Tryz.prog 4 #[.agg #[.int .i64 x.N, .slice x.dA x.dm x.dc, .slice x.tA x.tm x.tc, .slice x.A x.m x.c, .slice x.B x.k x.d], .agg #[.slice p.rA p.rm p.rc, .slice p.uA p.um p.uc], .int .i64 n] w fun e w' => e = .returned (.bool true) ∧ Below w.heap.size w w' := by
  have HB0 : Hid (Below w.heap.size w ((w.alloc (.cells #[.int .i64 x.N, .slice x.dA x.dm x.dc, .slice x.tA x.tm x.tc, .slice x.A x.m x.c, .slice x.B x.k x.d] 28)).alloc (.cells #[.slice p.rA p.rm p.rc, .slice p.uA p.um p.uc] 32))) := below_more (below_alloc _ _) _
  have HX := Lib.hid (OB.new w x p)
  have HWI := Lib.hid hx
  have HPI := Lib.hid hp
  have HFP := Lib.hid fp
  have HCAP : Hid (∀ r ∈ p.rs, r.sm ≤ r.sc) := fun r hr => (hp.ra r hr).sc
  clear hx hp fp hn
  go_enter Tryz.func4, Tryz.ntmps4
  go_wp2_with fail
  generalize ((w.alloc (.cells #[.int .i64 x.N, .slice x.dA x.dm x.dc, .slice x.tA x.tm x.tc, .slice x.A x.m x.c, .slice x.B x.k x.d] 28)).alloc (.cells #[.slice p.rA p.rm p.rc, .slice p.uA p.um p.uc] 32)) = V at *
  generalize w.heap.size + 1 = b2 at *
  generalize hb1 : w.heap.size = b1 at HX ⊢
  have HBE := Lib.hid hb1
  clear hb1
  with_reducible refine (awake_any _).mono ?_
  rintro e V1 ⟨rfl, hv1⟩
  have HX1 := Lib.hid (HX.out.below hv1)
  have HB1 := Lib.hid (below_next HB0.out hv1)
  clear hv1 HX HB0
  obtain ⟨r, hr⟩ : ∃ r : Bool, r = true ↔ LargeB x p n := by
    by_cases h : LargeB x p n
    · exact ⟨true, by simp [h]⟩
    · exact ⟨false, by simp [h]⟩
  have HR := Lib.hid hr
  have HC := Lib.hid (blarge_b x p n V1 r hr (HWI.out.below HB1.out) (HPI.out.below HB1.out) HFP.out)
  clear hr
  have c0 := wbox0 HX1.out.w
  have c1 := wbox1 HX1.out.w
  have c2 := wbox2 HX1.out.w
  have c3 := wbox3 HX1.out.w
  have c4 := wbox4 HX1.out.w
  have a0 := pbox0 HX1.out.p
  have a1 := pbox1 HX1.out.p
  go_wp2_with fail
  clear c0 c1 c2 c3 c4 a0 a1
  with_reducible refine HC.out.mono ?_
  rintro e V2 ⟨rfl, hv2⟩
  have HX2' := Lib.hid (HX1.out.below hv2.out)
  have HB2 := Lib.hid (below_next HB1.out hv2.out)
  clear hv2 HX1 HB1 HC
  cases r with
  | true =>
    go_wp2_with fail
    go_ret
    exact ⟨rfl, HB2.out⟩
  | false =>
    have HNL := Lib.hid (large_no3 (fun h => by have := HR.out.2 h; cases this))
    have HX2 : Hid (OW V2 b1 b2 x p) := ⟨⟨HX2'.out.w, (HWI.out.below HB2.out).at_ HNL.out.1⟩, ⟨HX2'.out.p, (HPI.out.below HB2.out).at_ HNL.out.2.1⟩⟩
    clear HX2' HWI HPI HFP HR
    obtain ⟨rs, us, t, er, hm1, hm2⟩ := both_imp x p n HNL.out.2.2 HCAP.out
    have HC := Lib.hid (hm1 V2 HX2.out.w.at_ HX2.out.p.at_)
    have HM2 := Lib.hid hm2
    clear hm1 hm2
    have c0 := wbox0 HX2.out.w.box
    have c1 := wbox1 HX2.out.w.box
    have c2 := wbox2 HX2.out.w.box
    have c3 := wbox3 HX2.out.w.box
    have c4 := wbox4 HX2.out.w.box
    have a0 := HX2.out.p.c0
    have a1 := HX2.out.p.c1
    go_wp2_with fail
    clear c0 c1 c2 c3 c4 a0 a1
    with_reducible refine HC.out.mono ?_
    rintro e V3 ⟨q, rfl, h3⟩
    have HX3 := Lib.hid ((HX2.out.below h3.out.1).below (below_alloc V3 (.cells #[.slice q.rA q.rm q.rc, .slice q.uA q.um q.uc] 32)))
    have HB3 := Lib.hid (below_more (below_next HB2.out h3.out.1) (.cells #[.slice q.rA q.rm q.rc, .slice q.uA q.um q.uc] 32))
    have HQ3 : Hid (PX (V3.alloc (.cells #[.slice q.rA q.rm q.rc, .slice q.uA q.um q.uc] 32)) V3.heap.size q) := PX.new h3.out.2.1
    have HRQ : Hid (ros q.rs = rs ∧ q.us = us) := h3.out.2.2
    have HC := Lib.hid (HM2.out _ HX3.out.w.at_ HX3.out.p.at_)
    clear HX2 HB2 h3 HM2
    have c0 := wbox0 HX3.out.w.box
    have c1 := wbox1 HX3.out.w.box
    have c2 := wbox2 HX3.out.w.box
    have c3 := wbox3 HX3.out.w.box
    have c4 := wbox4 HX3.out.w.box
    have a0 := HX3.out.p.c0
    have a1 := HX3.out.p.c1
    go_wp2_with fail
    clear c0 c1 c2 c3 c4 a0 a1
    with_reducible refine HC.out.mono ?_
    clear HC
    generalize V3.alloc (.cells #[.slice q.rA q.rm q.rc, .slice q.uA q.um q.uc] 32) = V4 at *
    generalize hbq : V3.heap.size = bq at *
    clear hbq
    rintro e V5 ⟨s, rfl, h5⟩
    have HB5 := Lib.hid (below_more (below_next HB3.out h5.out.1) (.cells #[.slice s.rA s.rm s.rc, .slice s.uA s.um s.uc] 32))
    have HQ5 := Lib.hid ((HQ3.out.below h5.out.1).below (below_alloc V5 (.cells #[.slice s.rA s.rm s.rc, .slice s.uA s.um s.uc] 32)))
    have HS5 : Hid (PX (V5.alloc (.cells #[.slice s.rA s.rm s.rc, .slice s.uA s.um s.uc] 32)) V5.heap.size s) := PX.new h5.out.2.1
    have HC := Lib.hid (pequal_b q s _ HQ5.out.at_ HS5.out.at_ (HRQ.out.1.trans h5.out.2.2.1.symm) (HRQ.out.2.trans h5.out.2.2.2.symm))
    clear HX3 HB3 HQ3 h5
    have q0 := HQ5.out.c0
    have q1 := HQ5.out.c1
    have s0 := HS5.out.c0
    have s1 := HS5.out.c1
    go_wp2_with fail
    clear q0 q1 s0 s1
    with_reducible refine HC.out.mono ?_
    rintro e V6 ⟨rfl, h6⟩
    have HB6 := Lib.hid (below_next HB5.out h6.out)
    go_wp2
    go_ret
    exact ⟨rfl, HB6.out⟩

set_option maxRecDepth 100000 in
theorem lifted (os : Os) (started : os.Started) (H : Type) (enc : TypeId × Value → H) :
    ReturnsInHanded {} Tryz.checked os 4 .any (Rows.betterTellsSpec.pre6 enc Tryz.prog Tryz.f4 Rows.betterTellsRow.domain false) (Rows.betterTellsSpec.post enc Tryz.prog Tryz.f4 false true false false) := by
  refine returnsInHanded_of_change_sized (C := Tryz.checked) own started (by kernel_rfl) Tryz.func4
    (ChangeSpec.witness6 (enc := enc) (C := Tryz.checked) false ⟨#[], #[.agg #[.int .i64 0, .slice none 0 0, .slice none 0 0, .slice none 0 0, .slice none 0 0], .agg #[.slice none 0 0, .slice none 0 0], .int .i64 0], []⟩ 8 (by kernel_rfl) (by kernel_rfl) (by kernel_rfl) (by kernel_rfl)) ?_
  intro W base args ds gs before hval0 hW _ hsz0 _
  have hsz : (DataW.weightsEach Tryz.prog (Tryz.f4.params.toList ++ Rows.betterTellsSpec.plain.varTypes Tryz.prog) (ds ++ gs)).all (· ≤ reachBytes) = true := hsz0
  have hval : ∀ (j : Nat) t v, Tryz.f4.params[j]? = some t → args[j]? = some v → Value.okWide Tryz.prog W .any base t v := hval0
  have hW' := hW
  obtain ⟨p, q, hA0, hV, rfl, hfz, hnd⟩ := hW
  have hA : DataW.TrodAll enc Tryz.prog W 0 (fun _ => true) true Tryz.f4.params.toList args.toList ds p := hA0
  rw [Tryz.params4] at hA hval hsz
  obtain ⟨v0, vs0, d0, ds0, p0, q0, hargs, rfl, rfl, h0, r0⟩ := trodAll_cons hA
  obtain ⟨v1, vs1, d1, ds1, p1, q1, rfl, rfl, rfl, h1, r1⟩ := trodAll_cons r0
  obtain ⟨v2, vs2, d2, ds2, p2, q2, rfl, rfl, rfl, h2, r2⟩ := trodAll_cons r1
  obtain ⟨rfl, rfl, rfl⟩ := trodAll_nil r2
  obtain rfl : args = #[v0, v1, v2] := by cases args; simp_all
  obtain ⟨rfl, rfl⟩ := trodVars_none hV
  have k0 := h0
  have lt0 : ∀ x ∈ p0, x.block < W.heap.size := by obtain ⟨m, hm⟩ := k0; exact DataW.trod_lt m _ _ _ hm
  obtain ⟨x0, rfl, hv0⟩ := open_world_in (hval 0 28 v0 rfl rfl) h0
  have k1 := h1
  have lt1 : ∀ x ∈ p1, x.block < W.heap.size := by obtain ⟨m, hm⟩ := k1; exact DataW.trod_lt m _ _ _ hm
  obtain ⟨x1, rfl, hv1, hw1⟩ := open_plan_in (hval 1 32 v1 rfl rfl) h1
  have hs1 : Few x1 := fun r hr => by
    have hsc := (hv1.ra r hr).sc
    rcases hw1 r hr with h0 | hin
    · omega
    · have := List.all_eq_true.1 hsz _ (DataW.weights_mem_each (j := 1) (t := 32) (d := d1) rfl rfl _ hin)
      have h2 : r.sc * 8 ≤ reachBytes := by simpa using this
      have h3 := reachBytes_lt
      omega
  obtain ⟨a2, rfl, rfl, rfl, w2⟩ := open_int Tryz.underlying3 (hval 2 3 v2 rfl rfl) h2
  clear hA0 hval0
  refine (walk x0 hv0 x1 hv1 hs1 a2 w2).mono fun e W' ⟨he, bel⟩ => ?_
  subst he
  exact ⟨_, rfl, _, _, _, [], _, [], hW', trodAll_mk1 (shut_bool Tryz.underlying4 _), (trodAll_cons_mk (Below.trod laidOut (by kernel_rfl) (of_decide_eq_true (by kernel_rfl)) k0 bel lt0) (trodAll_cons_mk (Below.trod laidOut (by kernel_rfl) (of_decide_eq_true (by kernel_rfl)) k1 bel lt1) (trodAll_cons_mk (shut_int Tryz.underlying3 w2) trodAll_mk0))), rfl, bel.frame _, fun h => by cases h⟩

theorem over : Rows.betterTellsRow.holds Tryz.pinned (OpenSpec.ofChange Rows.betterTellsSpec) :=
  OpenClaim.holds_of_wide 4 Tryz.f4 rfl rfl rfl rfl rfl rfl rfl ⟨rfl, rfl, rfl, rfl, rfl⟩ rfl rfl rfl rfl rfl (by kernel_rfl) Tryz.func4 (by kernel_rfl)
    (of_decide_eq_true (by kernel_rfl)) (by unfold Func.isWrapper; first | (rw [if_pos (by decide +kernel)]; kernel_rfl) | (rw [if_neg (by decide +kernel)]; exact ⟨rfl, rfl⟩))
    (fun os started H enc _ => lifted os started H enc)

theorem proved : Rows.BetterTellsSaid := over
end Go.Proofs.YtgjmlnpfkmpfgaaGreat.betterTells
