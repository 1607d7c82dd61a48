/- Every call of the law that what comes of each move, in order, is as the document says answers true: for every world and plan. No conditions. -/
import Derived.Test.YtgjmlnpfkmpfgaaGreatRows
import Derived.Test.YtgjmlnpfkmpfgaaGreatBetNm
import Derived.Test.YtgjmlnpfkmpfgaaGreatBetMvm
import Derived.Test.YtgjmlnpfkmpfgaaGreatBetQ
import Derived.Deep.RegionHeld3
import Derived.WalkKit
import Derived.ProofKit
import Derived.OpenShut
import Derived.ShutString
import Derived.ChangeOld
import Derived.Below
import Derived.SizedLaws
namespace Go.Proofs.YtgjmlnpfkmpfgaaGreat.betterMoves
open Go.ChangeShapes Go.WideShapes Go.ChangeAt Go.RowKit
open Go.ChangeMaps (open_string shut_string)
set_option linter.unusedVariables false

theorem own : ownKnob Tryz.prog.godebug = none := by kernel_rfl
theorem laidOut : laidOutB Tryz.prog = true := by kernel_rfl

open Go.Proofs.YtgjmlnpfkmpfgaaGreat
set_option maxRecDepth 100000

/-- a list of moves, with what they are -/
def LPost (w : World) (M : List (List Pl.Ro)) (x : Wd) (e : Ending) (w' : World) : Prop := ∃ (A : Option Addr) (m c : Nat) (l : List Pd), e = .returned (.slice A m c) ∧ Hid (Below w.heap.size w w' ∧ l.length = m ∧ m ≤ 100000 ∧ RowsP w' A l ∧ (∀ q ∈ l, PAt w' q) ∧ (l.map fun q => ros q.rs) = M ∧ ∀ q ∈ l, q.us = Pl.restS x.os (ros q.rs))
theorem prog_moves (x : Wd) (p : Pd) (hcap : ∀ r ∈ p.rs, r.sm ≤ r.sc) : ∃ M, (∀ w, WAt w x → PAt w p → Calls Tryz.prog 10 #[.agg #[.int .i64 x.N, .slice x.dA x.dm x.dc, .slice x.tA x.tm x.tc, .slice x.A x.m x.c, .slice x.B x.k x.d], .agg #[.slice p.rA p.rm p.rc, .slice p.uA p.um p.uc]] w (LPost w M x)) ∧ ∀ w, WAt w x → PAt w p → Calls Tryz.prog 11 #[.agg #[.int .i64 x.N, .slice x.dA x.dm x.dc, .slice x.tA x.tm x.tc, .slice x.A x.m x.c, .slice x.B x.k x.d], .agg #[.slice p.rA p.rm p.rc, .slice p.uA p.um p.uc]] w (LPost w M x) := by
  obtain ⟨z, er, hck⟩ : ∃ z er, Pl.checkS x.N x.D x.T x.os x.ts (ros p.rs) p.us = (z, er) := ⟨_, _, rfl⟩
  by_cases he : er = 0
  · subst he
    have hmay := (Pl.may_of (by rw [hck])).1
    have hlen := Bt.movesL_len (Bt.sm_of hmay).1 (Bt.sm_of hmay).2.1 (Bt.sm_of hmay).2.2
    refine ⟨Bt.movesL (ros p.rs) p.us (x.ts.map Ld.T.id), fun w hx hp => (moves_yes x p w z hck hx hp hcap).mono ?_, fun w hx hp => (dmoves_yes x p w z hck hx hp hcap).mono ?_⟩
    · rintro e w' ⟨A, m, c, l, rfl, h⟩
      obtain ⟨A', c', e, _, _, hrow, _⟩ := h.out.2.1.row
      injection e with e1 e2 e3
      have hl : l.length = (Bt.movesL (ros p.rs) p.us (x.ts.map Ld.T.id)).length := by rw [← h.out.2.2.2, List.length_map]
      exact ⟨A, m, c, l, rfl, h.out.1, e2.symm, by omega, by rw [e1]; exact hrow, fun q hq => (h.out.2.2.1 q hq).1.at_, h.out.2.2.2, fun q hq => (h.out.2.2.1 q hq).2.1⟩
    · rintro e w' ⟨A, m, c, l, rfl, h⟩
      obtain ⟨h1, h2, h3, h4, h5, h6⟩ := h.out
      obtain ⟨A', c', e, _, _, hrow, _⟩ := h2.own.row
      injection e with e1 e2 e3
      have heq : (l.map fun q => ros q.rs) = Bt.movesL (ros p.rs) p.us (x.ts.map Ld.T.id) := h4
      have hl : l.length = (Bt.movesL (ros p.rs) p.us (x.ts.map Ld.T.id)).length := by rw [← heq, List.length_map]
      exact ⟨A, m, c, l, rfl, h1, h3, by omega, by rw [e1]; exact hrow, fun q hq => (h2.st q hq).now, heq, h5⟩
  · have hz : z = 0 := by
      have := Pl.check_zero (N := x.N) (D := x.D) (T := x.T) (os := x.os) (ts := x.ts) (rs := ros p.rs) (us := p.us) (by rw [hck]; exact he)
      rw [hck] at this
      exact this
    subst hz
    refine ⟨[], fun w hx hp => (moves_no x p w er hck he hx hp).mono ?_, fun w hx hp => (dmoves_no x p w er hck he hx hp).mono ?_⟩
    · rintro e w' ⟨rfl, h⟩
      exact ⟨none, 0, 0, [], rfl, h.out, rfl, by omega, RowsP.nil _ _, (fun q hq => by cases hq), rfl, fun q hq => by cases hq⟩
    · rintro e w' ⟨A, c, rfl, h⟩
      exact ⟨A, 0, c, [], rfl, h.out, rfl, by omega, RowsP.nil _ _, (fun q hq => by cases hq), rfl, fun q hq => by cases hq⟩
theorem us_of {x : Wd} {l : List Pd} (h : ∀ q ∈ l, q.us = Pl.restS x.os (ros q.rs)) : (l.map fun q => q.us) = (l.map fun q => ros q.rs).map (Pl.restS x.os) := by
  rw [List.map_map]
  exact List.map_congr_left h

set_option maxHeartbeats 20000000 in
theorem walk {w : World} (x : Wd) (hx : WorldIn w x) (p : Pd) (hp : PlanIn w p) (fp : Few p) :
    Calls Tryz.prog 3 #[.agg #[.int .i64 x.N, .slice x.dA x.dm x.dc, .slice x.tA x.tm x.tc, .slice x.A x.m x.c, .slice x.B x.k x.d], .agg #[.slice p.rA p.rm p.rc, .slice p.uA p.um p.uc]] w fun e w' => e = .returned (.bool true) ∧ Below w.heap.size w w' := by
  have HB0 : Hid (Below w.heap.size w ((w.alloc (.cells #[.int .i64 x.N, .slice x.dA x.dm x.dc, .slice x.tA x.tm x.tc, .slice x.A x.m x.c, .slice x.B x.k x.d] 28)).alloc (.cells #[.slice p.rA p.rm p.rc, .slice p.uA p.um p.uc] 32))) := below_more (below_alloc _ _) _
  have HX := Lib.hid (OB.new w x p)
  have HWI := Lib.hid hx
  have HPI := Lib.hid hp
  have HFP := Lib.hid fp
  have HCAP : Hid (∀ r ∈ p.rs, r.sm ≤ r.sc) := fun r hr => (hp.ra r hr).sc
  clear hx hp fp
  go_enter Tryz.func3, Tryz.ntmps3
  go_wp2_with fail
  generalize ((w.alloc (.cells #[.int .i64 x.N, .slice x.dA x.dm x.dc, .slice x.tA x.tm x.tc, .slice x.A x.m x.c, .slice x.B x.k x.d] 28)).alloc (.cells #[.slice p.rA p.rm p.rc, .slice p.uA p.um p.uc] 32)) = V at *
  generalize w.heap.size + 1 = b2 at *
  generalize hb1 : w.heap.size = b1 at HX ⊢
  have HBE := Lib.hid hb1
  clear hb1
  with_reducible refine (awake_any _).mono ?_
  rintro e V1 ⟨rfl, hv1⟩
  have HX1 := Lib.hid (HX.out.below hv1)
  have HB1 := Lib.hid (below_next HB0.out hv1)
  clear hv1 HX HB0
  obtain ⟨r, hr⟩ : ∃ r : Bool, r = true ↔ LargeB x p 0 := by
    by_cases h : LargeB x p 0
    · exact ⟨true, by simp [h]⟩
    · exact ⟨false, by simp [h]⟩
  have HR := Lib.hid hr
  have HC := Lib.hid (blarge_b x p 0 V1 r hr (HWI.out.below HB1.out) (HPI.out.below HB1.out) HFP.out)
  clear hr
  have c0 := wbox0 HX1.out.w
  have c1 := wbox1 HX1.out.w
  have c2 := wbox2 HX1.out.w
  have c3 := wbox3 HX1.out.w
  have c4 := wbox4 HX1.out.w
  have a0 := pbox0 HX1.out.p
  have a1 := pbox1 HX1.out.p
  go_wp2_with fail
  clear c0 c1 c2 c3 c4 a0 a1
  with_reducible refine HC.out.mono ?_
  rintro e V2 ⟨rfl, hv2⟩
  have HX2' := Lib.hid (HX1.out.below hv2.out)
  have HB2 := Lib.hid (below_next HB1.out hv2.out)
  clear hv2 HX1 HB1 HC
  cases r with
  | true =>
    go_wp2_with fail
    go_ret
    exact ⟨rfl, HB2.out⟩
  | false =>
    have HNL := Lib.hid (large_no3 (fun h => by have := HR.out.2 h; cases this))
    have HX2 : Hid (OW V2 b1 b2 x p) := ⟨⟨HX2'.out.w, (HWI.out.below HB2.out).at_ HNL.out.1⟩, ⟨HX2'.out.p, (HPI.out.below HB2.out).at_ HNL.out.2.1⟩⟩
    clear HX2' HWI HPI HFP HR
    obtain ⟨M, hm1, hm2⟩ := prog_moves x p HCAP.out
    have HM1 := Lib.hid hm1
    have HM2 := Lib.hid hm2
    clear hm1 hm2
    have HBd : Hid (Below V2.heap.size V2 V2.drew) := (Below.refl _ _).drew
    have HC1 : Hid (∀ U, Below V2.heap.size V2 U → Calls Tryz.prog 10 #[.agg #[.int .i64 x.N, .slice x.dA x.dm x.dc, .slice x.tA x.tm x.tc, .slice x.A x.m x.c, .slice x.B x.k x.d], .agg #[.slice p.rA p.rm p.rc, .slice p.uA p.um p.uc]] U (LPost U M x)) := fun U hU => HM1.out U (HX2.out.below hU).w.at_ (HX2.out.below hU).p.at_
    have HC2 : Hid (∀ U, Below V2.heap.size V2 U → Calls Tryz.prog 11 #[.agg #[.int .i64 x.N, .slice x.dA x.dm x.dc, .slice x.tA x.tm x.tc, .slice x.A x.m x.c, .slice x.B x.k x.d], .agg #[.slice p.rA p.rm p.rc, .slice p.uA p.um p.uc]] U (LPost U M x)) := fun U hU => HM2.out U (HX2.out.below hU).w.at_ (HX2.out.below hU).p.at_
    have HYS : Hid (∀ U, Below V2.heap.size V2 U → U.cell? ⟨b1, 0, none⟩ = some (.int .i64 x.N) ∧ U.cell? ⟨b1, 1, none⟩ = some (.slice x.dA x.dm x.dc) ∧ U.cell? ⟨b1, 2, none⟩ = some (.slice x.tA x.tm x.tc) ∧ U.cell? ⟨b1, 3, none⟩ = some (.slice x.A x.m x.c) ∧ U.cell? ⟨b1, 4, none⟩ = some (.slice x.B x.k x.d) ∧ U.cell? ⟨b2, 0, none⟩ = some (.slice p.rA p.rm p.rc) ∧ U.cell? ⟨b2, 1, none⟩ = some (.slice p.uA p.um p.uc)) := fun U hU =>
      ⟨wbox0 (HX2.out.below hU).w.box, wbox1 (HX2.out.below hU).w.box, wbox2 (HX2.out.below hU).w.box, wbox3 (HX2.out.below hU).w.box, wbox4 (HX2.out.below hU).w.box, (HX2.out.below hU).p.c0, (HX2.out.below hU).p.c1⟩
    go_wp2_with fail
    go_region_held3 (fun U : World => U.cell? ⟨b1, 0, none⟩ = some (.int .i64 x.N) ∧ U.cell? ⟨b1, 1, none⟩ = some (.slice x.dA x.dm x.dc) ∧ U.cell? ⟨b1, 2, none⟩ = some (.slice x.tA x.tm x.tc) ∧ U.cell? ⟨b1, 3, none⟩ = some (.slice x.A x.m x.c) ∧ U.cell? ⟨b1, 4, none⟩ = some (.slice x.B x.k x.d) ∧ U.cell? ⟨b2, 0, none⟩ = some (.slice p.rA p.rm p.rc) ∧ U.cell? ⟨b2, 1, none⟩ = some (.slice p.uA p.um p.uc)) (first | exact HYS.out _ HBd.out | exact HYS.out _ hb3 | exact HYS.out _ hb4 | exact HYS.out _ hb5 | assumption) (first
      | (go_at_call 10; with_reducible refine (HC1.out _ HBd.out).mono ?_
         rintro e w3 ⟨A1, m1, c1, l1, rfl, h1⟩
         have hb3 := below_next HBd.out h1.out.1)
      | (go_at_call 11; with_reducible refine (HC2.out _ hb3).mono ?_
         rintro e w4 ⟨A2, m2, c2, l2, rfl, h2⟩
         have hb4 := below_next hb3 h2.out.1)
      | (go_at_call 9; with_reducible refine (dplans_b A1 A2 m1 c1 m2 c2 l1 l2 w4 h1.out.2.1 h2.out.2.1 h1.out.2.2.1 (h1.out.2.2.2.1.below h2.out.1) h2.out.2.2.2.1 (fun q hq => (h1.out.2.2.2.2.1 q hq).below h2.out.1) h2.out.2.2.2.2.1 (h1.out.2.2.2.2.2.1.trans h2.out.2.2.2.2.2.1.symm) ((us_of h1.out.2.2.2.2.2.2).trans ((congrArg (List.map (Pl.restS x.os)) (h1.out.2.2.2.2.2.1.trans h2.out.2.2.2.2.2.1.symm)).trans (us_of h2.out.2.2.2.2.2.2).symm))).mono ?_
         rintro e w5 ⟨rfl, h5⟩
         have hb5 := below_next hb4 h5.out))
    all_goals
      have HB5 := Lib.hid (below_next HB2.out hb5)
      go_wp2
      go_ret
      exact ⟨rfl, HB5.out⟩

set_option maxRecDepth 100000 in
theorem lifted (os : Os) (started : os.Started) (H : Type) (enc : TypeId × Value → H) :
    ReturnsInHanded {} Tryz.checked os 3 .any (Rows.betterMovesSpec.pre6 enc Tryz.prog Tryz.f3 Rows.betterMovesRow.domain false) (Rows.betterMovesSpec.post enc Tryz.prog Tryz.f3 false true false false) := by
  refine returnsInHanded_of_change_sized (C := Tryz.checked) own started (by kernel_rfl) Tryz.func3
    (ChangeSpec.witness6 (enc := enc) (C := Tryz.checked) false ⟨#[], #[.agg #[.int .i64 0, .slice none 0 0, .slice none 0 0, .slice none 0 0, .slice none 0 0], .agg #[.slice none 0 0, .slice none 0 0]], []⟩ 8 (by kernel_rfl) (by kernel_rfl) (by kernel_rfl) (by kernel_rfl)) ?_
  intro W base args ds gs before hval0 hW _ hsz0 _
  have hsz : (DataW.weightsEach Tryz.prog (Tryz.f3.params.toList ++ Rows.betterMovesSpec.plain.varTypes Tryz.prog) (ds ++ gs)).all (· ≤ reachBytes) = true := hsz0
  have hval : ∀ (j : Nat) t v, Tryz.f3.params[j]? = some t → args[j]? = some v → Value.okWide Tryz.prog W .any base t v := hval0
  have hW' := hW
  obtain ⟨p, q, hA0, hV, rfl, hfz, hnd⟩ := hW
  have hA : DataW.TrodAll enc Tryz.prog W 0 (fun _ => true) true Tryz.f3.params.toList args.toList ds p := hA0
  rw [Tryz.params3] at hA hval hsz
  obtain ⟨v0, vs0, d0, ds0, p0, q0, hargs, rfl, rfl, h0, r0⟩ := trodAll_cons hA
  obtain ⟨v1, vs1, d1, ds1, p1, q1, rfl, rfl, rfl, h1, r1⟩ := trodAll_cons r0
  obtain ⟨rfl, rfl, rfl⟩ := trodAll_nil r1
  obtain rfl : args = #[v0, v1] := by cases args; simp_all
  obtain ⟨rfl, rfl⟩ := trodVars_none hV
  have k0 := h0
  have lt0 : ∀ x ∈ p0, x.block < W.heap.size := by obtain ⟨m, hm⟩ := k0; exact DataW.trod_lt m _ _ _ hm
  obtain ⟨x0, rfl, hv0⟩ := open_world_in (hval 0 28 v0 rfl rfl) h0
  have k1 := h1
  have lt1 : ∀ x ∈ p1, x.block < W.heap.size := by obtain ⟨m, hm⟩ := k1; exact DataW.trod_lt m _ _ _ hm
  obtain ⟨x1, rfl, hv1, hw1⟩ := open_plan_in (hval 1 32 v1 rfl rfl) h1
  have hs1 : Few x1 := fun r hr => by
    have hsc := (hv1.ra r hr).sc
    rcases hw1 r hr with h0 | hin
    · omega
    · have := List.all_eq_true.1 hsz _ (DataW.weights_mem_each (j := 1) (t := 32) (d := d1) rfl rfl _ hin)
      have h2 : r.sc * 8 ≤ reachBytes := by simpa using this
      have h3 := reachBytes_lt
      omega
  clear hA0 hval0
  refine (walk x0 hv0 x1 hv1 hs1).mono fun e W' ⟨he, bel⟩ => ?_
  subst he
  exact ⟨_, rfl, _, _, _, [], _, [], hW', trodAll_mk1 (shut_bool Tryz.underlying4 _), (trodAll_cons_mk (Below.trod laidOut (by kernel_rfl) (of_decide_eq_true (by kernel_rfl)) k0 bel lt0) (trodAll_cons_mk (Below.trod laidOut (by kernel_rfl) (of_decide_eq_true (by kernel_rfl)) k1 bel lt1) trodAll_mk0)), rfl, bel.frame _, fun h => by cases h⟩

theorem over : Rows.betterMovesRow.holds Tryz.pinned (OpenSpec.ofChange Rows.betterMovesSpec) :=
  OpenClaim.holds_of_wide 3 Tryz.f3 rfl rfl rfl rfl rfl rfl rfl ⟨rfl, rfl, rfl, rfl, rfl⟩ rfl rfl rfl rfl rfl (by kernel_rfl) Tryz.func3 (by kernel_rfl)
    (of_decide_eq_true (by kernel_rfl)) (by unfold Func.isWrapper; first | (rw [if_pos (by decide +kernel)]; kernel_rfl) | (rw [if_neg (by decide +kernel)]; exact ⟨rfl, rfl⟩))
    (fun os started H enc _ => lifted os started H enc)

theorem proved : Rows.BetterMovesSaid := over
end Go.Proofs.YtgjmlnpfkmpfgaaGreat.betterMoves
