/- Every call of the law that whether an area may be, each leg and tour, and what is nearest, are as the document says answers true: for every area, every two nodes and every list of nodes. No conditions. -/
import Derived.Test.YtllffjgjmeibnaaRows
import Derived.Test.YtllffjgjmeibnaaAreaR5
import Derived.WalkKit
import Derived.ProofKit
import Derived.OpenShut
import Derived.ShutString
import Derived.ChangeOld
import Derived.Below
import Derived.SizedLaws
namespace Go.Proofs.Ytllffjgjmeibnaa.areaTells
open Go.ChangeShapes Go.WideShapes Go.ChangeAt Go.RowKit
open Go.ChangeMaps (open_string shut_string)
set_option linter.unusedVariables false

theorem own : ownKnob Try.prog.godebug = none := by kernel_rfl
theorem laidOut : laidOutB Try.prog = true := by kernel_rfl

open Go.Proofs.Ytllffjgjmeibnaa

theorem long_any (N : Int) (dA : Option Addr) (dm dc : Nat) (tA : Option Addr) (tm tc : Nat) (f t : Int) (A : Option Addr) (m c : Nat) (w : World) (hd : dm ≤ maxLen) (ht : tm ≤ maxLen) (hm : m ≤ maxLen) (h : 200 < m ∨ 400 < dm ∨ 400 < tm) :
    Calls Try.prog 3 #[.agg #[.int .i64 N, .slice dA dm dc, .slice tA tm tc], .int .i64 f, .int .i64 t, .slice A m c] w fun e w' => e = .returned (.bool true) ∧ Below w.heap.size w w' := by
  unfold maxLen at hd ht hm
  have HX : Hid (Box (w.alloc (.cells #[.int .i64 N, .slice dA dm dc, .slice tA tm tc] 24)) w.heap.size (boxA N dA dm dc tA tm tc) 24) := Box.new _ _ _
  have HB0 : Hid (Below w.heap.size w (w.alloc (.cells #[.int .i64 N, .slice dA dm dc, .slice tA tm tc] 24))) := below_alloc _ _
  by_cases h1 : 200 < m
  · have d1 : decide ((200 : Int) < (m : Int)) = true := decide_eq_true (by omega)
    go_enter Try.func3, Try.ntmps3
    go_wp2_with (go_at_call 6; refine (awake_any _).mono ?_; rintro e w1 ⟨rfl, hb1⟩)
    go_ret
    exact ⟨rfl, below_next HB0.out hb1⟩
  · have d1 : decide ((200 : Int) < (m : Int)) = false := decide_eq_false (by omega)
    by_cases h2 : 400 < dm
    · have d2 : decide ((400 : Int) < (dm : Int)) = true := decide_eq_true (by omega)
      go_enter Try.func3, Try.ntmps3
      go_wp2_with fail
      with_reducible refine (awake_any _).mono ?_
      rintro e w1 ⟨rfl, hb1⟩
      have x1 : w1.cell? ⟨w.heap.size, 1, none⟩ = some (.slice dA dm dc) := (HX.out.below hb1).cell 1 _ rfl
      have HB1 := Lib.hid (below_next HB0.out hb1)
      clear hb1
      go_wp2
      go_ret
      exact ⟨rfl, HB1.out⟩
    · have d2 : decide ((400 : Int) < (dm : Int)) = false := decide_eq_false (by omega)
      have d3 : decide ((400 : Int) < (tm : Int)) = true := decide_eq_true (by omega)
      go_enter Try.func3, Try.ntmps3
      go_wp2_with fail
      with_reducible refine (awake_any _).mono ?_
      rintro e w1 ⟨rfl, hb1⟩
      have x1 : w1.cell? ⟨w.heap.size, 1, none⟩ = some (.slice dA dm dc) := (HX.out.below hb1).cell 1 _ rfl
      have x2 : w1.cell? ⟨w.heap.size, 2, none⟩ = some (.slice tA tm tc) := (HX.out.below hb1).cell 2 _ rfl
      have HB1 := Lib.hid (below_next HB0.out hb1)
      clear hb1
      go_wp2
      go_ret
      exact ⟨rfl, HB1.out⟩

theorem trip {x : Int × Int × Int} : x = (x.1, x.2.1, x.2.2) := rfl
theorem pair {x : Int × Int} : x = (x.1, x.2) := rfl

set_option maxHeartbeats 4000000 in
set_option maxRecDepth 100000 in
theorem short_any (N : Int) (dA : Option Addr) (dm dc : Nat) (D : List Int) (tA : Option Addr) (tm tc : Nat) (T : List Int) (f t : Int) (A : Option Addr) (m c : Nat) (l : List Int) (w : World) (h : AreaAt w dA dm D tA tm T) (hm : l.length = m) (hm2 : m ≤ 200) (hl : IntsAt w A l) :
    Calls Try.prog 3 #[.agg #[.int .i64 N, .slice dA dm dc, .slice tA tm tc], .int .i64 f, .int .i64 t, .slice A m c] w fun e w' => e = .returned (.bool true) ∧ Below w.heap.size w w' := by
  have d1 : decide ((200 : Int) < (m : Int)) = false := decide_eq_false (by omega)
  have d2 : decide ((400 : Int) < (dm : Int)) = false := decide_eq_false (by have := h.d400; omega)
  have d3 : decide ((400 : Int) < (tm : Int)) = false := decide_eq_false (by have := h.t400; omega)
  have HB0 : Hid (Below w.heap.size w (w.alloc (.cells #[.int .i64 N, .slice dA dm dc, .slice tA tm tc] 24))) := below_alloc _ _
  have HX := Lib.hid (Boxed.new (N := N) (dc := dc) (tc := tc) h)
  have HL : Hid (IntsAt (w.alloc (.cells #[.int .i64 N, .slice dA dm dc, .slice tA tm tc] 24)) A l) := hl.below HB0.out
  have HM := Lib.hid hm
  have HTL : Hid (Ar.legS N D T f t = _) := trip
  have HTT : Hid (Ar.tourS N D T l = _) := trip
  have HTN : Hid (Ar.nearS N D T t l = _) := pair
  generalize (Ar.legS N D T f t).1 = r1 at *
  generalize (Ar.legS N D T f t).2.1 = r2 at *
  generalize (Ar.legS N D T f t).2.2 = r3 at *
  generalize (Ar.tourS N D T l).1 = s1 at *
  generalize (Ar.tourS N D T l).2.1 = s2 at *
  generalize (Ar.tourS N D T l).2.2 = s3 at *
  generalize (Ar.nearS N D T t l).1 = n1 at *
  generalize (Ar.nearS N D T t l).2 = n2 at *
  obtain ⟨ce, hce⟩ : ∃ ce, Ar.checkE N D T = ce := ⟨_, rfl⟩
  have HCE := Lib.hid hce
  clear h hl hm hce
  go_enter Try.func3, Try.ntmps3
  go_wp2_with fail
  generalize w.alloc (.cells #[.int .i64 N, .slice dA dm dc, .slice tA tm tc] 24) = W at *
  with_reducible refine (awake_any W).mono ?_
  rintro e w1 ⟨rfl, hb1⟩
  have HX1 := Lib.hid (HX.out.below hb1)
  have HL1 := Lib.hid (HL.out.below hb1)
  have HB1 := Lib.hid (below_next HB0.out hb1)
  clear hb1 HX HL HB0
  have HC0 : Hid (∀ w6, Below w1.heap.size w1 w6 → w6.cell? ⟨w.heap.size, 0, none⟩ = some (.int .i64 N)) := fun w6 hb => (HX1.out.below hb).c0
  have HC1 : Hid (∀ w6, Below w1.heap.size w1 w6 → w6.cell? ⟨w.heap.size, 1, none⟩ = some (.slice dA dm dc)) := fun w6 hb => (HX1.out.below hb).c1
  have HC2 : Hid (∀ w6, Below w1.heap.size w1 w6 → w6.cell? ⟨w.heap.size, 2, none⟩ = some (.slice tA tm tc)) := fun w6 hb => (HX1.out.below hb).c2
  have x0 := HX1.out.c0
  have x1 := HX1.out.c1
  have x2 := HX1.out.c2
  go_wp2_with fail
  with_reducible refine (leg_b (w := w1) f t r1 r2 r3 HX1.out.rows (Below.refl _ _) HTL.out).mono ?_
  rintro en w2 ⟨rfl, hb2⟩
  have HQ2 := Lib.hid hb2.out
  clear hb2 x0 x1 x2
  have x0 := HC0.out w2 HQ2.out
  have x1 := HC1.out w2 HQ2.out
  have x2 := HC2.out w2 HQ2.out
  go_wp2_with fail
  with_reducible refine (rleg_b (w := w1) f t r1 r2 r3 HX1.out.rows HQ2.out HTL.out).mono ?_
  rintro en w3 ⟨rfl, hb3⟩
  have HQ3 := Lib.hid (below_next HQ2.out hb3.out)
  clear hb3 x0 x1 x2 HQ2
  have x0 := HC0.out w3 HQ3.out
  have x1 := HC1.out w3 HQ3.out
  have x2 := HC2.out w3 HQ3.out
  go_wp2_with fail
  with_reducible refine (tour_b (w := w1) A m c l s1 s2 s3 HX1.out.rows HM.out (by omega) (HL1.out.below HQ3.out) HQ3.out HTT.out).mono ?_
  rintro en w4 ⟨rfl, hb4⟩
  have HQ4 := Lib.hid (below_next HQ3.out hb4.out)
  clear hb4 x0 x1 x2 HQ3
  have x0 := HC0.out w4 HQ4.out
  have x1 := HC1.out w4 HQ4.out
  have x2 := HC2.out w4 HQ4.out
  go_wp2_with fail
  with_reducible refine (rtour_b (w := w1) A m c l s1 s2 s3 HX1.out.rows HM.out (by omega) (HL1.out.below HQ4.out) HQ4.out HTT.out).mono ?_
  rintro en w5 ⟨rfl, hb5⟩
  have HQ5 := Lib.hid (below_next HQ4.out hb5.out)
  clear hb5 x0 x1 x2 HQ4
  have x0 := HC0.out w5 HQ5.out
  have x1 := HC1.out w5 HQ5.out
  have x2 := HC2.out w5 HQ5.out
  go_wp2_with fail
  with_reducible refine (near_b (w := w1) t A m c l n1 n2 HX1.out.rows HM.out (by omega) (HL1.out.below HQ5.out) HQ5.out HTN.out).mono ?_
  rintro en w6 ⟨rfl, hb6⟩
  have HQ6 := Lib.hid (below_next HQ5.out hb6.out)
  clear hb6 x0 x1 x2 HQ5
  have x0 := HC0.out w6 HQ6.out
  have x1 := HC1.out w6 HQ6.out
  have x2 := HC2.out w6 HQ6.out
  go_wp2_with fail
  with_reducible refine (rnear_b (w := w1) t A m c l n1 n2 HX1.out.rows HM.out (by omega) (HL1.out.below HQ6.out) HQ6.out HTN.out).mono ?_
  rintro en w7 ⟨rfl, hb7⟩
  have HQ7 := Lib.hid (below_next HQ6.out hb7.out)
  clear hb7 x0 x1 x2 HQ6 HTL HTT HTN HL1
  have x0 := HC0.out w7 HQ7.out
  have x1 := HC1.out w7 HQ7.out
  have x2 := HC2.out w7 HQ7.out
  have hB := HQ7.out.drew
  have HK : Hid (∀ W' : World, (W'.cell? ⟨w.heap.size, 0, none⟩ = some (.int .i64 N) ∧ W'.cell? ⟨w.heap.size, 1, none⟩ = some (.slice dA dm dc) ∧ W'.cell? ⟨w.heap.size, 2, none⟩ = some (.slice tA tm tc) ∧ Below w1.heap.size w1 W') →
      Calls Try.prog 13 #[.agg #[.int .i64 N, .slice dA dm dc, .slice tA tm tc]] W' fun e w' => e = .returned (.int .i64 ce) ∧ w'.cell? ⟨w.heap.size, 0, none⟩ = some (.int .i64 N) ∧ w'.cell? ⟨w.heap.size, 1, none⟩ = some (.slice dA dm dc) ∧ w'.cell? ⟨w.heap.size, 2, none⟩ = some (.slice tA tm tc) ∧ Below w1.heap.size w1 w') := fun W' hW =>
    (check_ok W' ce HCE.out (HX1.out.rows.below hW.2.2.2)).mono fun _ w' ⟨p1, p2⟩ => ⟨p1, HC0.out w' (below_next hW.2.2.2 p2.out), HC1.out w' (below_next hW.2.2.2 p2.out), HC2.out w' (below_next hW.2.2.2 p2.out), below_next hW.2.2.2 p2.out⟩
  have HKR : Hid (∀ W' : World, (W'.cell? ⟨w.heap.size, 0, none⟩ = some (.int .i64 N) ∧ W'.cell? ⟨w.heap.size, 1, none⟩ = some (.slice dA dm dc) ∧ W'.cell? ⟨w.heap.size, 2, none⟩ = some (.slice tA tm tc) ∧ Below w1.heap.size w1 W') →
      Calls Try.prog 14 #[.agg #[.int .i64 N, .slice dA dm dc, .slice tA tm tc]] W' fun e w' => e = .returned (.int .i64 ce) ∧ w'.cell? ⟨w.heap.size, 0, none⟩ = some (.int .i64 N) ∧ w'.cell? ⟨w.heap.size, 1, none⟩ = some (.slice dA dm dc) ∧ w'.cell? ⟨w.heap.size, 2, none⟩ = some (.slice tA tm tc) ∧ Below w1.heap.size w1 w') := fun W' hW =>
    (rcheck_b W' ce HCE.out (HX1.out.rows.below hW.2.2.2)).mono fun _ w' ⟨p1, p2⟩ => ⟨p1, HC0.out w' (below_next hW.2.2.2 p2.out), HC1.out w' (below_next hW.2.2.2 p2.out), HC2.out w' (below_next hW.2.2.2 p2.out), below_next hW.2.2.2 p2.out⟩
  have b0 : (ce == ce) = true := by simp
  have b1 : (r1 == r1) = true := by simp
  have b2 : (r2 == r2) = true := by simp
  have b3 : (r3 == r3) = true := by simp
  have b4 : (s1 == s1) = true := by simp
  have b5 : (s2 == s2) = true := by simp
  have b6 : (s3 == s3) = true := by simp
  have b7 : (n1 == n1) = true := by simp
  have b8 : (n2 == n2) = true := by simp
  clear HC0 HC1 HC2 HCE
  go_wp2
  go_region_held3 (fun W' : World => W'.cell? ⟨w.heap.size, 0, none⟩ = some (.int .i64 N) ∧ W'.cell? ⟨w.heap.size, 1, none⟩ = some (.slice dA dm dc) ∧ W'.cell? ⟨w.heap.size, 2, none⟩ = some (.slice tA tm tc) ∧ Below w1.heap.size w1 W') (first | exact ⟨x0, x1, x2, hB⟩ | exact ⟨k0, k1, k2, kb⟩ | assumption)
    (first
      | (go_at_call 13; ((with_reducible refine (HK.out _ (by assumption)).mono ?_)); rintro e w8 ⟨rfl, k0, k1, k2, kb⟩)
      | (go_at_call 14; ((with_reducible refine (HKR.out _ (by assumption)).mono ?_)); rintro e w8 ⟨rfl, k0, k1, k2, kb⟩))
  all_goals
    have KB := Lib.hid (below_next HB1.out kb)
    clear k0 k1 k2 kb
    go_wp2
    go_ret
    exact ⟨rfl, KB.out⟩

theorem walk (N : Int) (dA : Option Addr) (dm dc : Nat) (D : List Int) (tA : Option Addr) (tm tc : Nat) (T : List Int) {W : World} (hv : AreaCame W (.agg #[.int .i64 N, .slice dA dm dc, .slice tA tm tc]) N dA dm dc D tA tm tc T) (f : Int) (wf : (Lit.int .i64 f).wf = true) (t : Int) (wt : (Lit.int .i64 t).wf = true) (A : Option Addr) (m c : Nat) (l : List Int) (hl : l.length = m) (hmc : m ≤ c) (hcm : c ≤ maxLen) (hi : IntsAt W A l) :
    Calls Try.prog 3 #[.agg #[.int .i64 N, .slice dA dm dc, .slice tA tm tc], .int .i64 f, .int .i64 t, .slice A m c] W fun e w' => e = .returned (.bool true) ∧ Below W.heap.size W w' := by
  by_cases h : 200 < m ∨ 400 < dm ∨ 400 < tm
  · exact long_any N dA dm dc tA tm tc f t A m c W hv.dmx hv.tmx (Nat.le_trans hmc hcm) h
  · exact short_any N dA dm dc D tA tm tc T f t A m c l W (hv.at_ (by omega) (by omega)) hl (by omega) hi

set_option maxRecDepth 100000 in
theorem lifted (os : Os) (started : os.Started) (H : Type) (enc : TypeId × Value → H) :
    ReturnsInHanded {} Try.checked os 3 .any (Rows.areaTellsSpec.pre6 enc Try.prog Try.f3 Rows.areaTellsRow.domain false) (Rows.areaTellsSpec.post enc Try.prog Try.f3 false true false false) := by
  refine returnsInHanded_of_change_sized (C := Try.checked) own started (by kernel_rfl) Try.func3
    (ChangeSpec.witness6 (enc := enc) (C := Try.checked) false ⟨#[], #[.agg #[.int .i64 0, .slice none 0 0, .slice none 0 0], .int .i64 0, .int .i64 0, .slice none 0 0], []⟩ 8 (by kernel_rfl) (by kernel_rfl) (by kernel_rfl) (by kernel_rfl)) ?_
  intro W base args ds gs before hval0 hW _ hsz0 _
  have hsz : (DataW.weightsEach Try.prog (Try.f3.params.toList ++ Rows.areaTellsSpec.plain.varTypes Try.prog) (ds ++ gs)).all (· ≤ reachBytes) = true := hsz0
  have hval : ∀ (j : Nat) t v, Try.f3.params[j]? = some t → args[j]? = some v → Value.okWide Try.prog W .any base t v := hval0
  have hW' := hW
  obtain ⟨p, q, hA0, hV, rfl, hfz, hnd⟩ := hW
  have hA : DataW.TrodAll enc Try.prog W 0 (fun _ => true) true Try.f3.params.toList args.toList ds p := hA0
  rw [Try.params3] at hA hval hsz
  obtain ⟨v0, vs0, d0, ds0, p0, q0, hargs, rfl, rfl, h0, r0⟩ := trodAll_cons hA
  obtain ⟨v1, vs1, d1, ds1, p1, q1, rfl, rfl, rfl, h1, r1⟩ := trodAll_cons r0
  obtain ⟨v2, vs2, d2, ds2, p2, q2, rfl, rfl, rfl, h2, r2⟩ := trodAll_cons r1
  obtain ⟨v3, vs3, d3, ds3, p3, q3, rfl, rfl, rfl, h3, r3⟩ := trodAll_cons r2
  obtain ⟨rfl, rfl, rfl⟩ := trodAll_nil r3
  obtain rfl : args = #[v0, v1, v2, v3] := by cases args; simp_all
  obtain ⟨rfl, rfl⟩ := trodVars_none hV
  have k0 := h0
  have lt0 : ∀ x ∈ p0, x.block < W.heap.size := by obtain ⟨m, hm⟩ := k0; exact DataW.trod_lt m _ _ _ hm
  obtain ⟨N0, dA0, dm0, dc0, D0, tA0, tm0, tc0, T0, hv0⟩ := open_area (hval 0 24 v0 rfl rfl) h0
  obtain rfl := hv0.val
  obtain ⟨a1, rfl, rfl, rfl, w1⟩ := open_int Try.underlying3 (hval 1 3 v1 rfl rfl) h1
  obtain ⟨a2, rfl, rfl, rfl, w2⟩ := open_int Try.underlying3 (hval 2 3 v2 rfl rfl) h2
  have k3 := h3
  have lt3 : ∀ x ∈ p3, x.block < W.heap.size := by obtain ⟨m, hm⟩ := k3; exact DataW.trod_lt m _ _ _ hm
  obtain ⟨a3, len3, cap3, l3, rfl, hl3, hlc3, hcm3, hv3⟩ := open_nodes (hval 3 25 v3 rfl rfl) h3
  clear hA0 hval0
  refine (walk N0 dA0 dm0 dc0 D0 tA0 tm0 tc0 T0 hv0 a1 w1 a2 w2 a3 len3 cap3 l3 hl3 hlc3 hcm3 hv3).mono fun e W' ⟨he, bel⟩ => ?_
  subst he
  exact ⟨_, rfl, _, _, _, [], _, [], hW', trodAll_mk1 (shut_bool Try.underlying4 _), (trodAll_cons_mk (Below.trod laidOut (by kernel_rfl) (of_decide_eq_true (by kernel_rfl)) k0 bel lt0) (trodAll_cons_mk (shut_int Try.underlying3 w1) (trodAll_cons_mk (shut_int Try.underlying3 w2) (trodAll_cons_mk (Below.trod laidOut (by kernel_rfl) (of_decide_eq_true (by kernel_rfl)) k3 bel lt3) trodAll_mk0)))), rfl, bel.frame _, fun h => by cases h⟩

theorem over : Rows.areaTellsRow.holds Try.pinned (OpenSpec.ofChange Rows.areaTellsSpec) :=
  OpenClaim.holds_of_wide 3 Try.f3 rfl rfl rfl rfl rfl rfl rfl ⟨rfl, rfl, rfl, rfl, rfl⟩ rfl rfl rfl rfl rfl (by kernel_rfl) Try.func3 (by kernel_rfl)
    (of_decide_eq_true (by kernel_rfl)) (by unfold Func.isWrapper; first | (rw [if_pos (by decide +kernel)]; kernel_rfl) | (rw [if_neg (by decide +kernel)]; exact ⟨rfl, rfl⟩))
    (fun os started H enc _ => lifted os started H enc)

theorem proved : Rows.AreaTellsSaid := over
end Go.Proofs.Ytllffjgjmeibnaa.areaTells
