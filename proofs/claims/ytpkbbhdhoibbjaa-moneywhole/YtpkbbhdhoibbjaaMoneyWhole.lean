/- Every call of the law that what is shared is whole answers true: for every three numbers. No conditions. -/
import Derived.Test.YtpkbbhdhoibbjaaRows
import Derived.Test.YtpkbbhdhoibbjaaMoneyAwake
import Derived.WalkKit
import Derived.ProofKit
import Derived.OpenShut
namespace Go.Proofs.Ytpkbbhdhoibbjaa.moneyWhole
open Go.ChangeShapes Go.WideShapes Go.ChangeAt Go.RowKit
set_option linter.unusedVariables false

theorem own : ownKnob Try.prog.godebug = none := by kernel_rfl

theorem whole_back (t p a : Int) (h : Grp.shOk t p a = true) (hm : Grp.mayB (t * p) = true) :
    Grp.mulS (t * p / a) a = (t * p / a * a, 0) ∧ Grp.addS (t * p / a * a) (t * p % a) = (t * p, 0) := by
  obtain ⟨t1, t2, a1, a2, p1, p2⟩ := (Grp.shOk_iff t p a).1 h
  have x0 : 0 ≤ t * p := Int.mul_nonneg t1 p1
  obtain ⟨_, x1⟩ := (Grp.mayB_iff _).1 hm
  have e : t * p / a * a + t * p % a = t * p := by have := Int.mul_ediv_add_emod (t * p) a; rw [Int.mul_comm a] at this; exact this
  have r0 : 0 ≤ t * p % a := Int.emod_nonneg _ (by omega)
  have r1 : t * p % a < a := Int.emod_lt_of_pos _ (by omega)
  have n0 : 0 ≤ t * p / a := Int.ediv_nonneg x0 (by omega)
  have n1 : t * p / a ≤ t * p := Int.ediv_le_self _ x0
  have b0 : 0 ≤ t * p / a * a := Int.mul_nonneg n0 (by omega)
  have hma : Grp.mayB a = true := (Grp.mayB_iff _).2 (by omega)
  have hmn : Grp.mayB (t * p / a) = true := (Grp.mayB_iff _).2 (by omega)
  have hmb : Grp.mayB (t * p / a * a) = true := (Grp.mayB_iff _).2 (by omega)
  have hmr : Grp.mayB (t * p % a) = true := (Grp.mayB_iff _).2 (by omega)
  constructor
  · unfold Grp.mulS; rw [if_pos ⟨hmn, hma⟩, if_pos hmb]
  · unfold Grp.addS; rw [if_pos ⟨hmb, hmr⟩, e, if_pos hm]

set_option maxHeartbeats 1000000 in
theorem walk (a0 : Int) (a1 : Int) (a2 : Int) (w0 : (Lit.int .i64 a0).wf = true) (w1 : (Lit.int .i64 a1).wf = true) (w2 : (Lit.int .i64 a2).wf = true) (w : World) :
    Calls Try.prog 6 #[.int .i64 a0, .int .i64 a1, .int .i64 a2] w fun e w' => e = .returned (.bool true) ∧ Grown w w' := by
  cases h : Grp.shOk a0 a1 a2
  · have e : Grp.shareS a0 a1 a2 = (0, 0, 1) := by unfold Grp.shareS; rw [h]; rfl
    clear h
    go_enter Try.func6, Try.ntmps6
    go_wp2_with (first
      | (go_at_call 7; refine (awake_any _).mono ?_; rintro e w' ⟨rfl, hg⟩)
      | (go_at_call 8; refine (add_any _ _ _).mono ?_; rintro e w' ⟨rfl, rfl⟩)
      | (go_at_call 10; refine (mul_any _ _ _).mono ?_; rintro e w' ⟨rfl, rfl⟩)
      | (go_at_call 14; refine (share_any _ _ _ _).mono ?_; rintro e w' ⟨rfl, rfl⟩))
    go_ret
    exact ⟨rfl, hg⟩
  · have e : Grp.shareS a0 a1 a2 = (a0 * a1 / a2, a0 * a1 % a2, 0) := by unfold Grp.shareS; rw [h]; rfl
    have hmok := Grp.mulS_ok a0 a1
    have hw := whole_back a0 a1 a2 h
    generalize hU : Grp.mulS a0 a1 = U at *
    obtain ⟨u, g⟩ := U
    simp only at hmok
    by_cases hg : g = 0
    · subst hg
      obtain ⟨ma, mb, mm, rfl⟩ := hmok rfl
      obtain ⟨e1, e2⟩ := hw mm
      generalize a0 * a1 / a2 = n at *
      generalize n * a2 = b at *
      generalize a0 * a1 % a2 = r at *
      generalize a0 * a1 = x at *
      clear hmok hw ma mb mm h
      go_enter Try.func6, Try.ntmps6
      go_wp2_with (first
        | (go_at_call 7; refine (awake_any _).mono ?_; rintro e w' ⟨rfl, hg⟩)
        | (go_at_call 8; refine (add_any _ _ _).mono ?_; rintro e w' ⟨rfl, rfl⟩)
        | (go_at_call 10; refine (mul_any _ _ _).mono ?_; rintro e w' ⟨rfl, rfl⟩)
        | (go_at_call 14; refine (share_any _ _ _ _).mono ?_; rintro e w' ⟨rfl, rfl⟩))
      go_ret
      exact ⟨rfl, hg⟩
    · have hg' : (g != 0) = true := by simp [hg]
      clear hmok hg hw h
      go_enter Try.func6, Try.ntmps6
      go_wp2_with (first
        | (go_at_call 7; refine (awake_any _).mono ?_; rintro e w' ⟨rfl, hg⟩)
        | (go_at_call 8; refine (add_any _ _ _).mono ?_; rintro e w' ⟨rfl, rfl⟩)
        | (go_at_call 10; refine (mul_any _ _ _).mono ?_; rintro e w' ⟨rfl, rfl⟩)
        | (go_at_call 14; refine (share_any _ _ _ _).mono ?_; rintro e w' ⟨rfl, rfl⟩))
      go_ret
      exact ⟨rfl, hg⟩

set_option maxRecDepth 100000 in
theorem lifted (os : Os) (started : os.Started) (H : Type) (enc : TypeId × Value → H) :
    ReturnsInHanded {} Try.checked os 6 .any (Rows.moneyWholeSpec.pre6 enc Try.prog Try.f6 Rows.moneyWholeRow.domain false) (Rows.moneyWholeSpec.post enc Try.prog Try.f6 false true false false) := by
  refine returnsInHanded_of_change (C := Try.checked) own started (by kernel_rfl) Try.func6
    (ChangeSpec.witness6 (enc := enc) (C := Try.checked) false ⟨#[], #[.int .i64 0, .int .i64 0, .int .i64 0], []⟩ 8 (by kernel_rfl) (by kernel_rfl) (by kernel_rfl) (by kernel_rfl)) ?_
  intro W base args ds gs before hval0 hW hcnd _
  have hval : ∀ (j : Nat) t v, Try.f6.params[j]? = some t → args[j]? = some v → Value.okWide Try.prog W .any base t v := hval0
  have hW' := hW
  obtain ⟨p, q, hA0, hV, rfl, hfz, hnd⟩ := hW
  have hA : DataW.TrodAll enc Try.prog W 0 (fun _ => true) true Try.f6.params.toList args.toList ds p := hA0
  rw [Try.params6] at hA hval
  obtain ⟨v0, vs0, d0, ds0, p0, q0, hargs, rfl, rfl, h0, r0⟩ := trodAll_cons hA
  obtain ⟨v1, vs1, d1, ds1, p1, q1, rfl, rfl, rfl, h1, r1⟩ := trodAll_cons r0
  obtain ⟨v2, vs2, d2, ds2, p2, q2, rfl, rfl, rfl, h2, r2⟩ := trodAll_cons r1
  obtain ⟨rfl, rfl, rfl⟩ := trodAll_nil r2
  obtain rfl : args = #[v0, v1, v2] := by cases args; simp_all
  obtain ⟨rfl, rfl⟩ := trodVars_none hV
  obtain ⟨a0, rfl, rfl, rfl, w0⟩ := open_int Try.underlying2 (hval 0 2 v0 rfl rfl) h0
  obtain ⟨a1, rfl, rfl, rfl, w1⟩ := open_int Try.underlying2 (hval 1 2 v1 rfl rfl) h1
  obtain ⟨a2, rfl, rfl, rfl, w2⟩ := open_int Try.underlying2 (hval 2 2 v2 rfl rfl) h2
  clear hA0 hval0
  simp only [List.append_nil] at hW'
  refine (walk a0 a1 a2 w0 w1 w2 W).mono fun e W' ⟨he, hg⟩ => ?_
  subst he
  exact ⟨_, rfl, post_of_same (pa := []) (pv := []) hW' (fun _ _ _ => (trodAll_cons_mk (shut_bool Try.underlying4 _) trodAll_mk0)) (fun sp _ => (trodAll_cons_mk (shut_int Try.underlying2 w0) (trodAll_cons_mk (shut_int Try.underlying2 w1) (trodAll_cons_mk (shut_int Try.underlying2 w2) trodAll_mk0)))) (fun _ _ => rfl) rfl
    (hg.frame _) hg.2.1 (ok_one (by kernel_rfl) rfl (okWide_bool_mk Try.underlying4 _))⟩

theorem over : Rows.moneyWholeRow.holds Try.pinned (OpenSpec.ofChange Rows.moneyWholeSpec) :=
  OpenClaim.holds_of_wide 6 Try.f6 rfl rfl rfl rfl rfl rfl rfl ⟨rfl, rfl, rfl, rfl, rfl⟩ rfl rfl rfl rfl rfl (by kernel_rfl) Try.func6 (by kernel_rfl)
    (of_decide_eq_true (by kernel_rfl)) (by unfold Func.isWrapper; first | (rw [if_pos (by decide +kernel)]; kernel_rfl) | (rw [if_neg (by decide +kernel)]; exact ⟨rfl, rfl⟩))
    (fun os started H enc _ => lifted os started H enc)

/-- ████ THE STATEMENT ████ -/
theorem proved : Rows.MoneyWholeSaid :=
  over
#print axioms proved
end Go.Proofs.Ytpkbbhdhoibbjaa.moneyWhole
