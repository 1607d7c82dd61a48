/- Every call of the law on sums and products that go either way, and back, answers true: for every two numbers. No conditions. -/
import Derived.Test.YtpkbbhdhoibbjaaRows
import Derived.Test.YtpkbbhdhoibbjaaMoneyAwake
import Derived.WalkKit
import Derived.ProofKit
import Derived.OpenShut
namespace Go.Proofs.Ytpkbbhdhoibbjaa.moneyBack
open Go.ChangeShapes Go.WideShapes Go.ChangeAt Go.RowKit
set_option linter.unusedVariables false

theorem own : ownKnob Try.prog.godebug = none := by kernel_rfl

theorem tdiv_back (a b : Int) (hb : b ≠ 0) : (a * b).tdiv b = a ∧ (a * b).tmod b = 0 := by
  exact ⟨Int.mul_tdiv_cancel a hb, Int.mul_tmod_left a b⟩

set_option maxHeartbeats 1000000 in
theorem walk (a0 : Int) (a1 : Int) (w0 : (Lit.int .i64 a0).wf = true) (w1 : (Lit.int .i64 a1).wf = true) (w : World) :
    Calls Try.prog 4 #[.int .i64 a0, .int .i64 a1] w fun e w' => e = .returned (.bool true) ∧ Grown w w' := by
  have hac := Grp.addS_comm a1 a0
  have hmc := Grp.mulS_comm a1 a0
  have hok := Grp.addS_ok a0 a1
  have hback := Grp.addS_back a0 a1
  have hmok := Grp.mulS_ok a0 a1
  generalize hS : Grp.addS a0 a1 = S at *
  generalize hU : Grp.mulS a0 a1 = U at *
  obtain ⟨s, e⟩ := S
  obtain ⟨u, g⟩ := U
  simp only at hok hback hmok
  by_cases he : e = 0
  · subst he
    obtain ⟨ma, mb, ms, rfl⟩ := hok rfl
    have hb := hback rfl
    have mb' := (Grp.mayB_iff _).1 mb
    obtain ⟨b1, b2⟩ := mb'
    clear hok hback ma mb ms
    by_cases hg : g = 0
    · subst hg
      obtain ⟨ma, mb, mm, rfl⟩ := hmok rfl
      by_cases hz : a1 = 0
      · have hz' : (a1 == 0) = true := by simp [hz]
        have HZ := Lib.hid hz
        clear hmok ma mb mm hz
        go_enter Try.func4, Try.ntmps4
        go_wp2_with (first
          | (go_at_call 7; refine (awake_any _).mono ?_; rintro e w' ⟨rfl, hg⟩)
          | (go_at_call 8; refine (add_any _ _ _).mono ?_; rintro e w' ⟨rfl, rfl⟩)
          | (go_at_call 10; refine (mul_any _ _ _).mono ?_; rintro e w' ⟨rfl, rfl⟩))
        go_ret
        exact ⟨rfl, hg⟩
      · have hz' : (a1 == 0) = false := by simp [hz]
        obtain ⟨d1, d2⟩ := tdiv_back a0 a1 hz
        have m' := (Grp.mayB_iff _).1 mm
        obtain ⟨m1, m2⟩ := m'
        have a' := (Grp.mayB_iff _).1 ma
        obtain ⟨c1, c2⟩ := a'
        clear hmok ma mb mm
        go_enter Try.func4, Try.ntmps4
        go_wp2_with (first
          | (go_at_call 7; refine (awake_any _).mono ?_; rintro e w' ⟨rfl, hg⟩)
          | (go_at_call 8; refine (add_any _ _ _).mono ?_; rintro e w' ⟨rfl, rfl⟩)
          | (go_at_call 10; refine (mul_any _ _ _).mono ?_; rintro e w' ⟨rfl, rfl⟩))
        go_ret
        exact ⟨rfl, hg⟩
    · have hg' : (g != 0) = true := by simp [hg]
      clear hmok hg
      go_enter Try.func4, Try.ntmps4
      go_wp2_with (first
        | (go_at_call 7; refine (awake_any _).mono ?_; rintro e w' ⟨rfl, hg⟩)
        | (go_at_call 8; refine (add_any _ _ _).mono ?_; rintro e w' ⟨rfl, rfl⟩)
        | (go_at_call 10; refine (mul_any _ _ _).mono ?_; rintro e w' ⟨rfl, rfl⟩))
      go_ret
      exact ⟨rfl, hg⟩
  · have he' : (e == 0) = false := by simp [he]
    clear hok hback he
    by_cases hg : g = 0
    · subst hg
      obtain ⟨ma, mb, mm, rfl⟩ := hmok rfl
      by_cases hz : a1 = 0
      · have hz' : (a1 == 0) = true := by simp [hz]
        have HZ := Lib.hid hz
        clear hmok ma mb mm hz
        go_enter Try.func4, Try.ntmps4
        go_wp2_with (first
          | (go_at_call 7; refine (awake_any _).mono ?_; rintro e w' ⟨rfl, hg⟩)
          | (go_at_call 8; refine (add_any _ _ _).mono ?_; rintro e w' ⟨rfl, rfl⟩)
          | (go_at_call 10; refine (mul_any _ _ _).mono ?_; rintro e w' ⟨rfl, rfl⟩))
        go_ret
        exact ⟨rfl, hg⟩
      · have hz' : (a1 == 0) = false := by simp [hz]
        obtain ⟨d1, d2⟩ := tdiv_back a0 a1 hz
        have m' := (Grp.mayB_iff _).1 mm
        obtain ⟨m1, m2⟩ := m'
        have a' := (Grp.mayB_iff _).1 ma
        obtain ⟨c1, c2⟩ := a'
        clear hmok ma mb mm
        go_enter Try.func4, Try.ntmps4
        go_wp2_with (first
          | (go_at_call 7; refine (awake_any _).mono ?_; rintro e w' ⟨rfl, hg⟩)
          | (go_at_call 8; refine (add_any _ _ _).mono ?_; rintro e w' ⟨rfl, rfl⟩)
          | (go_at_call 10; refine (mul_any _ _ _).mono ?_; rintro e w' ⟨rfl, rfl⟩))
        go_ret
        exact ⟨rfl, hg⟩
    · have hg' : (g != 0) = true := by simp [hg]
      clear hmok hg
      go_enter Try.func4, Try.ntmps4
      go_wp2_with (first
        | (go_at_call 7; refine (awake_any _).mono ?_; rintro e w' ⟨rfl, hg⟩)
        | (go_at_call 8; refine (add_any _ _ _).mono ?_; rintro e w' ⟨rfl, rfl⟩)
        | (go_at_call 10; refine (mul_any _ _ _).mono ?_; rintro e w' ⟨rfl, rfl⟩))
      go_ret
      exact ⟨rfl, hg⟩

set_option maxRecDepth 100000 in
theorem lifted (os : Os) (started : os.Started) (H : Type) (enc : TypeId × Value → H) :
    ReturnsInHanded {} Try.checked os 4 .any (Rows.moneyBackSpec.pre6 enc Try.prog Try.f4 Rows.moneyBackRow.domain false) (Rows.moneyBackSpec.post enc Try.prog Try.f4 false true false false) := by
  refine returnsInHanded_of_change (C := Try.checked) own started (by kernel_rfl) Try.func4
    (ChangeSpec.witness6 (enc := enc) (C := Try.checked) false ⟨#[], #[.int .i64 0, .int .i64 0], []⟩ 8 (by kernel_rfl) (by kernel_rfl) (by kernel_rfl) (by kernel_rfl)) ?_
  intro W base args ds gs before hval0 hW hcnd _
  have hval : ∀ (j : Nat) t v, Try.f4.params[j]? = some t → args[j]? = some v → Value.okWide Try.prog W .any base t v := hval0
  have hW' := hW
  obtain ⟨p, q, hA0, hV, rfl, hfz, hnd⟩ := hW
  have hA : DataW.TrodAll enc Try.prog W 0 (fun _ => true) true Try.f4.params.toList args.toList ds p := hA0
  rw [Try.params4] at hA hval
  obtain ⟨v0, vs0, d0, ds0, p0, q0, hargs, rfl, rfl, h0, r0⟩ := trodAll_cons hA
  obtain ⟨v1, vs1, d1, ds1, p1, q1, rfl, rfl, rfl, h1, r1⟩ := trodAll_cons r0
  obtain ⟨rfl, rfl, rfl⟩ := trodAll_nil r1
  obtain rfl : args = #[v0, v1] := by cases args; simp_all
  obtain ⟨rfl, rfl⟩ := trodVars_none hV
  obtain ⟨a0, rfl, rfl, rfl, w0⟩ := open_int Try.underlying2 (hval 0 2 v0 rfl rfl) h0
  obtain ⟨a1, rfl, rfl, rfl, w1⟩ := open_int Try.underlying2 (hval 1 2 v1 rfl rfl) h1
  clear hA0 hval0
  simp only [List.append_nil] at hW'
  refine (walk a0 a1 w0 w1 W).mono fun e W' ⟨he, hg⟩ => ?_
  subst he
  exact ⟨_, rfl, post_of_same (pa := []) (pv := []) hW' (fun _ _ _ => (trodAll_cons_mk (shut_bool Try.underlying4 _) trodAll_mk0)) (fun sp _ => (trodAll_cons_mk (shut_int Try.underlying2 w0) (trodAll_cons_mk (shut_int Try.underlying2 w1) trodAll_mk0))) (fun _ _ => rfl) rfl
    (hg.frame _) hg.2.1 (ok_one (by kernel_rfl) rfl (okWide_bool_mk Try.underlying4 _))⟩

theorem over : Rows.moneyBackRow.holds Try.pinned (OpenSpec.ofChange Rows.moneyBackSpec) :=
  OpenClaim.holds_of_wide 4 Try.f4 rfl rfl rfl rfl rfl rfl rfl ⟨rfl, rfl, rfl, rfl, rfl⟩ rfl rfl rfl rfl rfl (by kernel_rfl) Try.func4 (by kernel_rfl)
    (of_decide_eq_true (by kernel_rfl)) (by unfold Func.isWrapper; first | (rw [if_pos (by decide +kernel)]; kernel_rfl) | (rw [if_neg (by decide +kernel)]; exact ⟨rfl, rfl⟩))
    (fun os started H enc _ => lifted os started H enc)

/-- ████ THE STATEMENT ████ -/
theorem proved : Rows.MoneyBackSaid :=
  over
#print axioms proved
end Go.Proofs.Ytpkbbhdhoibbjaa.moneyBack
