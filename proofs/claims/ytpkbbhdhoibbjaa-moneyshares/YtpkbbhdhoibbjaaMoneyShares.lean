/- Every call of the law that shares of parts that are all together lack less than one for each part answers true: for every three numbers. No conditions. -/
import Derived.Test.YtpkbbhdhoibbjaaRows
import Derived.Test.YtpkbbhdhoibbjaaMoneyAwake
import Derived.WalkKit
import Derived.ProofKit
import Derived.OpenShut
namespace Go.Proofs.Ytpkbbhdhoibbjaa.moneyShares
open Go.ChangeShapes Go.WideShapes Go.ChangeAt Go.RowKit
set_option linter.unusedVariables false

theorem own : ownKnob Try.prog.godebug = none := by kernel_rfl

theorem two_parts (t p a : Int) (h : Grp.shOk t p a = true) : Grp.shOk t (a - p) a = true ∧ 0 ≤ t * p / a ∧ t * p / a ≤ t ∧ 0 ≤ t * p % a ∧ t * p % a < a ∧ 0 ≤ t * (a - p) % a ∧ t * (a - p) % a < a ∧ 0 ≤ t * (a - p) / a ∧ t * (a - p) / a ≤ t ∧
    ((t * p / a + t * (a - p) / a = t ∧ t * p % a = 0 ∧ t * (a - p) % a = 0) ∨ (t * p / a + t * (a - p) / a = t - 1 ∧ t * p % a + t * (a - p) % a = a)) := by
  obtain ⟨t1, t2, a1, a2, p1, p2⟩ := (Grp.shOk_iff t p a).1 h
  have key : ∀ q : Int, 0 ≤ q → q ≤ a → 0 ≤ t * q / a ∧ t * q / a ≤ t ∧ 0 ≤ t * q % a ∧ t * q % a < a := by
    intro q q0 q1
    refine ⟨Int.ediv_nonneg (Int.mul_nonneg t1 q0) (by omega), ?_, Int.emod_nonneg _ (by omega), Int.emod_lt_of_pos _ (by omega)⟩
    have l : t * q ≤ t * a := Int.mul_le_mul_of_nonneg_left q1 t1
    exact Int.ediv_le_of_le_mul (by omega) l
  have k1 := key p p1 p2
  have k2 := key (a - p) (by omega) (by omega)
  have e1 := Int.mul_ediv_add_emod (t * p) a
  have e2 := Int.mul_ediv_add_emod (t * (a - p)) a
  have e3 : t * p + t * (a - p) = a * t := by rw [← Int.mul_add, Int.mul_comm a t]; congr 1; omega
  refine ⟨(Grp.shOk_iff _ _ _).2 (by omega), k1.1, k1.2.1, k1.2.2.1, k1.2.2.2, k2.2.2.1, k2.2.2.2, k2.1, k2.2.1, ?_⟩
  generalize t * p / a = n at *
  generalize t * (a - p) / a = m at *
  generalize t * p % a = r at *
  generalize t * (a - p) % a = q at *
  have e4 : a * (t - (n + m)) = r + q := by rw [Int.mul_sub, Int.mul_add]; omega
  have c0 : 0 ≤ t - (n + m) := by
    rcases Int.lt_or_le (t - (n + m)) 0 with hh | hh
    · have : a * (t - (n + m)) < 0 := Int.mul_neg_of_pos_of_neg (by omega) hh
      omega
    · exact hh
  have c1 : t - (n + m) < 2 := by
    rcases Int.lt_or_le (t - (n + m)) 2 with hh | hh
    · exact hh
    · have : a * 2 ≤ a * (t - (n + m)) := Int.mul_le_mul_of_nonneg_left hh (by omega)
      omega
  rcases (show t - (n + m) = 0 ∨ t - (n + m) = 1 by omega) with hh | hh
  · left; rw [hh] at e4; omega
  · right; rw [hh] at e4; omega

set_option maxHeartbeats 1000000 in
theorem walk (a0 : Int) (a1 : Int) (a2 : Int) (w0 : (Lit.int .i64 a0).wf = true) (w1 : (Lit.int .i64 a1).wf = true) (w2 : (Lit.int .i64 a2).wf = true) (w : World) :
    Calls Try.prog 5 #[.int .i64 a0, .int .i64 a1, .int .i64 a2] w fun e w' => e = .returned (.bool true) ∧ Grown w w' := by
  cases h : Grp.shOk a0 a1 a2
  · have e : Grp.shareS a0 a1 a2 = (0, 0, 1) := by unfold Grp.shareS; rw [h]; rfl
    clear h
    go_enter Try.func5, Try.ntmps5
    go_wp2_with (first
      | (go_at_call 7; refine (awake_any _).mono ?_; rintro e w' ⟨rfl, hg⟩)
      | (go_at_call 14; refine (share_any _ _ _ _).mono ?_; rintro e w' ⟨rfl, rfl⟩))
    go_ret
    exact ⟨rfl, hg⟩
  · have e : Grp.shareS a0 a1 a2 = (a0 * a1 / a2, a0 * a1 % a2, 0) := by unfold Grp.shareS; rw [h]; rfl
    obtain ⟨x1, x2, x3, x4, x5, x6, x7, x8, x9, x10⟩ := two_parts a0 a1 a2 h
    have e' : Grp.shareS a0 (a2 - a1) a2 = (a0 * (a2 - a1) / a2, a0 * (a2 - a1) % a2, 0) := by unfold Grp.shareS; rw [x1]; rfl
    obtain ⟨t1, t2, b1, b2, p1, p2⟩ := (Grp.shOk_iff a0 a1 a2).1 h
    generalize a0 * a1 / a2 = n at *
    generalize a0 * (a2 - a1) / a2 = m at *
    generalize a0 * a1 % a2 = r at *
    generalize a0 * (a2 - a1) % a2 = q at *
    clear h x1
    rcases x10 with ⟨y1, rfl, rfl⟩ | ⟨y1, y2⟩
    · have z1 : (n + m == a0) = true := by simp [y1]
      have Y1 := Lib.hid y1
      clear y1
      go_enter Try.func5, Try.ntmps5
      go_wp2_with (first
        | (go_at_call 7; refine (awake_any _).mono ?_; rintro e w' ⟨rfl, hg⟩)
        | (go_at_call 14; refine (share_any _ _ _ _).mono ?_; rintro e w' ⟨rfl, rfl⟩))
      go_ret
      exact ⟨rfl, hg⟩
    · have z1 : (n + m == a0) = false := by simp; omega
      have z2 : (n + m == a0 - 1) = true := by simp [y1]
      have z3 : (r + q == a2) = true := by simp [y2]
      have Y1 := Lib.hid y1
      have Y2 := Lib.hid y2
      clear y1 y2
      go_enter Try.func5, Try.ntmps5
      go_wp2_with (first
        | (go_at_call 7; refine (awake_any _).mono ?_; rintro e w' ⟨rfl, hg⟩)
        | (go_at_call 14; refine (share_any _ _ _ _).mono ?_; rintro e w' ⟨rfl, rfl⟩))
      go_ret
      exact ⟨rfl, hg⟩

set_option maxRecDepth 100000 in
theorem lifted (os : Os) (started : os.Started) (H : Type) (enc : TypeId × Value → H) :
    ReturnsInHanded {} Try.checked os 5 .any (Rows.moneySharesSpec.pre6 enc Try.prog Try.f5 Rows.moneySharesRow.domain false) (Rows.moneySharesSpec.post enc Try.prog Try.f5 false true false false) := by
  refine returnsInHanded_of_change (C := Try.checked) own started (by kernel_rfl) Try.func5
    (ChangeSpec.witness6 (enc := enc) (C := Try.checked) false ⟨#[], #[.int .i64 0, .int .i64 0, .int .i64 0], []⟩ 8 (by kernel_rfl) (by kernel_rfl) (by kernel_rfl) (by kernel_rfl)) ?_
  intro W base args ds gs before hval0 hW hcnd _
  have hval : ∀ (j : Nat) t v, Try.f5.params[j]? = some t → args[j]? = some v → Value.okWide Try.prog W .any base t v := hval0
  have hW' := hW
  obtain ⟨p, q, hA0, hV, rfl, hfz, hnd⟩ := hW
  have hA : DataW.TrodAll enc Try.prog W 0 (fun _ => true) true Try.f5.params.toList args.toList ds p := hA0
  rw [Try.params5] at hA hval
  obtain ⟨v0, vs0, d0, ds0, p0, q0, hargs, rfl, rfl, h0, r0⟩ := trodAll_cons hA
  obtain ⟨v1, vs1, d1, ds1, p1, q1, rfl, rfl, rfl, h1, r1⟩ := trodAll_cons r0
  obtain ⟨v2, vs2, d2, ds2, p2, q2, rfl, rfl, rfl, h2, r2⟩ := trodAll_cons r1
  obtain ⟨rfl, rfl, rfl⟩ := trodAll_nil r2
  obtain rfl : args = #[v0, v1, v2] := by cases args; simp_all
  obtain ⟨rfl, rfl⟩ := trodVars_none hV
  obtain ⟨a0, rfl, rfl, rfl, w0⟩ := open_int Try.underlying2 (hval 0 2 v0 rfl rfl) h0
  obtain ⟨a1, rfl, rfl, rfl, w1⟩ := open_int Try.underlying2 (hval 1 2 v1 rfl rfl) h1
  obtain ⟨a2, rfl, rfl, rfl, w2⟩ := open_int Try.underlying2 (hval 2 2 v2 rfl rfl) h2
  clear hA0 hval0
  simp only [List.append_nil] at hW'
  refine (walk a0 a1 a2 w0 w1 w2 W).mono fun e W' ⟨he, hg⟩ => ?_
  subst he
  exact ⟨_, rfl, post_of_same (pa := []) (pv := []) hW' (fun _ _ _ => (trodAll_cons_mk (shut_bool Try.underlying4 _) trodAll_mk0)) (fun sp _ => (trodAll_cons_mk (shut_int Try.underlying2 w0) (trodAll_cons_mk (shut_int Try.underlying2 w1) (trodAll_cons_mk (shut_int Try.underlying2 w2) trodAll_mk0)))) (fun _ _ => rfl) rfl
    (hg.frame _) hg.2.1 (ok_one (by kernel_rfl) rfl (okWide_bool_mk Try.underlying4 _))⟩

theorem over : Rows.moneySharesRow.holds Try.pinned (OpenSpec.ofChange Rows.moneySharesSpec) :=
  OpenClaim.holds_of_wide 5 Try.f5 rfl rfl rfl rfl rfl rfl rfl ⟨rfl, rfl, rfl, rfl, rfl⟩ rfl rfl rfl rfl rfl (by kernel_rfl) Try.func5 (by kernel_rfl)
    (of_decide_eq_true (by kernel_rfl)) (by unfold Func.isWrapper; first | (rw [if_pos (by decide +kernel)]; kernel_rfl) | (rw [if_neg (by decide +kernel)]; exact ⟨rfl, rfl⟩))
    (fun os started H enc _ => lifted os started H enc)

/-- ████ THE STATEMENT ████ -/
theorem proved : Rows.MoneySharesSaid :=
  over
#print axioms proved
end Go.Proofs.Ytpkbbhdhoibbjaa.moneyShares
