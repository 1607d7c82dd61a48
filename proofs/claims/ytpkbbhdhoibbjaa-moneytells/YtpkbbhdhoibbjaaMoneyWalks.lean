/- Contracts of package money: what each function answers, for every argument. -/
import Derived.Test.YtpkbbhdhoibbjaaProg
import Derived.Test.YtpkbbhdhoibbjaaMoneyMath
import Derived.WalkKit
import Derived.WalkSpells
import Derived.WalkLawsBesides
namespace Go.Proofs.Ytpkbbhdhoibbjaa
open Go.RowKit

set_option maxHeartbeats 400000 in
theorem mayBe_any (n : Int) (w : World) :
    Calls Try.prog 16 #[.int .i64 n] w fun e w' => e = .returned (.bool (Grp.mayB n)) ∧ w = w' := by
  by_cases h1 : -4611686018427387903 ≤ n
  · by_cases h2 : n ≤ 4611686018427387903
    · have e : Grp.mayB n = true := (Grp.mayB_iff n).2 ⟨h1, h2⟩
      rw [e]
      go_enter Try.func16, Try.ntmps16
      go_wp2
      go_ret
      exact ⟨rfl, rfl⟩
    · have e : Grp.mayB n = false := (Grp.mayB_no n).2 (by omega)
      rw [e]
      go_enter Try.func16, Try.ntmps16
      go_wp2
      go_ret
      exact ⟨rfl, rfl⟩
  · have e : Grp.mayB n = false := (Grp.mayB_no n).2 (by omega)
    rw [e]
    go_enter Try.func16, Try.ntmps16
    go_wp2
    go_ret
    exact ⟨rfl, rfl⟩

set_option maxHeartbeats 400000 in
theorem checked_any (n : Int) (w : World) :
    Calls Try.prog 17 #[.int .i64 n] w fun e w' => e = .returned (.tuple #[.int .i64 (if Grp.mayB n = true then n else 0), .int .i64 (if Grp.mayB n = true then 0 else 4)]) ∧ w = w' := by
  cases h : Grp.mayB n
  all_goals
    go_enter Try.func17, Try.ntmps17
    go_wp2_with (go_at_call 16; refine (mayBe_any _ _).mono ?_; rintro e w' ⟨rfl, rfl⟩)
    go_ret2
    exact ⟨rfl, rfl⟩

set_option maxHeartbeats 400000 in
theorem size_any (n : Int) (w : World) (h1 : -4611686018427387903 ≤ n) :
    Calls Try.prog 19 #[.int .i64 n] w fun e w' => e = .returned (.int .i64 (Grp.sizeI n)) ∧ w = w' := by
  by_cases h : n < 0
  · have e : Grp.sizeI n = -n := by unfold Grp.sizeI; rw [if_pos h]
    rw [e]
    go_enter Try.func19, Try.ntmps19
    go_wp2
    go_ret
    exact ⟨rfl, rfl⟩
  · have e : Grp.sizeI n = n := by unfold Grp.sizeI; rw [if_neg h]
    rw [e]
    clear e
    go_enter Try.func19, Try.ntmps19
    go_wp2
    go_ret
    exact ⟨rfl, rfl⟩

set_option maxHeartbeats 400000 in
theorem takeOut_any (n a : Int) (w : World) (h0 : 0 ≤ n) (h1 : 0 ≤ a) (h2 : n ≤ 9223372036854775807) :
    Calls Try.prog 20 #[.int .i64 n, .int .i64 a] w fun e w' => e = .returned (.tuple #[.int .i64 (if n < a then 0 else 1), .int .i64 (if n < a then n else n - a)]) ∧ w = w' := by
  by_cases h : n < a
  · simp only [if_pos h]
    go_enter Try.func20, Try.ntmps20
    go_wp2
    go_ret2
    exact ⟨rfl, rfl⟩
  · simp only [if_neg h]
    go_enter Try.func20, Try.ntmps20
    go_wp2
    go_ret2
    exact ⟨rfl, rfl⟩

set_option maxHeartbeats 400000 in
theorem add_any (a b : Int) (w : World) :
    Calls Try.prog 8 #[.int .i64 a, .int .i64 b] w fun e w' => e = .returned (.tuple #[.int .i64 (Grp.addS a b).1, .int .i64 (Grp.addS a b).2]) ∧ w = w' := by
  cases ha : Grp.mayB a
  · have e : Grp.addS a b = (0, 1) := by unfold Grp.addS; simp [ha]
    rw [e]
    clear e
    go_enter Try.func8, Try.ntmps8
    go_wp2_with (go_at_call 16; refine (mayBe_any _ _).mono ?_; rintro e w' ⟨rfl, rfl⟩)
    go_ret2
    exact ⟨rfl, rfl⟩
  · cases hb : Grp.mayB b
    · have e : Grp.addS a b = (0, 1) := by unfold Grp.addS; simp [hb]
      rw [e]
      clear e
      go_enter Try.func8, Try.ntmps8
      go_wp2_with (go_at_call 16; refine (mayBe_any _ _).mono ?_; rintro e w' ⟨rfl, rfl⟩)
      go_ret2
      exact ⟨rfl, rfl⟩
    · have e : Grp.addS a b = (if Grp.mayB (a + b) = true then a + b else 0, if Grp.mayB (a + b) = true then 0 else 4) := by
        unfold Grp.addS; simp only [ha, hb, and_self, if_true]; split <;> rfl
      rw [e]
      clear e
      have ha' := (Grp.mayB_iff a).1 ha
      have hb' := (Grp.mayB_iff b).1 hb
      obtain ⟨a1, a2⟩ := ha'
      obtain ⟨b1, b2⟩ := hb'
      go_enter Try.func8, Try.ntmps8
      go_wp2_with (first | (go_at_call 16; refine (mayBe_any _ _).mono ?_; rintro e w' ⟨rfl, rfl⟩) | (go_at_call 17; refine (checked_any _ _).mono ?_; rintro e w' ⟨rfl, rfl⟩))
      all_goals
        go_ret2
        exact ⟨rfl, rfl⟩

set_option maxHeartbeats 400000 in
theorem mul_any (a b : Int) (w : World) :
    Calls Try.prog 10 #[.int .i64 a, .int .i64 b] w fun e w' => e = .returned (.tuple #[.int .i64 (Grp.mulS a b).1, .int .i64 (Grp.mulS a b).2]) ∧ w = w' := by
  cases ha : Grp.mayB a
  · have e : Grp.mulS a b = (0, 1) := by unfold Grp.mulS; simp [ha]
    rw [e]
    clear e
    go_enter Try.func10, Try.ntmps10
    go_wp2_with (go_at_call 16; refine (mayBe_any _ _).mono ?_; rintro e w' ⟨rfl, rfl⟩)
    go_ret2
    exact ⟨rfl, rfl⟩
  · cases hb : Grp.mayB b
    · have e : Grp.mulS a b = (0, 1) := by unfold Grp.mulS; simp [hb]
      rw [e]
      clear e
      go_enter Try.func10, Try.ntmps10
      go_wp2_with (go_at_call 16; refine (mayBe_any _ _).mono ?_; rintro e w' ⟨rfl, rfl⟩)
      go_ret2
      exact ⟨rfl, rfl⟩
    · have ha' := (Grp.mayB_iff a).1 ha
      have hb' := (Grp.mayB_iff b).1 hb
      obtain ⟨a1, a2⟩ := ha'
      obtain ⟨b1, b2⟩ := hb'
      by_cases hz : b = 0
      · subst hz
        have e : Grp.mulS a 0 = (0, 0) := by unfold Grp.mulS; simp [ha, hb]
        rw [e]
        clear e
        go_enter Try.func10, Try.ntmps10
        go_wp2_with (first | (go_at_call 16; refine (mayBe_any _ _).mono ?_; rintro e w' ⟨rfl, rfl⟩) | (go_at_call 19; refine (size_any _ _ (by omega)).mono ?_; rintro e w' ⟨rfl, rfl⟩))
        go_ret2
        exact ⟨by simp, rfl⟩
      · have hn : (b != 0) = true := by simp [hz]
        have hlook := Grp.mul_look a b hz
        have hsb : 1 ≤ Grp.sizeI b ∧ Grp.sizeI b ≤ 4611686018427387903 := by rw [Grp.sizeI_nat]; omega
        obtain ⟨s1, s2⟩ := hsb
        have hsa : 0 ≤ Grp.sizeI a ∧ Grp.sizeI a ≤ 4611686018427387903 := by rw [Grp.sizeI_nat]; omega
        obtain ⟨s3, s4⟩ := hsa
        cases hm : Grp.mayB (a * b)
        · have e : Grp.mulS a b = (0, 4) := by unfold Grp.mulS; simp [ha, hb, hm]
          rw [e]
          have hl := hlook.2 hm
          clear e hlook hm
          go_enter Try.func10, Try.ntmps10
          go_wp2_with (first | (go_at_call 16; refine (mayBe_any _ _).mono ?_; rintro e w' ⟨rfl, rfl⟩) | (go_at_call 19; refine (size_any _ _ (by omega)).mono ?_; rintro e w' ⟨rfl, rfl⟩))
          go_ret2
          exact ⟨rfl, rfl⟩
        · have e : Grp.mulS a b = (a * b, 0) := by unfold Grp.mulS; simp [ha, hb, hm]
          rw [e]
          have hl : ¬ (4611686018427387903 / Grp.sizeI b < Grp.sizeI a) := by rw [hlook, hm]; simp
          have hm' := (Grp.mayB_iff _).1 hm
          obtain ⟨m1, m2⟩ := hm'
          clear e hlook hm
          go_enter Try.func10, Try.ntmps10
          go_wp2_with (first | (go_at_call 16; refine (mayBe_any _ _).mono ?_; rintro e w' ⟨rfl, rfl⟩) | (go_at_call 19; refine (size_any _ _ (by omega)).mono ?_; rintro e w' ⟨rfl, rfl⟩))
          go_ret2
          exact ⟨rfl, rfl⟩

end Go.Proofs.Ytpkbbhdhoibbjaa
