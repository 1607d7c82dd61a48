/- The law's own wake-up call over package money returns true. -/
import Derived.Test.YtpkbbhdhoibbjaaMoneyShare
namespace Go.Proofs.Ytpkbbhdhoibbjaa
open Go.RowKit

theorem add_lit1 : Grp.addS 3 (-5) = (-2, 0) := by decide +kernel
theorem add_lit2 : Grp.addS 4611686018427387903 1 = (0, 4) := by decide +kernel
theorem mul_lit1 : Grp.mulS (-3) 5 = (-15, 0) := by decide +kernel
theorem mul_lit2 : Grp.mulS 2147483648 2147483648 = (0, 4) := by decide +kernel
theorem share_lit1 : Grp.shareS 10 1 3 = (3, 1, 0) := by decide +kernel
theorem share_lit2 : Grp.shareS 1 2 1 = (0, 0, 1) := by decide +kernel
theorem sum_lit : Grp.sumS [1, 2, 3] = (6, 0) := by decide +kernel

theorem lit_ints (w : World) (t : TypeId) : IntsAt (w.alloc (.cells #[.int .i64 1, .int .i64 2, .int .i64 3] t)) .i64 (some ⟨w.heap.size, 0, none⟩) [1, 2, 3] := by
  intro k z hz
  refine ⟨_, rfl, ?_⟩
  match k, hz with
  | 0, hz => simp at hz; subst hz; simp [Addr.add]
  | 1, hz => simp at hz; subst hz; simp [Addr.add]
  | 2, hz => simp at hz; subst hz; simp [Addr.add]
  | k + 3, hz => simp at hz

set_option maxHeartbeats 400000 in
theorem awake_both (w : World) : Calls Try.prog 7 #[] w fun e w' => e = .returned (.bool true) ∧ Grown w w' ∧ Below w.heap.size w w' := by
  have a1 := add_lit1
  have a2 := add_lit2
  have m1 := mul_lit1
  have m2 := mul_lit2
  have s1 := share_lit1
  have s2 := share_lit2
  have s3 := sum_lit
  go_enter Try.func7, Try.ntmps7
  go_wp2_with (first
    | (go_at_call 8; refine (add_any _ _ _).mono ?_; rintro e w' ⟨rfl, rfl⟩)
    | (go_at_call 10; refine (mul_any _ _ _).mono ?_; rintro e w' ⟨rfl, rfl⟩)
    | (go_at_call 14; refine (share_any _ _ _ _).mono ?_; rintro e w' ⟨rfl, rfl⟩)
    | (go_at_call 12; refine (sum_any _ _ [1, 2, 3] _ (by decide) (lit_ints _ _)).mono ?_; rintro e w' ⟨rfl, rfl⟩))
  go_ret
  exact ⟨rfl, by repeat (first | exact Grown.refl _ | apply Grown.drew | apply Grown.alloc), (Below.refl _ _).alloc (Nat.le_refl _) _⟩

theorem awake_any (w : World) : Calls Try.prog 7 #[] w fun e w' => e = .returned (.bool true) ∧ Grown w w' :=
  (awake_both w).mono fun _ _ ⟨h, g, _⟩ => ⟨h, g⟩

theorem awake_below (w : World) : Calls Try.prog 7 #[] w fun e w' => e = .returned (.bool true) ∧ Below w.heap.size w w' :=
  (awake_both w).mono fun _ _ ⟨h, _, b⟩ => ⟨h, b⟩

end Go.Proofs.Ytpkbbhdhoibbjaa
