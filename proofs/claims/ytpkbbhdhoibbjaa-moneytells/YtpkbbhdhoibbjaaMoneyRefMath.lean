/- Plain arithmetic behind the document's own answers for package money: a product digit by digit, and shares by halves. -/
import Derived.Test.YtpkbbhdhoibbjaaMoneyMath
set_option linter.unusedVariables false
namespace Grp

/-- The loop of a product: 'n' so far, 'x' (no more than most + 1, standing for 'xt'), 'y' still to take. -/
def MulRel (p n x y : Int) : Prop := 0 ≤ n ∧ n ≤ 4611686018427387903 ∧ 0 ≤ x ∧ x ≤ 4611686018427387904 ∧ 0 ≤ y ∧ y ≤ 4611686018427387903 ∧
  (y = 0 → n = p) ∧ (0 < y → ∃ xt, n + xt * y = p ∧ 0 ≤ xt ∧ ((x = xt) ∨ (x = 4611686018427387904 ∧ 4611686018427387904 ≤ xt)))

theorem mulRel_start (x y : Int) (h0 : 0 ≤ x) (h1 : x ≤ 4611686018427387903) (h2 : 0 ≤ y) (h3 : y ≤ 4611686018427387903) : MulRel (x * y) 0 x y :=
  ⟨by omega, by omega, h0, by omega, h2, h3, fun h => by rw [h]; simp, fun _ => ⟨x, by simp, h0, .inl rfl⟩⟩

theorem mul_one_le (xt y : Int) (h : 0 ≤ xt) (hy : 1 ≤ y) : xt ≤ xt * y := by
  have := Int.mul_le_mul_of_nonneg_left hy h
  simpa using this

theorem mulRel_full (p n x y : Int) (h : MulRel p n x y) (hy : 0 < y) (hf : 4611686018427387903 < x ∨ 4611686018427387903 - x < n) : 4611686018427387903 < p := by
  obtain ⟨n0, n1, x0, x1, y0, y1, _, hx⟩ := h
  obtain ⟨xt, e, t0, hc⟩ := hx hy
  have := mul_one_le xt y t0 (by omega)
  omega

/-- the next x -/
def nextX (x y : Int) : Int := if 0 < y / 2 then (if 4611686018427387903 < x then 4611686018427387904 else if 4611686018427387904 < 2 * x then 4611686018427387904 else 2 * x) else (if 4611686018427387903 < x then 4611686018427387903 else x)

theorem mulRel_next (p n x y n' : Int) (h : MulRel p n x y) (hy : 0 < y) (hn : (y % 2 = 0 ∧ n' = n) ∨ (y % 2 = 1 ∧ n' = n + x ∧ x ≤ 4611686018427387903 ∧ n ≤ 4611686018427387903 - x)) :
    MulRel p n' (nextX x y) (y / 2) := by
  obtain ⟨n0, n1, x0, x1, y0, y1, _, hx⟩ := h
  obtain ⟨xt, e, t0, hc⟩ := hx hy
  clear hx
  have hy2 : y = 2 * (y / 2) + y % 2 := by omega
  have ex : xt * y = 2 * xt * (y / 2) + xt * (y % 2) := by
    conv => lhs; rw [hy2, Int.mul_add, ← Int.mul_assoc, Int.mul_comm xt 2]
  have e' : n' + 2 * xt * (y / 2) = p := by
    rcases hn with ⟨hm, rfl⟩ | ⟨hm, rfl, h1, h2⟩
    · rw [hm] at ex; simp at ex; omega
    · rw [hm] at ex; simp at ex; omega
  refine ⟨by omega, by omega, ?_, ?_, by omega, by omega, ?_, ?_⟩
  · unfold nextX; split <;> (repeat' split) <;> omega
  · unfold nextX; split <;> (repeat' split) <;> omega
  · intro h0; rw [h0] at e'; simpa using e'
  · intro h0
    refine ⟨2 * xt, e', by omega, ?_⟩
    unfold nextX; rw [if_pos h0]
    (repeat' split) <;> omega

theorem mulRel_next' (p n x y n' x' y' : Int) (h : MulRel p n x y) (hy : 0 < y) (hn : (y % 2 = 0 ∧ n' = n) ∨ (y % 2 = 1 ∧ n' = n + x ∧ x ≤ 4611686018427387903 ∧ n ≤ 4611686018427387903 - x))
    (hx : x' = nextX x y) (hy' : y' = y / 2) : MulRel p n' x' y' := by
  subst hx hy'; exact mulRel_next p n x y n' h hy hn

/-- Share by halves: what one step makes of the half's share. -/
theorem half_share (t p a : Int) (ha : 1 ≤ a) (hp : 0 ≤ p) (hpa : p ≤ a) (ht : 0 ≤ t) :
    (t % 2 = 1 → 2 * (t / 2 * p / a) + (p + 2 * (t / 2 * p % a) % a) / a + 2 * (t / 2 * p % a) / a = t * p / a ∧ (p + 2 * (t / 2 * p % a) % a) % a = t * p % a) ∧
    (t % 2 = 0 → 2 * (t / 2 * p / a) + 2 * (t / 2 * p % a) / a = t * p / a ∧ 2 * (t / 2 * p % a) % a = t * p % a) := by
  have e1 := Int.mul_ediv_add_emod (t / 2 * p) a
  have r0 : 0 ≤ t / 2 * p % a := Int.emod_nonneg _ (by omega)
  have r1 : t / 2 * p % a < a := Int.emod_lt_of_pos _ (by omega)
  generalize t / 2 * p / a = n at *
  generalize t / 2 * p % a = r at *
  have e2 := Int.mul_ediv_add_emod (2 * r) a
  have s0 : 0 ≤ 2 * r % a := Int.emod_nonneg _ (by omega)
  have s1 : 2 * r % a < a := Int.emod_lt_of_pos _ (by omega)
  generalize 2 * r / a = m at *
  generalize 2 * r % a = s at *
  have key : ∀ n' r' : Int, 0 ≤ r' → r' < a → a * n' + r' = t * p → n' = t * p / a ∧ r' = t * p % a := fun n' r' h0 h1 h2 =>
    share_eq t p a n' r' ha h0 h1 (by rw [Int.mul_comm]; exact h2)
  constructor
  · intro h
    have e3 := Int.mul_ediv_add_emod (p + s) a
    have q0 : 0 ≤ (p + s) % a := Int.emod_nonneg _ (by omega)
    have q1 : (p + s) % a < a := Int.emod_lt_of_pos _ (by omega)
    generalize (p + s) / a = k at *
    generalize (p + s) % a = q at *
    have et : t * p = 2 * (t / 2 * p) + p := by
      have : t = 2 * (t / 2) + 1 := by omega
      conv => lhs; rw [this, Int.add_mul, Int.mul_assoc]
      omega
    refine key _ _ q0 q1 ?_
    rw [Int.mul_add, Int.mul_add, et, ← e1, Int.mul_left_comm]; omega
  · intro h
    have et : t * p = 2 * (t / 2 * p) := by
      have : t = 2 * (t / 2) := by omega
      conv => lhs; rw [this, Int.mul_assoc]
    refine key _ _ s0 s1 ?_
    rw [Int.mul_add, et, ← e1, Int.mul_left_comm]; omega

theorem mul_signs (a b : Int) : (if (decide (a < 0) != decide (b < 0)) = true then -(sizeI a * sizeI b) else sizeI a * sizeI b) = a * b := by
  unfold sizeI
  by_cases ha : a < 0 <;> by_cases hb : b < 0 <;> simp [ha, hb, Int.neg_mul, Int.mul_neg]

end Grp
