/- Plain arithmetic behind package money: what Add, Mul, Sum and Share tell, as functions on whole numbers. No program is named here. -/
set_option linter.unusedVariables false
namespace Grp

def mayB (n : Int) : Bool := decide (-4611686018427387903 ≤ n) && decide (n ≤ 4611686018427387903)

theorem mayB_iff (n : Int) : mayB n = true ↔ -4611686018427387903 ≤ n ∧ n ≤ 4611686018427387903 := by
  simp [mayB]

theorem mayB_no (n : Int) : mayB n = false ↔ n < -4611686018427387903 ∨ 4611686018427387903 < n := by
  have := mayB_iff n
  cases h : mayB n
  · rw [h] at this; simp at this; simp; omega
  · have := this.1 h; simp; omega

/-- Add. -/
def addS (a b : Int) : Int × Int :=
  if mayB a = true ∧ mayB b = true then (if mayB (a + b) = true then (a + b, 0) else (0, 4)) else (0, 1)

/-- Mul. -/
def mulS (a b : Int) : Int × Int :=
  if mayB a = true ∧ mayB b = true then (if mayB (a * b) = true then (a * b, 0) else (0, 4)) else (0, 1)

/-- Sum, of what is left, behind a sum so far. -/
def sumFrom (n : Int) : List Int → Int × Int
  | [] => (n, 0)
  | x :: r => if mayB (n + x) = true then sumFrom (n + x) r else (0, 4)

def sumS (l : List Int) : Int × Int := if l.all mayB = true then sumFrom 0 l else (0, 1)

/-- may Share be asked this? -/
def shOk (t p a : Int) : Bool :=
  mayB t && mayB a && decide (0 ≤ t) && decide (1 ≤ a) && decide (0 ≤ p) && decide (p ≤ a)

/-- Share. -/
def shareS (t p a : Int) : Int × Int × Int :=
  if shOk t p a = true then (t * p / a, t * p % a, 0) else (0, 0, 1)

theorem shOk_iff (t p a : Int) : shOk t p a = true ↔ 0 ≤ t ∧ t ≤ 4611686018427387903 ∧ 1 ≤ a ∧ a ≤ 4611686018427387903 ∧ 0 ≤ p ∧ p ≤ a := by
  simp [shOk, mayB]; omega

theorem addS_comm (a b : Int) : addS a b = addS b a := by
  unfold addS
  rw [Int.add_comm b a]
  by_cases h1 : mayB a = true <;> by_cases h2 : mayB b = true <;> simp [h1, h2]

theorem mulS_comm (a b : Int) : mulS a b = mulS b a := by
  unfold mulS
  rw [Int.mul_comm b a]
  by_cases h1 : mayB a = true <;> by_cases h2 : mayB b = true <;> simp [h1, h2]

theorem addS_fits (a b : Int) : -4611686018427387903 ≤ (addS a b).1 ∧ (addS a b).1 ≤ 4611686018427387903 := by
  unfold addS
  split
  · split
    · rename_i h; rw [mayB_iff] at h; exact h
    · simp
  · simp

theorem mulS_fits (a b : Int) : -4611686018427387903 ≤ (mulS a b).1 ∧ (mulS a b).1 ≤ 4611686018427387903 := by
  unfold mulS
  split
  · split
    · rename_i h; rw [mayB_iff] at h; exact h
    · simp
  · simp

/-- what was added is taken away -/
theorem addS_back (a b : Int) (h : (addS a b).2 = 0) : addS (addS a b).1 (-b) = (a, 0) := by
  unfold addS at h ⊢
  by_cases h1 : mayB a = true ∧ mayB b = true
  · by_cases h2 : mayB (a + b) = true
    · have hb : mayB (-b) = true := by rw [mayB_iff] at *; have := (mayB_iff b).1 h1.2; omega
      simp only [h1, h2, and_self, if_true, hb]
      have : a + b + -b = a := by omega
      rw [this, if_pos h1.1]
    · rw [if_pos h1, if_neg h2] at h; simp at h
  · rw [if_neg h1] at h; simp at h

theorem addS_ok (a b : Int) (h : (addS a b).2 = 0) : mayB a = true ∧ mayB b = true ∧ mayB (a + b) = true ∧ (addS a b).1 = a + b := by
  unfold addS at h ⊢
  by_cases h1 : mayB a = true ∧ mayB b = true
  · by_cases h2 : mayB (a + b) = true
    · rw [if_pos h1, if_pos h2]; exact ⟨h1.1, h1.2, h2, rfl⟩
    · rw [if_pos h1, if_neg h2] at h; simp at h
  · rw [if_neg h1] at h; simp at h

theorem mulS_ok (a b : Int) (h : (mulS a b).2 = 0) : mayB a = true ∧ mayB b = true ∧ mayB (a * b) = true ∧ (mulS a b).1 = a * b := by
  unfold mulS at h ⊢
  by_cases h1 : mayB a = true ∧ mayB b = true
  · by_cases h2 : mayB (a * b) = true
    · rw [if_pos h1, if_pos h2]; exact ⟨h1.1, h1.2, h2, rfl⟩
    · rw [if_pos h1, if_neg h2] at h; simp at h
  · rw [if_neg h1] at h; simp at h

/-- the size of a number -/
def sizeI (n : Int) : Int := if n < 0 then -n else n

theorem sizeI_nat (n : Int) : sizeI n = (n.natAbs : Int) := by unfold sizeI; split <;> omega

/-- the look ahead of a product -/
theorem mul_look (a b : Int) (hb : b ≠ 0) : (4611686018427387903 / sizeI b < sizeI a) ↔ mayB (a * b) = false := by
  rw [mayB_no, sizeI_nat, sizeI_nat]
  have hpos : (0 : Int) < (b.natAbs : Int) := by omega
  rw [Int.ediv_lt_iff_lt_mul hpos]
  have : (a.natAbs : Int) * (b.natAbs : Int) = ((a * b).natAbs : Int) := by rw [Int.natAbs_mul]; simp
  rw [this]; omega

/-- one step of Share: the total's next bit -/
def shStep (p a n r bit : Int) : Int × Int :=
  let o : Int := if r + r < a then 0 else 1
  let r1 := if r + r < a then r + r else r + r - a
  if bit = 1 then
    let m : Int := if r1 + p < a then 0 else 1
    (n + n + o + m, if r1 + p < a then r1 + p else r1 + p - a)
  else (n + n + o, r1)

theorem shStep_ok (p a n r h bit : Int) (ha : 1 ≤ a) (hp : 0 ≤ p) (hpa : p ≤ a) (hr : 0 ≤ r) (hra : r < a) (hb : bit = 0 ∨ bit = 1)
    (e : n * a + r = h * p) : (shStep p a n r bit).1 * a + (shStep p a n r bit).2 = (2 * h + bit) * p ∧ 0 ≤ (shStep p a n r bit).2 ∧ (shStep p a n r bit).2 < a := by
  have e2 : (n + n) * a + (r + r) = 2 * h * p := by
    have : (n + n) * a = n * a + n * a := Int.add_mul n n a
    have h2 : 2 * h * p = h * p + h * p := by rw [Int.mul_assoc]; omega
    omega
  have one : ∀ x : Int, (x + 1) * a = x * a + a := fun x => by rw [Int.add_mul]; omega
  have hb1 : (2 * h + 1) * p = 2 * h * p + p := by rw [Int.add_mul]; omega
  have hb0 : (2 * h + 0) * p = 2 * h * p := by rw [Int.add_zero]
  rcases hb with rfl | rfl
  · unfold shStep
    by_cases h1 : r + r < a
    · simp only [if_pos h1]; simp; rw [e2]; exact ⟨rfl, by omega, h1⟩
    · simp only [if_neg h1]; simp; rw [one (n + n)]; omega
  · unfold shStep
    by_cases h1 : r + r < a
    · simp only [if_pos h1]
      by_cases h2 : r + r + p < a
      · simp only [if_pos h2, if_true]; rw [hb1]; simp only [Int.add_zero]; omega
      · simp only [if_neg h2, if_true]; rw [hb1]; simp only [Int.add_zero]; rw [one (n + n)]; omega
    · simp only [if_neg h1]
      by_cases h2 : r + r - a + p < a
      · simp only [if_pos h2, if_true]; rw [hb1]; simp only [Int.add_zero]; rw [one (n + n)]; omega
      · simp only [if_neg h2, if_true]; rw [hb1, one (n + n + 1), one (n + n)]; omega

theorem share_eq (t p a n r : Int) (ha : 1 ≤ a) (hr : 0 ≤ r) (hra : r < a) (e : n * a + r = t * p) : n = t * p / a ∧ r = t * p % a := by
  have h : t * p = r + a * n := by rw [← e, Int.mul_comm]; omega
  constructor
  · rw [h, Int.add_mul_ediv_left _ _ (by omega), Int.ediv_eq_zero_of_lt hr hra]; omega
  · rw [h, Int.add_mul_emod_self_left, Int.emod_eq_of_lt hr hra]

theorem half_pow (t : Int) (k : Nat) (hk : k < 62) : t / 2 ^ (62 - k) = t / 2 ^ (61 - k) / 2 := by
  have e : 62 - k = (61 - k) + 1 := by omega
  rw [e, Int.pow_succ, Int.ediv_ediv_of_nonneg (Int.pow_nonneg (by omega))]

theorem le_pow (t : Int) (j : Nat) (ht : 0 ≤ t) : 0 ≤ t / 2 ^ j ∧ t / 2 ^ j ≤ t := by
  have h : (0 : Int) < 2 ^ j := Int.pow_pos (by omega)
  exact ⟨Int.ediv_nonneg ht (by omega), Int.ediv_le_self _ ht⟩

/-- what holds behind one bit more -/
def ShRel (t p a : Int) (j : Nat) (n r : Int) : Prop := 0 ≤ n ∧ n ≤ t / 2 ^ j ∧ 0 ≤ r ∧ r < a ∧ n * a + r = t / 2 ^ j * p

theorem sh_next (t p a n r : Int) (k : Nat) (hk : k < 62) (ht : 0 ≤ t) (ha : 1 ≤ a) (hp : 0 ≤ p) (hpa : p ≤ a) (H : ShRel t p a (62 - k) n r)
    (bit n' r' : Int) (hb : bit = t / 2 ^ (61 - k) % 2) (e : shStep p a n r bit = (n', r')) : ShRel t p a (62 - (k + 1)) n' r' := by
  obtain ⟨n1, n2, r1, r2, e1⟩ := H
  have hk' : 62 - (k + 1) = 61 - k := by omega
  unfold ShRel
  rw [hk']
  have h2 := half_pow t k hk
  rw [h2] at e1 n2
  have hb' : bit = 0 ∨ bit = 1 := by omega
  have hs := shStep_ok p a n r (t / 2 ^ (61 - k) / 2) bit ha hp hpa r1 r2 hb' e1
  rw [e] at hs
  simp only at hs
  have hh : 2 * (t / 2 ^ (61 - k) / 2) + bit = t / 2 ^ (61 - k) := by omega
  rw [hh] at hs
  have hpos := (le_pow t (61 - k) ht).1
  obtain ⟨s1, s2, s3⟩ := hs
  have hn0 : 0 ≤ n' := by
    have : n' = (shStep p a n r bit).1 := by rw [e]
    rw [this]; unfold shStep; dsimp only; split <;> (repeat' split) <;> (dsimp only; omega)
  refine ⟨hn0, ?_, s2, s3, s1⟩
  have l1 : t / 2 ^ (61 - k) * p ≤ t / 2 ^ (61 - k) * a := Int.mul_le_mul_of_nonneg_left hpa hpos
  have l2 : n' * a ≤ t / 2 ^ (61 - k) * a := by omega
  exact Int.le_of_mul_le_mul_right l2 (by omega)

theorem sh_start (t p a : Int) (ht : 0 ≤ t) (h2 : t ≤ 4611686018427387903) (ha : 1 ≤ a) : ShRel t p a 62 0 0 := by
  have : t / 2 ^ 62 = 0 := Int.ediv_eq_zero_of_lt (by omega) (by omega)
  unfold ShRel
  rw [this]; simp; omega

theorem all_take (l : List Int) (k : Nat) (x : Int) (h : l[k]? = some x) (hp : (l.take k).all mayB = true) : (l.take (k + 1)).all mayB = mayB x := by
  rw [List.take_add_one, h]; simp [List.all_append, hp]

theorem all_false (l : List Int) (k : Nat) (x : Int) (h : l[k]? = some x) (hp : mayB x = false) : l.all mayB = false := by
  rw [List.all_eq_false]
  exact ⟨x, List.mem_of_getElem? h, by rw [hp]; simp⟩

theorem all_at (l : List Int) (k : Nat) (x : Int) (h : l[k]? = some x) (hp : l.all mayB = true) : mayB x = true :=
  List.all_eq_true.1 hp x (List.mem_of_getElem? h)

theorem sumFrom_step (n : Int) (l : List Int) (k : Nat) (x : Int) (h : l[k]? = some x) :
    sumFrom n (l.drop k) = if mayB (n + x) = true then sumFrom (n + x) (l.drop (k + 1)) else (0, 4) := by
  obtain ⟨hk, rfl⟩ := List.getElem?_eq_some_iff.1 h
  rw [List.drop_eq_getElem_cons hk]
  rfl

theorem sumFrom_end (n : Int) (l : List Int) (k : Nat) (h : l.length ≤ k) : sumFrom n (l.drop k) = (n, 0) := by
  rw [List.drop_eq_nil_of_le h]; rfl

theorem addS_yes (a b : Int) (ha : mayB a = true) (hb : mayB b = true) (h : mayB (a + b) = true) : addS a b = (a + b, 0) := by
  unfold addS; rw [if_pos ⟨ha, hb⟩, if_pos h]

theorem addS_full (a b : Int) (ha : mayB a = true) (hb : mayB b = true) (h : mayB (a + b) = false) : addS a b = (0, 4) := by
  unfold addS; rw [if_pos ⟨ha, hb⟩, if_neg (by rw [h]; simp)]

end Grp
