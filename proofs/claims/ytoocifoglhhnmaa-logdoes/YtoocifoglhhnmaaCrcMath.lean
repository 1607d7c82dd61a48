/- Plain arithmetic behind package crc: one halving, sums of bytes, and what a turned bit changes. No program is named here. -/
set_option linter.unusedVariables false
namespace Crc

/-- one of the eight times -/
def T (n : Nat) : Nat := if n % 2 = 1 then n / 2 ^^^ 3988292384 else n / 2

/-- so many times -/
def Tn : Nat → Nat → Nat
  | 0, x => x
  | k + 1, x => Tn k (T x)

theorem Tn_add (a b x : Nat) : Tn (a + b) x = Tn b (Tn a x) := by
  induction a generalizing x with
  | zero => simp [Tn]
  | succ a ih => rw [Nat.succ_add]; simp only [Tn]; exact ih _

theorem Tn_last (k x : Nat) : Tn (k + 1) x = T (Tn k x) := by rw [Tn_add]; rfl

theorem T_lt (n : Nat) (h : n < 4294967296) : T n < 4294967296 := by
  unfold T
  split
  · have : n / 2 ^^^ 3988292384 < 2 ^ 32 := Nat.xor_lt_two_pow (by omega) (by omega)
    omega
  · omega

theorem Tn_lt (k n : Nat) (h : n < 4294967296) : Tn k n < 4294967296 := by
  induction k generalizing n with
  | zero => exact h
  | succ k ih => exact ih _ (T_lt n h)

theorem xor_half (a b : Nat) : (a ^^^ b) / 2 = a / 2 ^^^ b / 2 := Nat.xor_div_two

theorem xor_mod (a b : Nat) : (a ^^^ b) % 2 = (a + b) % 2 := by
  have h := Nat.xor_mod_two_pow (a := a) (b := b) (n := 1)
  rw [Nat.pow_one] at h
  rw [h]
  rcases Nat.mod_two_eq_zero_or_one a with ha | ha <;> rcases Nat.mod_two_eq_zero_or_one b with hb | hb <;> rw [ha, hb]
  · show 0 = _; omega
  · show 1 = _; omega
  · show 1 = _; omega
  · show 0 = _; omega

theorem xor_zero_of (a b : Nat) (h : a ^^^ b = 0) : a = b := by
  have h2 : a ^^^ b ^^^ b = 0 ^^^ b := by rw [h]
  rw [Nat.xor_assoc, Nat.xor_self, Nat.xor_zero, Nat.zero_xor] at h2
  exact h2

theorem xor4 (a b d : Nat) : (a ^^^ d) ^^^ (b ^^^ d) = a ^^^ b := by
  rw [Nat.xor_comm b d, ← Nat.xor_assoc, Nat.xor_assoc a d d, Nat.xor_self, Nat.xor_zero]

theorem T_xor (a b : Nat) : T (a ^^^ b) = T a ^^^ T b := by
  unfold T
  rw [xor_half, xor_mod]
  by_cases ha : a % 2 = 1 <;> by_cases hb : b % 2 = 1
  · rw [if_neg (by omega), if_pos ha, if_pos hb, xor4]
  · rw [if_pos (by omega), if_pos ha, if_neg hb, Nat.xor_assoc, Nat.xor_comm (b / 2), ← Nat.xor_assoc]
  · rw [if_pos (by omega), if_neg ha, if_pos hb, Nat.xor_assoc]
  · rw [if_neg (by omega), if_neg ha, if_neg hb]

theorem Tn_xor (k a b : Nat) : Tn k (a ^^^ b) = Tn k a ^^^ Tn k b := by
  induction k generalizing a b with
  | zero => rfl
  | succ k ih => simp only [Tn]; rw [T_xor, ih]

theorem T_ne (n : Nat) (h : n < 4294967296) (h0 : n ≠ 0) : T n ≠ 0 := by
  unfold T
  split
  · intro e
    have := xor_zero_of _ _ e
    omega
  · omega

theorem Tn_ne (k n : Nat) (h : n < 4294967296) (h0 : n ≠ 0) : Tn k n ≠ 0 := by
  induction k generalizing n with
  | zero => exact h0
  | succ k ih => exact ih _ (T_lt n h) (T_ne n h h0)

theorem T_even (m : Nat) : T (2 * m) = m := by
  unfold T
  rw [if_neg (by omega)]; omega

theorem Tn_pow (k m : Nat) : Tn k (2 ^ k * m) = m := by
  induction k with
  | zero => simp [Tn]
  | succ k ih =>
    simp only [Tn]
    rw [show 2 ^ (k + 1) * m = 2 * (2 ^ k * m) by rw [Nat.pow_succ, Nat.mul_comm (2 ^ k) 2, Nat.mul_assoc], T_even, ih]

/-- the eight times -/
def e8 (n : Nat) : Nat := Tn 8 n

theorem e8_lt (n : Nat) (h : n < 4294967296) : e8 n < 4294967296 := Tn_lt 8 n h

theorem parts256 (n : Nat) : n = 256 * (n / 256) ^^^ n % 256 := by
  apply Nat.eq_of_testBit_eq
  intro i
  rw [Nat.testBit_xor, show (256 : Nat) = 2 ^ 8 from rfl, Nat.testBit_two_pow_mul, Nat.testBit_mod_two_pow, Nat.testBit_div_two_pow]
  by_cases h : i < 8
  · simp [h, show ¬ 8 ≤ i from by omega]
  · simp [h, show 8 ≤ i from by omega]

theorem e8_parts (n : Nat) : e8 n = n / 256 ^^^ e8 (n % 256) := by
  conv => lhs; rw [parts256 n]
  unfold e8
  rw [Tn_xor]
  congr 1
  exact Tn_pow 8 (n / 256)

theorem xor_lt256 (a b : Nat) (ha : a < 256) (hb : b < 256) : a ^^^ b < 256 := by
  have : a ^^^ b < 2 ^ 8 := Nat.xor_lt_two_pow (by omega) (by omega)
  omega

theorem xor_lt32 (a b : Nat) (ha : a < 4294967296) (hb : b < 4294967296) : a ^^^ b < 4294967296 := by
  have : a ^^^ b < 2 ^ 32 := Nat.xor_lt_two_pow (by omega) (by omega)
  omega

theorem xor_div256 (a b : Nat) : (a ^^^ b) / 256 = a / 256 ^^^ b / 256 := by
  apply Nat.eq_of_testBit_eq
  intro i
  rw [show (256 : Nat) = 2 ^ 8 from rfl, Nat.testBit_xor, Nat.testBit_div_two_pow, Nat.testBit_div_two_pow, Nat.testBit_div_two_pow, Nat.testBit_xor]

theorem xor_mod256 (a b : Nat) : (a ^^^ b) % 256 = a % 256 ^^^ b % 256 := by
  rw [show (256 : Nat) = 2 ^ 8 from rfl, Nat.xor_mod_two_pow]

/-- one byte more, by the table -/
theorem byte_step (s c : Nat) (hc : c < 256) : e8 (s ^^^ c) = s / 256 ^^^ e8 (s % 256 ^^^ c) := by
  rw [e8_parts (s ^^^ c), xor_div256, xor_mod256, Nat.mod_eq_of_lt hc, Nat.div_eq_of_lt hc, Nat.xor_zero]

/-- the number, behind bytes -/
def st (s : Nat) (l : List Nat) : Nat := l.foldl (fun s b => e8 (s ^^^ b)) s

theorem st_nil (s : Nat) : st s [] = s := rfl
theorem st_cons (s b : Nat) (r : List Nat) : st s (b :: r) = st (e8 (s ^^^ b)) r := by unfold st; rw [List.foldl_cons]

theorem st_append (s : Nat) (a b : List Nat) : st s (a ++ b) = st (st s a) b := by unfold st; rw [List.foldl_append]

theorem st_take (s : Nat) (l : List Nat) (k b : Nat) (h : l[k]? = some b) : st s (l.take (k + 1)) = e8 (st s (l.take k) ^^^ b) := by
  rw [List.take_add_one, h, st_append, Option.toList, st_cons, st_nil]

theorem st_lt (s : Nat) (l : List Nat) (hs : s < 4294967296) (hl : ∀ b ∈ l, b < 256) : st s l < 4294967296 := by
  induction l generalizing s with
  | nil => exact hs
  | cons x l ih =>
    have hx := hl x (by simp)
    rw [st_cons]
    exact ih _ (e8_lt _ (xor_lt32 _ _ hs (by omega))) (fun b hb => hl b (by simp [hb]))

/-- More -/
def more (s : Nat) (l : List Nat) : Nat := 4294967295 - st (4294967295 - s) l

theorem more_parts (s : Nat) (a b : List Nat) (hs : s < 4294967296) (ha : ∀ x ∈ a, x < 256) : more (more s a) b = more s (a ++ b) := by
  have := st_lt (4294967295 - s) a (by omega) ha
  unfold more
  rw [st_append, show 4294967295 - (4294967295 - st (4294967295 - s) a) = st (4294967295 - s) a by omega]

theorem more_lt (s : Nat) (l : List Nat) : more s l < 4294967296 := by unfold more; omega

theorem st_xor (s d : Nat) (l : List Nat) : st (s ^^^ d) l = st s l ^^^ Tn (8 * l.length) d := by
  induction l generalizing s d with
  | nil => rfl
  | cons x l ih =>
    simp only [st_cons, List.length_cons]
    rw [Nat.xor_assoc, Nat.xor_comm d x, ← Nat.xor_assoc]
    unfold e8
    rw [Tn_xor 8]
    have := ih (Tn 8 (s ^^^ x)) (Tn 8 d)
    unfold e8 at this
    rw [this, Nat.mul_add, Nat.add_comm (8 * l.length), Tn_add]

/-- a bit that is turned -/
def flip (l : List Nat) (q r : Nat) : List Nat := l.set q (l.getD q 0 ^^^ 2 ^ r)

theorem Tn_bit (k r : Nat) : Tn (k + r) (2 ^ r) = Tn k 1 := by
  rw [Nat.add_comm, Tn_add]
  have := Tn_pow r 1
  rw [Nat.mul_one] at this
  rw [this]

theorem st_flip (s : Nat) (l : List Nat) (q r : Nat) (hq : q < l.length) (hr : r < 8) :
    st s (flip l q r) = st s l ^^^ Tn (8 * l.length - (8 * q + r)) 1 := by
  induction l generalizing s q with
  | nil => simp at hq
  | cons x l ih =>
    cases q with
    | zero =>
      simp only [flip, List.getD_cons_zero, List.set_cons_zero, st_cons, List.length_cons]
      rw [← Nat.xor_assoc]
      have h1 : e8 (s ^^^ x ^^^ 2 ^ r) = e8 (s ^^^ x) ^^^ Tn (8 - r) 1 := by
        unfold e8
        rw [Tn_xor]
        congr 1
        have := Tn_bit (8 - r) r
        rw [show 8 - r + r = 8 by omega] at this
        exact this
      rw [h1, st_xor, ← Tn_add]
      congr 2
      omega
    | succ q =>
      simp only [flip, List.getD_cons_succ, List.set_cons_succ, st_cons, List.length_cons]
      have hq' : q < l.length := by simpa using hq
      have := ih (e8 (s ^^^ x)) q hq'
      unfold flip at this
      rw [this]
      congr 2
      omega

theorem flip_length (l : List Nat) (q r : Nat) : (flip l q r).length = l.length := by unfold flip; simp

theorem flip_lt (l : List Nat) (q r : Nat) (hr : r < 8) (hl : ∀ b ∈ l, b < 256) : ∀ b ∈ flip l q r, b < 256 := by
  intro b hb
  unfold flip at hb
  rcases List.mem_or_eq_of_mem_set hb with h | h
  · exact hl b h
  · subst h
    have h2 : 2 ^ r < 256 := Nat.pow_lt_pow_of_lt (a := 2) (m := 8) (by omega) hr
    refine xor_lt256 _ _ ?_ h2
    rw [List.getD_eq_getElem?_getD]
    cases e : l[q]? with
    | none => simp
    | some v => exact hl v (List.mem_of_getElem? e)

/-- what the turned bits 'p', from a bit on, change -/
theorem burst_step (s : Nat) (l c : List Nat) (a i p : Nat) (hi : i < 32) (hlen : c.length = l.length) (hai : a + i < 8 * l.length)
    (h : st s c = st s l ^^^ Tn (8 * l.length - a) p) : st s (flip c ((a + i) / 8) ((a + i) % 8)) = st s l ^^^ Tn (8 * l.length - a) (p ^^^ 2 ^ i) := by
  rw [st_flip s c _ _ (by omega) (by omega), h, Nat.xor_assoc, Tn_xor]
  congr 2
  rw [hlen, show 8 * l.length - a = (8 * l.length - (a + i)) + i by omega, Tn_bit]
  congr 1
  omega

theorem xor_same (a b : Nat) : a ^^^ b = a ↔ b = 0 := by
  constructor
  · intro h
    have : a ^^^ (a ^^^ b) = a ^^^ a := by rw [h]
    rw [← Nat.xor_assoc, Nat.xor_self, Nat.zero_xor] at this
    exact this
  · intro h; rw [h, Nat.xor_zero]

/-- the bits of a word below i -/
theorem low_bits (t i : Nat) : t % 2 ^ (i + 1) = if t / 2 ^ i % 2 = 1 then t % 2 ^ i ^^^ 2 ^ i else t % 2 ^ i := by
  apply Nat.eq_of_testBit_eq
  intro j
  have hb : t.testBit i = decide (t / 2 ^ i % 2 = 1) := by rw [Nat.testBit_eq_decide_div_mod_eq]
  rw [Nat.testBit_mod_two_pow]
  split
  · rename_i h
    rw [Nat.testBit_xor, Nat.testBit_mod_two_pow, Nat.testBit_two_pow]
    by_cases e : j = i
    · subst e; simp [hb, h]
    · by_cases h2 : j < i
      · simp [h2, show j < i + 1 from by omega, show ¬ i = j from by omega]
      · simp [h2, show ¬ j < i + 1 from by omega, show ¬ i = j from by omega]
  · rename_i h
    rw [Nat.testBit_mod_two_pow]
    by_cases e : j = i
    · subst e; simp [hb, h]
    · by_cases h2 : j < i
      · simp [h2, show j < i + 1 from by omega]
      · simp [h2, show ¬ j < i + 1 from by omega]

theorem burst_end (s : Nat) (l c : List Nat) (k p : Nat) (hp : p < 4294967296) (h : st s c = st s l ^^^ Tn k p) : (st s c ≠ st s l) ↔ p ≠ 0 := by
  rw [h, Ne, xor_same]
  constructor
  · intro h1 h2; subst h2; exact h1 (by clear h h1; induction k with | zero => rfl | succ k ih => rw [Tn]; exact ih)
  · intro h1 h2; exact Tn_ne k p hp h1 h2

end Crc
