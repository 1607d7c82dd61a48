/- Numbers and texts as bytes: plain mathematics, nothing of the program. -/
namespace Go.Proofs.Ythncabfeieombaa.Pk

abbrev V := Int × ByteArray
abbrev Bs := List UInt8

def often (f : Bs) : Bool := f.getLast? == some 43
def lets (f : Bs) : Bs := if often f then f.dropLast else f
def isLet (c : UInt8) : Bool := c == 110 || c == 116
def fine (f : Bs) : Bool := decide (f.length ≤ 20) && (!(lets f).isEmpty && (lets f).all isLet)

def isVal (c : UInt8) (v : V) : Bool :=
  if c = 110 then decide (v.2.size = 0) && (decide (-4611686018427387904 ≤ v.1) && decide (v.1 ≤ 4611686018427387904))
  else decide (v.1 = 0) && decide (v.2.size ≤ 1000)

def zig (n : Int) : Nat := if n < 0 then (-1 - 2 * n).toNat else (2 * n).toNat
def zag (u : Nat) : Int := if u % 2 = 1 then -1 - ((u / 2 : Nat) : Int) else ((u / 2 : Nat) : Int)

def num (u : Nat) : Bs := if u < 128 then [UInt8.ofNat u] else UInt8.ofNat (u % 128 + 128) :: num (u / 128)
termination_by u
decreasing_by omega

theorem num_small {u : Nat} (h : u < 128) : num u = [UInt8.ofNat u] := by rw [num, if_pos h]
theorem num_big {u : Nat} (h : ¬ u < 128) : num u = UInt8.ofNat (u % 128 + 128) :: num (u / 128) := by rw [num, if_neg h]

theorem num_len : ∀ (k u : Nat), u < 128 ^ (k + 1) → (num u).length ≤ k + 1 := by
  intro k
  induction k with
  | zero => intro u h; rw [num_small (by simpa using h)]; simp
  | succ k ih =>
    intro u h
    by_cases hs : u < 128
    · rw [num_small hs]; simp
    · rw [num_big hs]
      have := ih (u / 128) (by rw [Nat.pow_succ] at h; omega)
      simp; omega
theorem num_ten {u : Nat} (h : u ≤ 9223372036854775808) : (num u).length ≤ 10 := by
  refine num_len 9 u ?_
  have : (128 : Nat) ^ (9 + 1) = 1180591620717411303424 := by decide
  omega
theorem num_one (u : Nat) : 1 ≤ (num u).length := by
  by_cases h : u < 128
  · rw [num_small h]; simp
  · rw [num_big h]; simp

def letAt (ls : Bs) (i : Nat) : UInt8 := ls.getD (i % ls.length) 0

def encV (c : UInt8) (v : V) : Bs := if c = 110 then num (zig v.1) else num (2 * v.2.size) ++ v.2.data.toList

def enc (ls : Bs) : Nat → List V → Bs
  | _, [] => []
  | i, v :: r => encV (letAt ls i) v ++ enc ls (i + 1) r

def okVals (ls : Bs) : Nat → List V → Bool
  | _, [] => true
  | i, v :: r => isVal (letAt ls i) v && okVals ls (i + 1) r

def shape (ls : Bs) (again : Bool) (n : Nat) : Bool := if again then decide (n % ls.length = 0) else decide (n = ls.length)

/-- what Write tells: the error, the bytes -/
def wres (f : Bs) (l : List V) : Nat × Bs :=
  if fine f = false then (1, []) else if (shape (lets f) (often f) l.length && okVals (lets f) 0 l) = false then (2, [])
  else if 200 < l.length then (4, []) else (0, enc (lets f) 0 l)

theorem enc_append (ls : Bs) : ∀ (a b : List V) (i : Nat), enc ls i (a ++ b) = enc ls i a ++ enc ls (i + a.length) b := by
  intro a
  induction a with
  | nil => intro b i; simp [enc]
  | cons v a ih => intro b i; simp [enc, ih, Nat.add_assoc, Nat.add_comm 1]

theorem okVals_append (ls : Bs) : ∀ (a b : List V) (i : Nat), okVals ls i (a ++ b) = (okVals ls i a && okVals ls (i + a.length) b) := by
  intro a
  induction a with
  | nil => intro b i; simp [okVals]
  | cons v a ih => intro b i; simp [okVals, ih, Nat.add_assoc, Nat.add_comm 1, Bool.and_assoc]

theorem take_succ_of {l : List V} {k : Nat} {v : V} (h : l[k]? = some v) : l.take (k + 1) = l.take k ++ [v] := by
  rw [List.take_add_one, h]; rfl

theorem enc_take (ls : Bs) (l : List V) (k : Nat) (v : V) (h : l[k]? = some v) : enc ls 0 (l.take (k + 1)) = enc ls 0 (l.take k) ++ encV (letAt ls k) v := by
  have hk : k < l.length := (List.getElem?_eq_some_iff.1 h).1
  rw [take_succ_of h, enc_append, List.length_take, Nat.min_eq_left (by omega), Nat.zero_add]
  simp [enc]

theorem okVals_take (ls : Bs) (l : List V) (k : Nat) (v : V) (h : l[k]? = some v) : okVals ls 0 (l.take (k + 1)) = (okVals ls 0 (l.take k) && isVal (letAt ls k) v) := by
  have hk : k < l.length := (List.getElem?_eq_some_iff.1 h).1
  rw [take_succ_of h, okVals_append, List.length_take, Nat.min_eq_left (by omega), Nat.zero_add]
  simp [okVals]

theorem okVals_not (ls : Bs) : ∀ (l : List V) (i k : Nat) (v : V), l[k]? = some v → isVal (letAt ls (i + k)) v = false → okVals ls i l = false := by
  intro l
  induction l with
  | nil => intro i k v h; simp at h
  | cons x l ih =>
    intro i k v h hv
    cases k with
    | zero => simp at h; subst h; rw [okVals]; rw [Nat.add_zero] at hv; rw [hv]; rfl
    | succ k =>
      simp at h
      rw [okVals, ih (i + 1) k v h (by rw [← hv]; congr 2; omega)]; simp

theorem okVals_at (ls : Bs) : ∀ (l : List V) (i k : Nat) (v : V), l[k]? = some v → okVals ls i l = true → isVal (letAt ls (i + k)) v = true := by
  intro l i k v h ho
  cases e : isVal (letAt ls (i + k)) v with
  | true => rfl
  | false => rw [okVals_not ls l i k v h e] at ho; exact absurd ho (by simp)

/-! Reading. -/

/-- a number's u: i bytes are there, worth u -/
def fold : Nat → Nat → Bs → Except Nat (Nat × Bs)
  | i, _, [] => if i = 10 then .error 2 else .error 3
  | i, u, c :: r => if i = 10 then .error 2 else
      if 128 ≤ c.toNat then fold (i + 1) (u + c.toNat % 128 * 128 ^ i) r
      else if (c.toNat = 0 ∧ 0 < i) ∨ (1 < c.toNat ∧ i = 9) ∨ 9223372036854775808 < u + c.toNat % 128 * 128 ^ i then .error 2
      else .ok (u + c.toNat % 128 * 128 ^ i, r)

def takeV (c : UInt8) (bs : Bs) : Except Nat (V × Bs) :=
  match fold 0 0 bs with
  | .error e => .error e
  | .ok (u, r) =>
    if c = 110 then .ok ((zag u, ⟨#[]⟩), r)
    else if zag u < 0 ∨ 1000 < zag u then .error 2
    else if r.length < (zag u).toNat then .error 3
    else .ok ((0, ⟨(r.take (zag u).toNat).toArray⟩), r.drop (zag u).toNat)

def stop (ls : Bs) (again : Bool) (n : Nat) (bs : Bs) : Bool :=
  if again then decide (n % ls.length = 0) && bs.isEmpty else decide (n = ls.length)

def ends (acc : List V) (bs : Bs) : Nat × List V := if bs.isEmpty = false then (2, []) else if 200 < acc.length then (4, []) else (0, acc)

def readV (ls : Bs) (again : Bool) : Nat → List V → Bs → Nat × List V
  | 0, _, _ => (2, [])
  | n + 1, acc, bs =>
    if stop ls again acc.length bs = true then ends acc bs
    else match takeV (letAt ls acc.length) bs with
      | .error e => (e, [])
      | .ok (v, r) => readV ls again n (acc ++ [v]) r

/-- what Read tells: the error, the values -/
def rres (f b : Bs) : Nat × List V :=
  if fine f = false then (1, []) else if 20000 < b.length then (4, []) else readV (lets f) (often f) (b.length + 1) [] b

def once : Bs → List V → Bs → Except Nat (List V × Bs)
  | [], acc, bs => .ok (acc, bs)
  | c :: cs, acc, bs =>
    match takeV c bs with
    | .error e => .error e
    | .ok (v, r) => once cs (acc ++ [v]) r

theorem u8_lt (c : UInt8) : c.toNat < 256 := c.toNat_lt
theorem ofNat_toNat (c : UInt8) : UInt8.ofNat c.toNat = c := by simp
theorem toNat_ofNat {n : Nat} (h : n < 256) : (UInt8.ofNat n).toNat = n := by
  simp [UInt8.toNat_ofNat']
  omega

theorem pow_pos' (i : Nat) : 0 < 128 ^ i := Nat.pow_pos (by omega)
theorem pow_le_nine {i : Nat} (h : 128 ^ i ≤ 9223372036854775808) : i ≤ 9 := by
  rcases Nat.lt_or_ge 9 i with hi | hi
  · have h1 : 128 ^ 10 ≤ 128 ^ i := Nat.pow_le_pow_right (by omega) hi
    have h2 : (128 : Nat) ^ 10 = 1180591620717411303424 := by decide
    omega
  · exact hi

theorem fold_num : ∀ (u i a : Nat) (t : Bs), a + u * 128 ^ i ≤ 9223372036854775808 → (0 < u ∨ i = 0) → fold i a (num u ++ t) = .ok (a + u * 128 ^ i, t) := by
  intro u
  induction u using Nat.strongRecOn with
  | _ u ih =>
    intro i a t hle hu
    by_cases h : u < 128
    · rw [num_small h, List.cons_append, List.nil_append, fold, toNat_ofNat (by omega), Nat.mod_eq_of_lt h]
      have hp := pow_pos' i
      have hi : i ≤ 9 := by
        rcases hu with h0 | h0
        · refine pow_le_nine ?_
          have : 1 * 128 ^ i ≤ u * 128 ^ i := Nat.mul_le_mul_right _ h0
          omega
        · omega
      rw [if_neg (by omega), if_neg (by omega)]
      have h9 : ¬ (1 < u ∧ i = 9) := by
        rintro ⟨h1, rfl⟩
        have : 2 * 128 ^ 9 ≤ u * 128 ^ 9 := Nat.mul_le_mul_right _ h1
        have h2 : (128 : Nat) ^ 9 = 9223372036854775808 := by decide
        omega
      rw [if_neg]
      rintro (h1 | h1 | h1)
      · omega
      · exact h9 h1
      · omega
    · have hq : 0 < u / 128 := by omega
      have hlow : u = u % 128 + 128 * (u / 128) := by omega
      have hmul : u * 128 ^ i = u % 128 * 128 ^ i + u / 128 * 128 ^ (i + 1) := by
        rw [Nat.pow_succ]
        conv => lhs; rw [hlow]
        rw [Nat.add_mul, Nat.mul_comm 128 (u / 128), Nat.mul_assoc, Nat.mul_comm 128 (128 ^ i)]
      have hp := pow_pos' i
      have hi : i ≤ 9 := by
        refine pow_le_nine ?_
        have : 1 * 128 ^ i ≤ u * 128 ^ i := Nat.mul_le_mul_right _ (by omega)
        omega
      rw [num_big h, List.cons_append, fold, toNat_ofNat (by omega), if_neg (by omega), if_pos (by omega),
        show (u % 128 + 128) % 128 = u % 128 by omega, ih (u / 128) (by omega) (i + 1) _ t (by omega) (.inl hq)]
      rw [hmul, Nat.add_assoc]

theorem fold_sound : ∀ (bs : Bs) (i a x : Nat) (r : Bs), fold i a bs = .ok (x, r) → ∃ u, x = a + u * 128 ^ i ∧ bs = num u ++ r ∧ x ≤ 9223372036854775808 ∧ (0 < i → 0 < u) := by
  intro bs
  induction bs with
  | nil => intro i a x r h; rw [fold] at h; split at h <;> cases h
  | cons c bs ih =>
    intro i a x r h
    have hc := u8_lt c
    rw [fold] at h
    split at h
    · cases h
    · split at h
      · rename_i hge
        obtain ⟨u, hx, hb, hle, hu⟩ := ih _ _ _ _ h
        have h0 := hu (by omega)
        refine ⟨c.toNat % 128 + 128 * u, ?_, ?_, hle, fun _ => by omega⟩
        · rw [hx, Nat.pow_succ, Nat.add_mul, Nat.mul_comm 128 u, Nat.mul_assoc, Nat.mul_comm 128 (128 ^ i), Nat.add_assoc]
        · rw [num_big (by omega), show (c.toNat % 128 + 128 * u) % 128 + 128 = c.toNat by omega, show (c.toNat % 128 + 128 * u) / 128 = u by omega, ofNat_toNat, hb]; rfl
      · split at h
        · cases h
        · rename_i h1 h2 h3
          injection h with h
          injection h with hx hr
          have hl : c.toNat % 128 = c.toNat := by omega
          rw [hl] at hx h3
          refine ⟨c.toNat, hx.symm, ?_, by omega, fun hi => by omega⟩
          rw [num_small (by omega), ofNat_toNat, hr]; rfl

theorem zag_zig (n : Int) : zag (zig n) = n := by
  unfold zig zag
  by_cases h : n < 0
  · rw [if_pos h, if_pos (by omega)]; omega
  · rw [if_neg h, if_neg (by omega)]; omega
theorem zig_zag (u : Nat) : zig (zag u) = u := by
  unfold zig zag
  by_cases h : u % 2 = 1
  · rw [if_pos h, if_pos (by omega)]; omega
  · rw [if_neg h, if_neg (by omega)]; omega
theorem zig_nat (n : Nat) : zig (n : Int) = 2 * n := by unfold zig; rw [if_neg (by omega)]; omega
theorem zag_in {u : Nat} (h : u ≤ 9223372036854775808) : -4611686018427387904 ≤ zag u ∧ zag u ≤ 4611686018427387904 := by
  unfold zag; split <;> omega
theorem zag_out {u : Nat} (h : 9223372036854775808 < u) : ¬ (-4611686018427387904 ≤ zag u ∧ zag u ≤ 4611686018427387904) := by
  unfold zag; split <;> omega
theorem zig_le {n : Int} (h1 : -4611686018427387904 ≤ n) (h2 : n ≤ 4611686018427387904) : zig n ≤ 9223372036854775808 := by
  unfold zig; split <;> omega
theorem zag_even (n : Nat) : zag (2 * n) = n := by rw [← zig_nat, zag_zig]

theorem bytes_size (l : Bs) : (⟨l.toArray⟩ : ByteArray).size = l.length := by simp [ByteArray.size]
theorem bytes_ext {s : ByteArray} : (⟨s.data.toList.toArray⟩ : ByteArray) = s := by cases s; simp
theorem bytes_empty {s : ByteArray} (h : s.size = 0) : s = ⟨#[]⟩ := by
  cases s with
  | mk d => congr 1; exact Array.eq_empty_of_size_eq_zero h

theorem takeV_enc (c : UInt8) (v : V) (t : Bs) (hv : isVal c v = true) : takeV c (encV c v ++ t) = .ok (v, t) := by
  obtain ⟨n, s⟩ := v
  unfold isVal at hv
  unfold takeV encV
  by_cases hc : c = 110
  · rw [if_pos hc] at hv ⊢
    simp only [Bool.and_eq_true, decide_eq_true_eq] at hv
    obtain ⟨h0, h1, h2⟩ := hv
    have := fold_num (zig n) 0 0 t (by have := zig_le h1 h2; omega) (.inr rfl)
    simp only [Nat.pow_zero, Nat.mul_one, Nat.zero_add] at this
    rw [this]
    simp only [if_pos hc, zag_zig]
    rw [bytes_empty h0]
  · rw [if_neg hc] at hv ⊢
    simp only [Bool.and_eq_true, decide_eq_true_eq] at hv
    obtain ⟨h0, h1⟩ := hv
    have := fold_num (2 * s.size) 0 0 (s.data.toList ++ t) (by omega) (.inr rfl)
    simp only [Nat.pow_zero, Nat.mul_one, Nat.zero_add] at this
    rw [List.append_assoc, this]
    have hl : s.data.toList.length = s.size := Array.length_toList
    simp only [if_neg hc, zag_even]
    rw [if_neg (by omega), if_neg (by rw [List.length_append, hl, Int.toNat_natCast]; omega), Int.toNat_natCast, List.take_left' hl, List.drop_left' hl, bytes_ext]
    rw [h0]

theorem takeV_sound (c : UInt8) (bs : Bs) (v : V) (r : Bs) (h : takeV c bs = .ok (v, r)) : isVal c v = true ∧ bs = encV c v ++ r := by
  unfold takeV at h
  split at h
  · cases h
  · rename_i u r' hf
    obtain ⟨u', hx, hb, hle, _⟩ := fold_sound _ _ _ _ _ hf
    simp only [Nat.pow_zero, Nat.mul_one, Nat.zero_add] at hx
    subst hx
    split at h
    · rename_i hc
      injection h with h
      injection h with h1 h2
      subst h1 h2
      unfold isVal encV
      rw [if_pos hc, if_pos hc]
      have := zag_in hle
      refine ⟨by simp [ByteArray.size]; exact this, by rw [zig_zag]; exact hb⟩
    · rename_i hc
      split at h
      · cases h
      · rename_i hn
        split at h
        · cases h
        · rename_i hl
          injection h with h
          injection h with h1 h2
          subst h1 h2
          unfold isVal encV
          rw [if_neg hc, if_neg hc, bytes_size, List.length_take, Nat.min_eq_left (by omega)]
          refine ⟨by simp; omega, ?_⟩
          have hz : 2 * (zag u).toNat = u := by
            have h3 := zig_zag u
            have h4 := zig_nat (zag u).toNat
            rw [Int.toNat_of_nonneg (by omega)] at h4
            omega
          rw [hz, List.append_assoc]
          simp [hb]

theorem takeV_less (c : UInt8) (bs : Bs) (v : V) (r : Bs) (h : takeV c bs = .ok (v, r)) : r.length < bs.length := by
  obtain ⟨_, hb⟩ := takeV_sound c bs v r h
  have hn : ∀ u, 0 < (num u).length := by
    intro u
    by_cases h : u < 128
    · rw [num_small h]; simp
    · rw [num_big h]; simp
  rw [hb, List.length_append]
  unfold encV
  split
  · have := hn (zig v.1); omega
  · have := hn (2 * v.2.size); rw [List.length_append]; omega

theorem encV_pos (c : UInt8) (v : V) : 0 < (encV c v).length := by
  have hn : ∀ u, 0 < (num u).length := by
    intro u
    by_cases h : u < 128
    · rw [num_small h]; simp
    · rw [num_big h]; simp
  unfold encV
  split
  · exact hn _
  · rw [List.length_append]; have := hn (2 * v.2.size); omega

/-- What is read is written so. -/
theorem read_sound (ls : Bs) (again : Bool) : ∀ (n : Nat) (acc : List V) (bs : Bs) (m : List V), readV ls again n acc bs = (0, m) → (∀ e x, fold 0 0 x = .error e → e ≠ 0) →
    ∃ l, m = acc ++ l ∧ bs = enc ls acc.length l ∧ okVals ls acc.length l = true ∧ shape ls again m.length = true ∧ m.length ≤ 200 := by
  intro n
  induction n with
  | zero => intro acc bs m h _; rw [readV] at h; simp at h
  | succ n ih =>
    intro acc bs m h hne
    rw [readV] at h
    split at h
    · rename_i hs
      unfold ends at h
      split at h
      · simp at h
      · rename_i he
        split at h
        · simp at h
        · rename_i hl
          simp only [Prod.mk.injEq, true_and] at h
          subst h
          have hb : bs = [] := by simpa using he
          subst hb
          refine ⟨[], by simp, by simp [enc], by simp [okVals], ?_, by omega⟩
          unfold stop at hs
          unfold shape
          split
          · rename_i ha; rw [if_pos ha] at hs; simp at hs; simpa using hs
          · rename_i ha; rw [if_neg ha] at hs; exact hs
    · split at h
      · rename_i e he
        simp only [Prod.mk.injEq] at h
        obtain ⟨rfl, _⟩ := h
        exfalso
        unfold takeV at he
        split at he
        · rename_i e' hf
          injection he with he
          subst he
          exact hne _ _ hf rfl
        · split at he
          · cases he
          · split at he
            · cases he
            · split at he <;> cases he
      · rename_i v r ht
        obtain ⟨l, hm, hb, ho, hsh, hle⟩ := ih _ _ _ h hne
        obtain ⟨hv, hbs⟩ := takeV_sound _ _ _ _ ht
        refine ⟨v :: l, by rw [hm]; simp, ?_, ?_, hsh, hle⟩
        · rw [enc, hbs, hb]; simp
        · rw [okVals, hv]; simpa using ho

theorem fold_error : ∀ (bs : Bs) (i u e : Nat), fold i u bs = .error e → e ≠ 0 := by
  intro bs
  induction bs with
  | nil => intro i u e h; rw [fold] at h; split at h <;> cases h <;> decide
  | cons c bs ih =>
    intro i u e h
    rw [fold] at h
    split at h
    · cases h; decide
    · split at h
      · exact ih _ _ _ h
      · split at h
        · cases h; decide
        · cases h

theorem takeV_error (c : UInt8) (bs : Bs) (e : Nat) (h : takeV c bs = .error e) : e ≠ 0 := by
  unfold takeV at h
  split at h
  · rename_i e' hf
    injection h with h
    subst h
    exact fold_error _ _ _ _ hf
  · split at h
    · cases h
    · split at h
      · cases h; decide
      · split at h
        · cases h; decide
        · cases h

/-- What is written is read. -/
theorem read_back (ls : Bs) (again : Bool) : ∀ (l acc : List V) (n : Nat), (enc ls acc.length l).length < n → okVals ls acc.length l = true → shape ls again (acc ++ l).length = true → (acc ++ l).length ≤ 200 →
    (again = false → acc.length ≤ ls.length) → readV ls again n acc (enc ls acc.length l) = (0, acc ++ l) := by
  intro l
  induction l with
  | nil =>
    intro acc n hn _ hs hl _
    obtain ⟨n, rfl⟩ : ∃ k, n = k + 1 := ⟨n - 1, by omega⟩
    rw [List.append_nil] at hs hl ⊢
    have : stop ls again acc.length (enc ls acc.length []) = true := by
      unfold stop
      unfold shape at hs
      split
      · rename_i ha; rw [if_pos ha] at hs; simp [enc]; simpa using hs
      · rename_i ha; rw [if_neg ha] at hs; exact hs
    rw [readV, if_pos this, show enc ls acc.length [] = [] from rfl]
    unfold ends
    rw [if_neg (by simp), if_neg (by omega)]
  | cons v l ih =>
    intro acc n hn ho hs hl ha
    obtain ⟨n, rfl⟩ : ∃ k, n = k + 1 := ⟨n - 1, by omega⟩
    rw [okVals, Bool.and_eq_true] at ho
    have hp := encV_pos (letAt ls acc.length) v
    have hst : stop ls again acc.length (enc ls acc.length (v :: l)) = false := by
      unfold stop
      split
      · have : (enc ls acc.length (v :: l)).isEmpty = false := by
          rw [enc, List.isEmpty_eq_false_iff, ← List.length_pos_iff, List.length_append]; omega
        rw [this, Bool.and_false]
      · rename_i hag
        unfold shape at hs
        rw [if_neg hag] at hs
        simp at hs
        exact decide_eq_false (by omega)
    rw [readV, if_neg (by rw [hst]; decide), enc, takeV_enc _ _ _ ho.1]
    have he : (acc ++ [v]).length = acc.length + 1 := by simp
    have := ih (acc ++ [v]) n (by rw [he]; rw [enc, List.length_append] at hn; omega) (by rw [he]; exact ho.2) (by simpa using hs) (by simpa using hl)
      (fun hag => by
        subst hag
        unfold shape at hs
        simp at hs
        rw [he]; omega)
    rw [he] at this
    simpa using this

theorem rres_sound (f b : Bs) (m : List V) (h : rres f b = (0, m)) : wres f m = (0, b) ∧ b.length ≤ 20000 := by
  unfold rres at h
  split at h
  · simp at h
  · rename_i hf
    split at h
    · simp at h
    · rename_i hl
      obtain ⟨l, hm, hb, ho, hs, h2⟩ := read_sound _ _ _ _ _ _ h (fun e x hx => fold_error x 0 0 e hx)
      rw [List.nil_append] at hm
      subst hm
      refine ⟨?_, by omega⟩
      unfold wres
      rw [if_neg hf, hs]
      have ho' : okVals (lets f) 0 m = true := ho
      rw [ho', if_neg (by decide), if_neg (by omega)]
      exact congrArg _ hb.symm

theorem rres_back (f : Bs) (l : List V) (b : Bs) (h : wres f l = (0, b)) (hb : b.length ≤ 20000) : rres f b = (0, l) := by
  unfold wres at h
  split at h
  · simp at h
  · rename_i hf
    split at h
    · simp at h
    · rename_i ho
      split at h
      · simp at h
      · rename_i hl
        simp only [Prod.mk.injEq, true_and] at h
        subst h
        have ho' : (shape (lets f) (often f) l.length && okVals (lets f) 0 l) = true := by simpa using ho
        rw [Bool.and_eq_true] at ho'
        unfold rres
        rw [if_neg hf, if_neg (by omega)]
        exact read_back (lets f) (often f) l [] _ (by simp) ho'.2 (by simpa using ho'.1) (by simp; omega) (by simp)

theorem rres_err (f b : Bs) (h : (rres f b).1 ≠ 0) : (rres f b).2 = [] := by
  have hr : ∀ (ls : Bs) (again : Bool) (n : Nat) (acc : List V) (bs : Bs), (readV ls again n acc bs).1 ≠ 0 → (readV ls again n acc bs).2 = [] := by
    intro ls again n
    induction n with
    | zero => intro acc bs _; rfl
    | succ n ih =>
      intro acc bs hne
      rw [readV] at hne ⊢
      split at hne
      · rename_i hs
        rw [if_pos hs]
        unfold ends at hne ⊢
        split
        · rfl
        · rename_i h1
          rw [if_neg h1] at hne
          split
          · rfl
          · rename_i h2; rw [if_neg h2] at hne; exact absurd rfl hne
      · rename_i hs
        rw [if_neg hs]
        split
        · rfl
        · rename_i v r ht
          rw [ht] at hne
          exact ih _ _ hne
  unfold rres at h ⊢
  split
  · rfl
  · rename_i h1
    rw [if_neg h1] at h
    split
    · rfl
    · rename_i h2; rw [if_neg h2] at h; exact hr _ _ _ _ _ h

/-- Bytes that go on tell values that go on. -/
theorem enc_front (ls : Bs) : ∀ (m l : List V) (i : Nat) (t : Bs), okVals ls i m = true → okVals ls i l = true → enc ls i l = enc ls i m ++ t → ∃ k, l = m ++ k ∧ t = enc ls (i + m.length) k := by
  intro m
  induction m with
  | nil => intro l i t _ _ h; exact ⟨l, rfl, by simpa [enc] using h.symm⟩
  | cons v m ih =>
    intro l i t hm hl h
    cases l with
    | nil =>
      have hp := encV_pos (letAt ls i) v
      have := congrArg List.length h
      simp [enc] at this
      omega
    | cons x l =>
      rw [okVals, Bool.and_eq_true] at hm hl
      rw [enc, enc, List.append_assoc] at h
      have h1 := takeV_enc (letAt ls i) x (enc ls (i + 1) l) hl.1
      rw [h, takeV_enc _ _ _ hm.1] at h1
      injection h1 with h1
      injection h1 with h1 h2
      subst h1
      obtain ⟨k, hk, ht⟩ := ih l (i + 1) t hm.2 hl.2 h2.symm
      exact ⟨k, by rw [hk]; rfl, by rw [ht]; congr 1; simp; omega⟩

theorem wres_ok {f : Bs} {l : List V} {b : Bs} (h : wres f l = (0, b)) : fine f = true ∧ shape (lets f) (often f) l.length = true ∧ okVals (lets f) 0 l = true ∧ l.length ≤ 200 ∧ b = enc (lets f) 0 l := by
  unfold wres at h
  split at h
  · simp at h
  · rename_i hf
    split at h
    · simp at h
    · rename_i ho
      split at h
      · simp at h
      · rename_i hl
        simp only [Prod.mk.injEq, true_and] at h
        have ho' : (shape (lets f) (often f) l.length && okVals (lets f) 0 l) = true := by simpa using ho
        rw [Bool.and_eq_true] at ho'
        exact ⟨by simpa using hf, ho'.1, ho'.2, by omega, h.symm⟩

/-- P3.2: a front of the bytes, and the bytes that go on. -/
theorem front_of {f : Bs} {l m : List V} {b t : Bs} (hl : wres f l = (0, b ++ t)) (hm : wres f m = (0, b)) (ht : t ≠ []) : often f = true ∧ m.length < l.length ∧ l.take m.length = m := by
  obtain ⟨hf, hs, ho, _, he⟩ := wres_ok hl
  obtain ⟨_, hs', ho', _, he'⟩ := wres_ok hm
  subst he'
  obtain ⟨k, hk, htk⟩ := enc_front (lets f) m l 0 t ho' ho he.symm
  subst hk
  have hk0 : k ≠ [] := by rintro rfl; simp [enc] at htk; exact ht htk
  have hkl : 0 < k.length := List.length_pos_iff.2 hk0
  refine ⟨?_, by simp; omega, by simp⟩
  cases e : often f with
  | true => rfl
  | false =>
    rw [e] at hs hs'
    unfold shape at hs hs'
    simp at hs hs'
    omega

theorem once_read (ls : Bs) (again : Bool) : ∀ (cs pre : Bs) (acc : List V) (bs : Bs) (n : Nat), ls = pre ++ cs → bs.length < n →
    (again = true → acc.length % ls.length = pre.length % ls.length) → (again = false → acc.length = pre.length) → (pre = [] → again = true → bs ≠ []) → cs ≠ [] →
    match once cs acc bs with
    | .error e => readV ls again n acc bs = (e, [])
    | .ok (acc', r) => ∃ n', r.length < n' ∧ readV ls again n acc bs = readV ls again n' acc' r := by
  intro cs
  induction cs with
  | nil => intro pre acc bs n _ _ _ _ _ h; exact absurd rfl h
  | cons c cs ih =>
    intro pre acc bs n hls hn h1 h2 h3 _
    obtain ⟨n, rfl⟩ : ∃ k, n = k + 1 := ⟨n - 1, by omega⟩
    have hlen : ls.length = pre.length + (cs.length + 1) := by rw [hls]; simp
    have hpm : pre.length % ls.length = pre.length := Nat.mod_eq_of_lt (by omega)
    have hi : acc.length % ls.length = pre.length := by
      cases again with
      | true => rw [h1 rfl, hpm]
      | false => rw [h2 rfl, hpm]
    have hc : letAt ls acc.length = c := by
      unfold letAt
      rw [hi, hls]
      simp
    have hst : ¬ stop ls again acc.length bs = true := by
      unfold stop
      cases again with
      | true =>
        simp only [if_true, Bool.and_eq_true, decide_eq_true_eq, List.isEmpty_iff]
        rintro ⟨h4, h5⟩
        have hp : pre = [] := by
          cases pre with
          | nil => rfl
          | cons x y => simp at hi; omega
        exact h3 hp rfl h5
      | false =>
        have := h2 rfl
        simp
        omega
    rw [readV, if_neg hst, hc, once]
    cases ht : takeV c bs with
    | error e => rfl
    | ok p =>
      obtain ⟨v, r⟩ := p
      have hless := takeV_less c bs v r ht
      simp only
      cases cs with
      | nil => exact ⟨n, by omega, rfl⟩
      | cons d cs =>
        have := ih (pre ++ [c]) (acc ++ [v]) r n (by rw [hls]; simp) (by omega)
          (fun ha => by
            rw [List.length_append, List.length_append, List.length_singleton, List.length_singleton, Nat.add_mod acc.length 1, Nat.add_mod pre.length 1, h1 ha])
          (fun ha => by have := h2 ha; simp; omega) (fun hp => by simp at hp) (by simp)
        exact this

end Go.Proofs.Ythncabfeieombaa.Pk
