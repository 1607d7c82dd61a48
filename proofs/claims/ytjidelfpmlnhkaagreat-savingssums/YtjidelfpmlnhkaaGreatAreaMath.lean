/- Areas as plain mathematics: which may be, legs, tours, what is nearest. No program. -/
namespace Ar

/-- a number at a place, among those from each of n nodes to each -/
def fineB (n k : Nat) (z : Int) : Bool := decide (0 ≤ z) && decide (z ≤ 1000000) && (!(decide (k / n = k % n)) || decide (z = 0))
def rowB (n : Nat) (D : List Int) : Bool := decide (D.length = n * n) && (List.range D.length).all fun k => fineB n k (D.getD k 0)
def okB (N : Int) (D T : List Int) : Bool := decide (1 ≤ N) && decide (N ≤ 16) && rowB N.toNat D && rowB N.toNat T
def hasB (N x : Int) : Bool := decide (0 ≤ x) && decide (x < N)
def insB (N : Int) (l : List Int) : Bool := l.all (hasB N)

theorem fine_iff (n k : Nat) (z : Int) : fineB n k z = true ↔ 0 ≤ z ∧ z ≤ 1000000 ∧ (k / n = k % n → z = 0) := by
  unfold fineB
  by_cases h : k / n = k % n <;> simp [h]
  · omega
theorem row_iff (n : Nat) (D : List Int) : rowB n D = true ↔ D.length = n * n ∧ ∀ k, k < D.length → fineB n k (D.getD k 0) = true := by
  unfold rowB
  simp
theorem row_len {n : Nat} {D : List Int} (h : D.length ≠ n * n) : rowB n D = false := by
  rw [Bool.eq_false_iff]
  intro e
  exact h ((row_iff n D).1 e).1
theorem row_at {n k : Nat} {D : List Int} (hk : k < D.length) (h : fineB n k (D.getD k 0) = false) : rowB n D = false := by
  rw [Bool.eq_false_iff]
  intro e
  have := ((row_iff n D).1 e).2 k hk
  rw [h] at this
  cases this
theorem ok_iff (N : Int) (D T : List Int) : okB N D T = true ↔ 1 ≤ N ∧ N ≤ 16 ∧ rowB N.toNat D = true ∧ rowB N.toNat T = true := by
  unfold okB
  simp [and_assoc]
theorem has_iff (N x : Int) : hasB N x = true ↔ 0 ≤ x ∧ x < N := by
  unfold hasB
  simp
theorem has_not (N x : Int) : hasB N x = false ↔ x < 0 ∨ N ≤ x := by
  rw [← Bool.not_eq_true, has_iff]
  omega
theorem ins_iff (N : Int) (l : List Int) : insB N l = true ↔ ∀ x ∈ l, hasB N x = true := by
  unfold insB
  simp
theorem ins_not {N x : Int} {l : List Int} (hx : x ∈ l) (h : hasB N x = false) : insB N l = false := by
  rw [Bool.eq_false_iff]
  intro e
  have := (ins_iff N l).1 e x hx
  rw [h] at this
  cases this
theorem ins_app (N : Int) (l m : List Int) : insB N (l ++ m) = (insB N l && insB N m) := by unfold insB; rw [List.all_append]
theorem ins_cons (N x : Int) (l : List Int) : insB N (x :: l) = (hasB N x && insB N l) := rfl
theorem ins_nil (N : Int) : insB N [] = true := rfl

def checkE (N : Int) (D T : List Int) : Int := if okB N D T = true then 0 else 1
theorem check_yes {N : Int} {D T : List Int} (h : okB N D T = true) : checkE N D T = 0 := by unfold checkE; rw [h]; rfl
theorem check_no {N : Int} {D T : List Int} (h : okB N D T = false) : checkE N D T = 1 := by unfold checkE; rw [h]; rfl

/-- what is told of nodes -/
def toldE (N : Int) (D T l : List Int) : Int := if okB N D T = true then (if insB N l = true then 0 else 5) else 1

theorem told_arg {N : Int} {D T l : List Int} (h : okB N D T = false) : toldE N D T l = 1 := by unfold toldE; rw [h]; simp
theorem told_ok {N : Int} {D T l : List Int} (h : okB N D T = true) (h2 : insB N l = true) : toldE N D T l = 0 := by unfold toldE; rw [h, h2]; simp
theorem told_name {N : Int} {D T l : List Int} (h : okB N D T = true) (h2 : insB N l = false) : toldE N D T l = 5 := by unfold toldE; rw [h, h2]; simp

/-- the number from a node to a node -/
def at2 (N : Int) (D : List Int) (f t : Int) : Int := D.getD (f * N + t).toNat 0

structure Ok (N : Int) (D T : List Int) (n : Nat) : Prop where
  cast : N = (n : Int)
  n1 : 1 ≤ n
  n16 : n ≤ 16
  dl : D.length = n * n
  tl : T.length = n * n
  df : ∀ k, k < n * n → 0 ≤ D.getD k 0 ∧ D.getD k 0 ≤ 1000000
  tf : ∀ k, k < n * n → 0 ≤ T.getD k 0 ∧ T.getD k 0 ≤ 1000000
  dz : ∀ k, k < n * n → k / n = k % n → D.getD k 0 = 0
  tz : ∀ k, k < n * n → k / n = k % n → T.getD k 0 = 0
theorem ok_of {N : Int} {D T : List Int} (h : okB N D T = true) : Ok N D T N.toNat := by
  obtain ⟨h1, h2, h3, h4⟩ := (ok_iff N D T).1 h
  obtain ⟨d1, d2⟩ := (row_iff _ D).1 h3
  obtain ⟨t1, t2⟩ := (row_iff _ T).1 h4
  rw [d1] at d2
  rw [t1] at t2
  exact ⟨by omega, by omega, by omega, d1, t1, fun k hk => by have := (fine_iff _ _ _).1 (d2 k hk); omega, fun k hk => by have := (fine_iff _ _ _).1 (t2 k hk); omega,
    fun k hk e => ((fine_iff _ _ _).1 (d2 k hk)).2.2 e, fun k hk e => ((fine_iff _ _ _).1 (t2 k hk)).2.2 e⟩

theorem place_lt {n f t : Nat} (hf : f < n) (ht : t < n) : f * n + t < n * n := by
  have : (f + 1) * n ≤ n * n := Nat.mul_le_mul_right n hf
  rw [Nat.succ_mul] at this
  omega
theorem place_le {n f t : Nat} (hn : n ≤ 16) (hf : f < n) (ht : t < n) : f * n ≤ 256 ∧ f * n + t ≤ 256 := by
  have := place_lt hf ht
  have h2 : n * n ≤ 16 * 16 := Nat.mul_le_mul hn hn
  omega
theorem at2_eq {N : Int} {D : List Int} {n f t : Nat} (hN : N = (n : Int)) : at2 N D (f : Int) (t : Int) = D.getD (f * n + t) 0 := by
  subst hN
  unfold at2
  congr 1
theorem has_nat {N x : Int} {n : Nat} (hN : N = (n : Int)) (h : hasB N x = true) : ∃ k : Nat, x = (k : Int) ∧ k < n := by
  obtain ⟨h1, h2⟩ := (has_iff N x).1 h
  exact ⟨x.toNat, by omega, by omega⟩
theorem Ok.at_d {N : Int} {D T : List Int} {n : Nat} (h : Ok N D T n) {f t : Int} (hf : hasB N f = true) (ht : hasB N t = true) : 0 ≤ at2 N D f t ∧ at2 N D f t ≤ 1000000 := by
  obtain ⟨i, rfl, hi⟩ := has_nat h.cast hf
  obtain ⟨j, rfl, hj⟩ := has_nat h.cast ht
  rw [at2_eq h.cast]
  exact h.df _ (place_lt hi hj)
theorem Ok.at_t {N : Int} {D T : List Int} {n : Nat} (h : Ok N D T n) {f t : Int} (hf : hasB N f = true) (ht : hasB N t = true) : 0 ≤ at2 N T f t ∧ at2 N T f t ≤ 1000000 := by
  obtain ⟨i, rfl, hi⟩ := has_nat h.cast hf
  obtain ⟨j, rfl, hj⟩ := has_nat h.cast ht
  rw [at2_eq h.cast]
  exact h.tf _ (place_lt hi hj)
theorem Ok.has0 {N : Int} {D T : List Int} {n : Nat} (h : Ok N D T n) : hasB N 0 = true := (has_iff N 0).2 (by have := h.cast; have := h.n1; omega)
theorem Ok.d00 {N : Int} {D T : List Int} {n : Nat} (h : Ok N D T n) : at2 N D 0 0 = 0 := by
  have := at2_eq (D := D) (f := 0) (t := 0) h.cast
  have h1 := h.n1
  rw [show ((0 : Nat) : Int) = 0 from rfl] at this
  rw [this]
  exact h.dz _ (by simpa using Nat.mul_pos h1 h1) (by simp)
theorem Ok.t00 {N : Int} {D T : List Int} {n : Nat} (h : Ok N D T n) : at2 N T 0 0 = 0 := by
  have := at2_eq (D := T) (f := 0) (t := 0) h.cast
  have h1 := h.n1
  rw [show ((0 : Nat) : Int) = 0 from rfl] at this
  rw [this]
  exact h.tz _ (by simpa using Nat.mul_pos h1 h1) (by simp)

/-- legs one behind the other -/
def goes (f : Int) : List Int → List (Int × Int)
  | [] => []
  | x :: r => (f, x) :: goes x r
def lastOf (f : Int) : List Int → Int
  | [] => f
  | x :: r => lastOf x r
theorem goes_app : ∀ (l m : List Int) (f : Int), goes f (l ++ m) = goes f l ++ goes (lastOf f l) m := by
  intro l
  induction l with
  | nil => intro m f; rfl
  | cons x r ih => intro m f; simp [goes, lastOf, ih]
theorem lastOf_app : ∀ (l m : List Int) (f : Int), lastOf f (l ++ m) = lastOf (lastOf f l) m := by
  intro l
  induction l with
  | nil => intro m f; rfl
  | cons x r ih => intro m f; simp [lastOf, ih]
theorem goes_snoc (l : List Int) (x f : Int) : goes f (l ++ [x]) = goes f l ++ [(lastOf f l, x)] := by rw [goes_app]; rfl
theorem lastOf_snoc (l : List Int) (x f : Int) : lastOf f (l ++ [x]) = x := by rw [lastOf_app]; rfl
theorem goes_length : ∀ (l : List Int) (f : Int), (goes f l).length = l.length := by
  intro l
  induction l with
  | nil => intro f; rfl
  | cons x r ih => intro f; simp [goes, ih]
theorem lastOf_mem : ∀ (l : List Int) (f : Int), lastOf f l = f ∨ lastOf f l ∈ l := by
  intro l
  induction l with
  | nil => intro f; exact .inl rfl
  | cons x r ih =>
    intro f
    right
    show lastOf x r ∈ x :: r
    rcases ih x with h | h
    · rw [h]; simp
    · simp [h]
theorem goes_mem : ∀ (l : List Int) (f : Int) (p : Int × Int), p ∈ goes f l → (p.1 = f ∨ p.1 ∈ l) ∧ p.2 ∈ l := by
  intro l
  induction l with
  | nil => intro f p h; cases h
  | cons x r ih =>
    intro f p h
    rcases List.mem_cons.1 h with rfl | h
    · exact ⟨.inl rfl, by simp⟩
    · obtain ⟨h1, h2⟩ := ih x p h
      refine ⟨.inr ?_, by simp [h2]⟩
      rcases h1 with h1 | h1
      · rw [h1]; simp
      · simp [h1]

def sumX (N : Int) (D : List Int) (xs : List (Int × Int)) : Int := (xs.map fun p => at2 N D p.1 p.2).sum
theorem sumX_nil (N : Int) (D : List Int) : sumX N D [] = 0 := rfl
theorem sumX_app (N : Int) (D : List Int) (xs ys : List (Int × Int)) : sumX N D (xs ++ ys) = sumX N D xs + sumX N D ys := by unfold sumX; rw [List.map_append, List.sum_append]
theorem sumX_snoc (N : Int) (D : List Int) (xs : List (Int × Int)) (p : Int × Int) : sumX N D (xs ++ [p]) = sumX N D xs + at2 N D p.1 p.2 := by rw [sumX_app]; simp [sumX]
def InsX (N : Int) (xs : List (Int × Int)) : Prop := ∀ p ∈ xs, hasB N p.1 = true ∧ hasB N p.2 = true
theorem sumX_bd {N : Int} {D T : List Int} {n : Nat} (h : Ok N D T n) : ∀ (xs : List (Int × Int)), InsX N xs → (0 ≤ sumX N D xs ∧ sumX N D xs ≤ xs.length * 1000000) ∧ (0 ≤ sumX N T xs ∧ sumX N T xs ≤ xs.length * 1000000) := by
  intro xs
  induction xs with
  | nil => intro _; simp [sumX]
  | cons p r ih =>
    intro hi
    obtain ⟨h1, h2⟩ := ih (fun q hq => hi q (by simp [hq]))
    obtain ⟨hf, ht⟩ := hi p (by simp)
    have hd := h.at_d hf ht
    have hT := h.at_t hf ht
    have e1 : sumX N D (p :: r) = at2 N D p.1 p.2 + sumX N D r := rfl
    have e2 : sumX N T (p :: r) = at2 N T p.1 p.2 + sumX N T r := rfl
    rw [e1, e2, List.length_cons]
    omega
theorem insX_goes {N : Int} {l : List Int} {f : Int} (hf : hasB N f = true) (hl : insB N l = true) : InsX N (goes f l) := by
  intro p hp
  obtain ⟨h1, h2⟩ := goes_mem l f p hp
  refine ⟨?_, (ins_iff N l).1 hl _ h2⟩
  rcases h1 with h1 | h1
  · rw [h1]; exact hf
  · exact (ins_iff N l).1 hl _ h1

/-- a tour's legs: out of the depot, and back to it -/
def tourX (l : List Int) : List (Int × Int) := goes 0 (l ++ [0])
theorem tourX_eq (l : List Int) : tourX l = goes 0 l ++ [(lastOf 0 l, 0)] := goes_snoc l 0 0
theorem tourX_parts (l m : List Int) : tourX (l ++ 0 :: m) = tourX l ++ tourX m := by
  unfold tourX
  rw [show l ++ 0 :: m ++ [0] = (l ++ [0]) ++ (m ++ [0]) by simp, goes_app, lastOf_snoc]
theorem tourX_nil : tourX [] = [(0, 0)] := rfl
theorem tourX_len (l : List Int) : (tourX l).length = l.length + 1 := by unfold tourX; rw [goes_length]; simp
theorem insX_tour {N : Int} {l : List Int} (h0 : hasB N 0 = true) (hl : insB N l = true) : InsX N (tourX l) :=
  insX_goes h0 (by rw [ins_app, hl, ins_cons, h0]; rfl)

def legS (N : Int) (D T : List Int) (f t : Int) : Int × Int × Int := if toldE N D T [f, t] = 0 then (at2 N D f t, at2 N T f t, 0) else (0, 0, toldE N D T [f, t])
def tourS (N : Int) (D T l : List Int) : Int × Int × Int :=
  if toldE N D T l = 0 then (if 100 < l.length then (0, 0, 4) else (sumX N D (tourX l), sumX N T (tourX l), 0)) else (0, 0, toldE N D T l)

/-- the least so far -/
def step (N : Int) (D : List Int) (to : Int) (a x : Int) : Int := if x = to then a else if a = -1 ∨ at2 N D x to < a then at2 N D x to else a
def nearF (N : Int) (D : List Int) (to : Int) (l : List Int) : Int := l.foldl (step N D to) (-1)
theorem nearF_nil (N : Int) (D : List Int) (to : Int) : nearF N D to [] = -1 := rfl
theorem nearF_snoc (N : Int) (D : List Int) (to : Int) (l : List Int) (x : Int) : nearF N D to (l ++ [x]) = step N D to (nearF N D to l) x := by unfold nearF; rw [List.foldl_append]; rfl
def nearS (N : Int) (D T : List Int) (to : Int) (l : List Int) : Int × Int :=
  if toldE N D T l = 0 then (if hasB N to = true then (if 100 < l.length then (0, 4) else (if nearF N D to l = -1 then (0, 2) else (nearF N D to l, 0))) else (0, 5)) else (0, toldE N D T l)

theorem snoc_ind {α : Type} {P : List α → Prop} (h0 : P []) (h1 : ∀ l x, P l → P (l ++ [x])) (l : List α) : P l := by
  rw [← List.reverse_reverse l]
  generalize l.reverse = m
  induction m with
  | nil => exact h0
  | cons x r ih => rw [List.reverse_cons]; exact h1 _ _ ih

theorem near_inv {N : Int} {D T : List Int} {n : Nat} (h : Ok N D T n) {to : Int} (ht : hasB N to = true) : ∀ (l : List Int), insB N l = true →
    (nearF N D to l = -1 ∧ ∀ x ∈ l, x = to) ∨ (0 ≤ nearF N D to l ∧ nearF N D to l ≤ 1000000 ∧ (∀ x ∈ l, x ≠ to → nearF N D to l ≤ at2 N D x to) ∧ ∃ x ∈ l, x ≠ to ∧ at2 N D x to = nearF N D to l) := by
  intro l
  induction l using snoc_ind with
  | h0 => intro _; exact .inl ⟨rfl, fun x hx => by cases hx⟩
  | h1 l x ih =>
    intro hi
    rw [ins_app, Bool.and_eq_true, ins_cons, Bool.and_eq_true] at hi
    obtain ⟨hl, hx, _⟩ := hi
    have hd := h.at_d hx ht
    rw [nearF_snoc]
    unfold step
    by_cases hxt : x = to
    · rw [if_pos hxt]
      rcases ih hl with ⟨h1, h2⟩ | ⟨h1, h2, h3, y, hy, h4, h5⟩
      · left
        refine ⟨h1, fun z hz => ?_⟩
        rcases List.mem_append.1 hz with hz | hz
        · exact h2 z hz
        · rw [List.mem_singleton.1 hz]; exact hxt
      · right
        refine ⟨h1, h2, fun z hz hzt => ?_, y, by simp [hy], h4, h5⟩
        rcases List.mem_append.1 hz with hz | hz
        · exact h3 z hz hzt
        · rw [List.mem_singleton.1 hz] at hzt; exact absurd hxt hzt
    · rw [if_neg hxt]
      right
      rcases ih hl with ⟨h1, h2⟩ | ⟨h1, h2, h3, y, hy, h4, h5⟩
      · rw [if_pos (.inl h1)]
        refine ⟨hd.1, hd.2, fun z hz hzt => ?_, x, by simp, hxt, rfl⟩
        rcases List.mem_append.1 hz with hz | hz
        · exact absurd (h2 z hz) hzt
        · rw [List.mem_singleton.1 hz]; exact Int.le_refl _
      · by_cases hlt : at2 N D x to < nearF N D to l
        · rw [if_pos (.inr hlt)]
          refine ⟨hd.1, hd.2, fun z hz hzt => ?_, x, by simp, hxt, rfl⟩
          rcases List.mem_append.1 hz with hz | hz
          · have := h3 z hz hzt; omega
          · rw [List.mem_singleton.1 hz]; exact Int.le_refl _
        · rw [if_neg (by omega)]
          refine ⟨h1, h2, fun z hz hzt => ?_, y, by simp [hy], h4, h5⟩
          rcases List.mem_append.1 hz with hz | hz
          · exact h3 z hz hzt
          · rw [List.mem_singleton.1 hz]; omega

theorem take_snoc {α : Type} (l : List α) (k : Nat) (x : α) (h : l[k]? = some x) : l.take (k + 1) = l.take k ++ [x] := by
  obtain ⟨hk, rfl⟩ := List.getElem?_eq_some_iff.1 h
  exact List.take_succ_eq_append_getElem hk
theorem some_at {α : Type} (l : List α) (k : Nat) (h : k < l.length) : ∃ x, l[k]? = some x ∧ x ∈ l := ⟨l[k], List.getElem?_eq_getElem h, List.getElem_mem h⟩
theorem getD_of {l : List Int} {k : Nat} {x : Int} (h : l[k]? = some x) : l.getD k 0 = x := by rw [List.getD_eq_getElem?_getD, h]; rfl
theorem ins_take {N : Int} {l : List Int} (h : insB N l = true) (k : Nat) : insB N (l.take k) = true := (ins_iff _ _).2 fun x hx => (ins_iff _ _).1 h x (List.mem_of_mem_take hx)
end Ar
