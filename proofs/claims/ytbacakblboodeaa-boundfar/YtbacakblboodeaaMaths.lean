/- Texts joined: Areas as plain mathematics: which may be, legs, tours, what is nearest. Plain arithmetic behind package money: what Add, Mul, Sum and Share tell, as functions on whole numbers. Plain mathematics behind package load: which orders, trucks and worlds may be, what orders weigh together, where one is. Plain mathematics behind package route: visits, trips, which route can be run. Plain mathematics behind the laws of package route: what a run holds, its first stops, an earlier start. Plain mathematics behind package plan: lists that rise, whom a plan serves, what it costs, which is better. Plain mathematics behind package bound: least numbers, the certificate of some orders, whether one holds, and that a bound that holds is at most what a plan costs. Plain mathematics behind package bound: the bound of a certificate that holds is at most what each plan costs that may be and serves just its orders; what the document's own test of a certificate comes to. Plain mathematics of stage 12: what the document's Make and Holds look at, one thing after another. Plain mathematics of stage 12: where all nodes are as far from one another. Plain mathematics of stage 12: what the law of like distances looks at. -/

section
/-! Areas as plain mathematics: which may be, legs, tours, what is nearest. No program. -/
namespace Ar

/-- a number at a place, among those from each of n nodes to each -/
def fineB (n k : Nat) (z : Int) : Bool := decide (0 ≤ z) && decide (z ≤ 1000000) && (!(decide (k / n = k % n)) || decide (z = 0))
def rowB (n : Nat) (D : List Int) : Bool := decide (D.length = n * n) && (List.range D.length).all fun k => fineB n k (D.getD k 0)
def okB (N : Int) (D T : List Int) : Bool := decide (1 ≤ N) && decide (N ≤ 16) && rowB N.toNat D && rowB N.toNat T
def hasB (N x : Int) : Bool := decide (0 ≤ x) && decide (x < N)
def insB (N : Int) (l : List Int) : Bool := l.all (hasB N)

theorem fine_iff (n k : Nat) (z : Int) : fineB n k z = true ↔ 0 ≤ z ∧ z ≤ 1000000 ∧ (k / n = k % n → z = 0) := by
  unfold fineB
  by_cases h : k / n = k % n <;> simp [h]
  · omega
theorem row_iff (n : Nat) (D : List Int) : rowB n D = true ↔ D.length = n * n ∧ ∀ k, k < D.length → fineB n k (D.getD k 0) = true := by
  unfold rowB
  simp
theorem row_len {n : Nat} {D : List Int} (h : D.length ≠ n * n) : rowB n D = false := by
  rw [Bool.eq_false_iff]
  intro e
  exact h ((row_iff n D).1 e).1
theorem row_at {n k : Nat} {D : List Int} (hk : k < D.length) (h : fineB n k (D.getD k 0) = false) : rowB n D = false := by
  rw [Bool.eq_false_iff]
  intro e
  have := ((row_iff n D).1 e).2 k hk
  rw [h] at this
  cases this
theorem ok_iff (N : Int) (D T : List Int) : okB N D T = true ↔ 1 ≤ N ∧ N ≤ 16 ∧ rowB N.toNat D = true ∧ rowB N.toNat T = true := by
  unfold okB
  simp [and_assoc]
theorem has_iff (N x : Int) : hasB N x = true ↔ 0 ≤ x ∧ x < N := by
  unfold hasB
  simp
theorem has_not (N x : Int) : hasB N x = false ↔ x < 0 ∨ N ≤ x := by
  rw [← Bool.not_eq_true, has_iff]
  omega
theorem ins_iff (N : Int) (l : List Int) : insB N l = true ↔ ∀ x ∈ l, hasB N x = true := by
  unfold insB
  simp
theorem ins_not {N x : Int} {l : List Int} (hx : x ∈ l) (h : hasB N x = false) : insB N l = false := by
  rw [Bool.eq_false_iff]
  intro e
  have := (ins_iff N l).1 e x hx
  rw [h] at this
  cases this
theorem ins_app (N : Int) (l m : List Int) : insB N (l ++ m) = (insB N l && insB N m) := by unfold insB; rw [List.all_append]
theorem ins_cons (N x : Int) (l : List Int) : insB N (x :: l) = (hasB N x && insB N l) := rfl
theorem ins_nil (N : Int) : insB N [] = true := rfl

def checkE (N : Int) (D T : List Int) : Int := if okB N D T = true then 0 else 1
theorem check_yes {N : Int} {D T : List Int} (h : okB N D T = true) : checkE N D T = 0 := by unfold checkE; rw [h]; rfl
theorem check_no {N : Int} {D T : List Int} (h : okB N D T = false) : checkE N D T = 1 := by unfold checkE; rw [h]; rfl

/-- what is told of nodes -/
def toldE (N : Int) (D T l : List Int) : Int := if okB N D T = true then (if insB N l = true then 0 else 5) else 1

theorem told_arg {N : Int} {D T l : List Int} (h : okB N D T = false) : toldE N D T l = 1 := by unfold toldE; rw [h]; simp
theorem told_ok {N : Int} {D T l : List Int} (h : okB N D T = true) (h2 : insB N l = true) : toldE N D T l = 0 := by unfold toldE; rw [h, h2]; simp
theorem told_name {N : Int} {D T l : List Int} (h : okB N D T = true) (h2 : insB N l = false) : toldE N D T l = 5 := by unfold toldE; rw [h, h2]; simp

/-- the number from a node to a node -/
def at2 (N : Int) (D : List Int) (f t : Int) : Int := D.getD (f * N + t).toNat 0

structure Ok (N : Int) (D T : List Int) (n : Nat) : Prop where
  cast : N = (n : Int)
  n1 : 1 ≤ n
  n16 : n ≤ 16
  dl : D.length = n * n
  tl : T.length = n * n
  df : ∀ k, k < n * n → 0 ≤ D.getD k 0 ∧ D.getD k 0 ≤ 1000000
  tf : ∀ k, k < n * n → 0 ≤ T.getD k 0 ∧ T.getD k 0 ≤ 1000000
  dz : ∀ k, k < n * n → k / n = k % n → D.getD k 0 = 0
  tz : ∀ k, k < n * n → k / n = k % n → T.getD k 0 = 0
theorem ok_of {N : Int} {D T : List Int} (h : okB N D T = true) : Ok N D T N.toNat := by
  obtain ⟨h1, h2, h3, h4⟩ := (ok_iff N D T).1 h
  obtain ⟨d1, d2⟩ := (row_iff _ D).1 h3
  obtain ⟨t1, t2⟩ := (row_iff _ T).1 h4
  rw [d1] at d2
  rw [t1] at t2
  exact ⟨by omega, by omega, by omega, d1, t1, fun k hk => by have := (fine_iff _ _ _).1 (d2 k hk); omega, fun k hk => by have := (fine_iff _ _ _).1 (t2 k hk); omega,
    fun k hk e => ((fine_iff _ _ _).1 (d2 k hk)).2.2 e, fun k hk e => ((fine_iff _ _ _).1 (t2 k hk)).2.2 e⟩

theorem place_lt {n f t : Nat} (hf : f < n) (ht : t < n) : f * n + t < n * n := by
  have : (f + 1) * n ≤ n * n := Nat.mul_le_mul_right n hf
  rw [Nat.succ_mul] at this
  omega
theorem place_le {n f t : Nat} (hn : n ≤ 16) (hf : f < n) (ht : t < n) : f * n ≤ 256 ∧ f * n + t ≤ 256 := by
  have := place_lt hf ht
  have h2 : n * n ≤ 16 * 16 := Nat.mul_le_mul hn hn
  omega
theorem at2_eq {N : Int} {D : List Int} {n f t : Nat} (hN : N = (n : Int)) : at2 N D (f : Int) (t : Int) = D.getD (f * n + t) 0 := by
  subst hN
  unfold at2
  congr 1
theorem has_nat {N x : Int} {n : Nat} (hN : N = (n : Int)) (h : hasB N x = true) : ∃ k : Nat, x = (k : Int) ∧ k < n := by
  obtain ⟨h1, h2⟩ := (has_iff N x).1 h
  exact ⟨x.toNat, by omega, by omega⟩
theorem Ok.at_d {N : Int} {D T : List Int} {n : Nat} (h : Ok N D T n) {f t : Int} (hf : hasB N f = true) (ht : hasB N t = true) : 0 ≤ at2 N D f t ∧ at2 N D f t ≤ 1000000 := by
  obtain ⟨i, rfl, hi⟩ := has_nat h.cast hf
  obtain ⟨j, rfl, hj⟩ := has_nat h.cast ht
  rw [at2_eq h.cast]
  exact h.df _ (place_lt hi hj)
theorem Ok.at_t {N : Int} {D T : List Int} {n : Nat} (h : Ok N D T n) {f t : Int} (hf : hasB N f = true) (ht : hasB N t = true) : 0 ≤ at2 N T f t ∧ at2 N T f t ≤ 1000000 := by
  obtain ⟨i, rfl, hi⟩ := has_nat h.cast hf
  obtain ⟨j, rfl, hj⟩ := has_nat h.cast ht
  rw [at2_eq h.cast]
  exact h.tf _ (place_lt hi hj)
theorem Ok.has0 {N : Int} {D T : List Int} {n : Nat} (h : Ok N D T n) : hasB N 0 = true := (has_iff N 0).2 (by have := h.cast; have := h.n1; omega)
theorem Ok.d00 {N : Int} {D T : List Int} {n : Nat} (h : Ok N D T n) : at2 N D 0 0 = 0 := by
  have := at2_eq (D := D) (f := 0) (t := 0) h.cast
  have h1 := h.n1
  rw [show ((0 : Nat) : Int) = 0 from rfl] at this
  rw [this]
  exact h.dz _ (by simpa using Nat.mul_pos h1 h1) (by simp)
theorem Ok.t00 {N : Int} {D T : List Int} {n : Nat} (h : Ok N D T n) : at2 N T 0 0 = 0 := by
  have := at2_eq (D := T) (f := 0) (t := 0) h.cast
  have h1 := h.n1
  rw [show ((0 : Nat) : Int) = 0 from rfl] at this
  rw [this]
  exact h.tz _ (by simpa using Nat.mul_pos h1 h1) (by simp)

/-- legs one behind the other -/
def goes (f : Int) : List Int → List (Int × Int)
  | [] => []
  | x :: r => (f, x) :: goes x r
def lastOf (f : Int) : List Int → Int
  | [] => f
  | x :: r => lastOf x r
theorem goes_app : ∀ (l m : List Int) (f : Int), goes f (l ++ m) = goes f l ++ goes (lastOf f l) m := by
  intro l
  induction l with
  | nil => intro m f; rfl
  | cons x r ih => intro m f; simp [goes, lastOf, ih]
theorem lastOf_app : ∀ (l m : List Int) (f : Int), lastOf f (l ++ m) = lastOf (lastOf f l) m := by
  intro l
  induction l with
  | nil => intro m f; rfl
  | cons x r ih => intro m f; simp [lastOf, ih]
theorem goes_snoc (l : List Int) (x f : Int) : goes f (l ++ [x]) = goes f l ++ [(lastOf f l, x)] := by rw [goes_app]; rfl
theorem lastOf_snoc (l : List Int) (x f : Int) : lastOf f (l ++ [x]) = x := by rw [lastOf_app]; rfl
theorem goes_length : ∀ (l : List Int) (f : Int), (goes f l).length = l.length := by
  intro l
  induction l with
  | nil => intro f; rfl
  | cons x r ih => intro f; simp [goes, ih]
theorem lastOf_mem : ∀ (l : List Int) (f : Int), lastOf f l = f ∨ lastOf f l ∈ l := by
  intro l
  induction l with
  | nil => intro f; exact .inl rfl
  | cons x r ih =>
    intro f
    right
    show lastOf x r ∈ x :: r
    rcases ih x with h | h
    · rw [h]; simp
    · simp [h]
theorem goes_mem : ∀ (l : List Int) (f : Int) (p : Int × Int), p ∈ goes f l → (p.1 = f ∨ p.1 ∈ l) ∧ p.2 ∈ l := by
  intro l
  induction l with
  | nil => intro f p h; cases h
  | cons x r ih =>
    intro f p h
    rcases List.mem_cons.1 h with rfl | h
    · exact ⟨.inl rfl, by simp⟩
    · obtain ⟨h1, h2⟩ := ih x p h
      refine ⟨.inr ?_, by simp [h2]⟩
      rcases h1 with h1 | h1
      · rw [h1]; simp
      · simp [h1]

def sumX (N : Int) (D : List Int) (xs : List (Int × Int)) : Int := (xs.map fun p => at2 N D p.1 p.2).sum
theorem sumX_nil (N : Int) (D : List Int) : sumX N D [] = 0 := rfl
theorem sumX_app (N : Int) (D : List Int) (xs ys : List (Int × Int)) : sumX N D (xs ++ ys) = sumX N D xs + sumX N D ys := by unfold sumX; rw [List.map_append, List.sum_append]
theorem sumX_snoc (N : Int) (D : List Int) (xs : List (Int × Int)) (p : Int × Int) : sumX N D (xs ++ [p]) = sumX N D xs + at2 N D p.1 p.2 := by rw [sumX_app]; simp [sumX]
def InsX (N : Int) (xs : List (Int × Int)) : Prop := ∀ p ∈ xs, hasB N p.1 = true ∧ hasB N p.2 = true
theorem sumX_bd {N : Int} {D T : List Int} {n : Nat} (h : Ok N D T n) : ∀ (xs : List (Int × Int)), InsX N xs → (0 ≤ sumX N D xs ∧ sumX N D xs ≤ xs.length * 1000000) ∧ (0 ≤ sumX N T xs ∧ sumX N T xs ≤ xs.length * 1000000) := by
  intro xs
  induction xs with
  | nil => intro _; simp [sumX]
  | cons p r ih =>
    intro hi
    obtain ⟨h1, h2⟩ := ih (fun q hq => hi q (by simp [hq]))
    obtain ⟨hf, ht⟩ := hi p (by simp)
    have hd := h.at_d hf ht
    have hT := h.at_t hf ht
    have e1 : sumX N D (p :: r) = at2 N D p.1 p.2 + sumX N D r := rfl
    have e2 : sumX N T (p :: r) = at2 N T p.1 p.2 + sumX N T r := rfl
    rw [e1, e2, List.length_cons]
    omega
theorem insX_goes {N : Int} {l : List Int} {f : Int} (hf : hasB N f = true) (hl : insB N l = true) : InsX N (goes f l) := by
  intro p hp
  obtain ⟨h1, h2⟩ := goes_mem l f p hp
  refine ⟨?_, (ins_iff N l).1 hl _ h2⟩
  rcases h1 with h1 | h1
  · rw [h1]; exact hf
  · exact (ins_iff N l).1 hl _ h1

/-- a tour's legs: out of the depot, and back to it -/
def tourX (l : List Int) : List (Int × Int) := goes 0 (l ++ [0])
theorem tourX_eq (l : List Int) : tourX l = goes 0 l ++ [(lastOf 0 l, 0)] := goes_snoc l 0 0
theorem tourX_parts (l m : List Int) : tourX (l ++ 0 :: m) = tourX l ++ tourX m := by
  unfold tourX
  rw [show l ++ 0 :: m ++ [0] = (l ++ [0]) ++ (m ++ [0]) by simp, goes_app, lastOf_snoc]
theorem tourX_nil : tourX [] = [(0, 0)] := rfl
theorem tourX_len (l : List Int) : (tourX l).length = l.length + 1 := by unfold tourX; rw [goes_length]; simp
theorem insX_tour {N : Int} {l : List Int} (h0 : hasB N 0 = true) (hl : insB N l = true) : InsX N (tourX l) :=
  insX_goes h0 (by rw [ins_app, hl, ins_cons, h0]; rfl)

def legS (N : Int) (D T : List Int) (f t : Int) : Int × Int × Int := if toldE N D T [f, t] = 0 then (at2 N D f t, at2 N T f t, 0) else (0, 0, toldE N D T [f, t])
def tourS (N : Int) (D T l : List Int) : Int × Int × Int :=
  if toldE N D T l = 0 then (if 100 < l.length then (0, 0, 4) else (sumX N D (tourX l), sumX N T (tourX l), 0)) else (0, 0, toldE N D T l)

/-- the least so far -/
def step (N : Int) (D : List Int) (to : Int) (a x : Int) : Int := if x = to then a else if a = -1 ∨ at2 N D x to < a then at2 N D x to else a
def nearF (N : Int) (D : List Int) (to : Int) (l : List Int) : Int := l.foldl (step N D to) (-1)
theorem nearF_nil (N : Int) (D : List Int) (to : Int) : nearF N D to [] = -1 := rfl
theorem nearF_snoc (N : Int) (D : List Int) (to : Int) (l : List Int) (x : Int) : nearF N D to (l ++ [x]) = step N D to (nearF N D to l) x := by unfold nearF; rw [List.foldl_append]; rfl
def nearS (N : Int) (D T : List Int) (to : Int) (l : List Int) : Int × Int :=
  if toldE N D T l = 0 then (if hasB N to = true then (if 100 < l.length then (0, 4) else (if nearF N D to l = -1 then (0, 2) else (nearF N D to l, 0))) else (0, 5)) else (0, toldE N D T l)

theorem snoc_ind {α : Type} {P : List α → Prop} (h0 : P []) (h1 : ∀ l x, P l → P (l ++ [x])) (l : List α) : P l := by
  rw [← List.reverse_reverse l]
  generalize l.reverse = m
  induction m with
  | nil => exact h0
  | cons x r ih => rw [List.reverse_cons]; exact h1 _ _ ih

theorem near_inv {N : Int} {D T : List Int} {n : Nat} (h : Ok N D T n) {to : Int} (ht : hasB N to = true) : ∀ (l : List Int), insB N l = true →
    (nearF N D to l = -1 ∧ ∀ x ∈ l, x = to) ∨ (0 ≤ nearF N D to l ∧ nearF N D to l ≤ 1000000 ∧ (∀ x ∈ l, x ≠ to → nearF N D to l ≤ at2 N D x to) ∧ ∃ x ∈ l, x ≠ to ∧ at2 N D x to = nearF N D to l) := by
  intro l
  induction l using snoc_ind with
  | h0 => intro _; exact .inl ⟨rfl, fun x hx => by cases hx⟩
  | h1 l x ih =>
    intro hi
    rw [ins_app, Bool.and_eq_true, ins_cons, Bool.and_eq_true] at hi
    obtain ⟨hl, hx, _⟩ := hi
    have hd := h.at_d hx ht
    rw [nearF_snoc]
    unfold step
    by_cases hxt : x = to
    · rw [if_pos hxt]
      rcases ih hl with ⟨h1, h2⟩ | ⟨h1, h2, h3, y, hy, h4, h5⟩
      · left
        refine ⟨h1, fun z hz => ?_⟩
        rcases List.mem_append.1 hz with hz | hz
        · exact h2 z hz
        · rw [List.mem_singleton.1 hz]; exact hxt
      · right
        refine ⟨h1, h2, fun z hz hzt => ?_, y, by simp [hy], h4, h5⟩
        rcases List.mem_append.1 hz with hz | hz
        · exact h3 z hz hzt
        · rw [List.mem_singleton.1 hz] at hzt; exact absurd hxt hzt
    · rw [if_neg hxt]
      right
      rcases ih hl with ⟨h1, h2⟩ | ⟨h1, h2, h3, y, hy, h4, h5⟩
      · rw [if_pos (.inl h1)]
        refine ⟨hd.1, hd.2, fun z hz hzt => ?_, x, by simp, hxt, rfl⟩
        rcases List.mem_append.1 hz with hz | hz
        · exact absurd (h2 z hz) hzt
        · rw [List.mem_singleton.1 hz]; exact Int.le_refl _
      · by_cases hlt : at2 N D x to < nearF N D to l
        · rw [if_pos (.inr hlt)]
          refine ⟨hd.1, hd.2, fun z hz hzt => ?_, x, by simp, hxt, rfl⟩
          rcases List.mem_append.1 hz with hz | hz
          · have := h3 z hz hzt; omega
          · rw [List.mem_singleton.1 hz]; exact Int.le_refl _
        · rw [if_neg (by omega)]
          refine ⟨h1, h2, fun z hz hzt => ?_, y, by simp [hy], h4, h5⟩
          rcases List.mem_append.1 hz with hz | hz
          · exact h3 z hz hzt
          · rw [List.mem_singleton.1 hz]; omega

theorem take_snoc {α : Type} (l : List α) (k : Nat) (x : α) (h : l[k]? = some x) : l.take (k + 1) = l.take k ++ [x] := by
  obtain ⟨hk, rfl⟩ := List.getElem?_eq_some_iff.1 h
  exact List.take_succ_eq_append_getElem hk
theorem some_at {α : Type} (l : List α) (k : Nat) (h : k < l.length) : ∃ x, l[k]? = some x ∧ x ∈ l := ⟨l[k], List.getElem?_eq_getElem h, List.getElem_mem h⟩
theorem getD_of {l : List Int} {k : Nat} {x : Int} (h : l[k]? = some x) : l.getD k 0 = x := by rw [List.getD_eq_getElem?_getD, h]; rfl
theorem ins_take {N : Int} {l : List Int} (h : insB N l = true) (k : Nat) : insB N (l.take k) = true := (ins_iff _ _).2 fun x hx => (ins_iff _ _).1 h x (List.mem_of_mem_take hx)
end Ar
end

section
/-! Plain arithmetic behind package money: what Add, Mul, Sum and Share tell, as functions on whole numbers. No program is named here. -/
set_option linter.unusedVariables false
namespace Grp

def mayB (n : Int) : Bool := decide (-4611686018427387903 ≤ n) && decide (n ≤ 4611686018427387903)

theorem mayB_iff (n : Int) : mayB n = true ↔ -4611686018427387903 ≤ n ∧ n ≤ 4611686018427387903 := by
  simp [mayB]

theorem mayB_no (n : Int) : mayB n = false ↔ n < -4611686018427387903 ∨ 4611686018427387903 < n := by
  have := mayB_iff n
  cases h : mayB n
  · rw [h] at this; simp at this; simp; omega
  · have := this.1 h; simp; omega

/-- Add. -/
def addS (a b : Int) : Int × Int :=
  if mayB a = true ∧ mayB b = true then (if mayB (a + b) = true then (a + b, 0) else (0, 4)) else (0, 1)

/-- Mul. -/
def mulS (a b : Int) : Int × Int :=
  if mayB a = true ∧ mayB b = true then (if mayB (a * b) = true then (a * b, 0) else (0, 4)) else (0, 1)

/-- Sum, of what is left, behind a sum so far. -/
def sumFrom (n : Int) : List Int → Int × Int
  | [] => (n, 0)
  | x :: r => if mayB (n + x) = true then sumFrom (n + x) r else (0, 4)

def sumS (l : List Int) : Int × Int := if l.all mayB = true then sumFrom 0 l else (0, 1)

/-- may Share be asked this? -/
def shOk (t p a : Int) : Bool :=
  mayB t && mayB a && decide (0 ≤ t) && decide (1 ≤ a) && decide (0 ≤ p) && decide (p ≤ a)

/-- Share. -/
def shareS (t p a : Int) : Int × Int × Int :=
  if shOk t p a = true then (t * p / a, t * p % a, 0) else (0, 0, 1)

theorem shOk_iff (t p a : Int) : shOk t p a = true ↔ 0 ≤ t ∧ t ≤ 4611686018427387903 ∧ 1 ≤ a ∧ a ≤ 4611686018427387903 ∧ 0 ≤ p ∧ p ≤ a := by
  simp [shOk, mayB]; omega

theorem addS_comm (a b : Int) : addS a b = addS b a := by
  unfold addS
  rw [Int.add_comm b a]
  by_cases h1 : mayB a = true <;> by_cases h2 : mayB b = true <;> simp [h1, h2]

theorem mulS_comm (a b : Int) : mulS a b = mulS b a := by
  unfold mulS
  rw [Int.mul_comm b a]
  by_cases h1 : mayB a = true <;> by_cases h2 : mayB b = true <;> simp [h1, h2]

theorem addS_fits (a b : Int) : -4611686018427387903 ≤ (addS a b).1 ∧ (addS a b).1 ≤ 4611686018427387903 := by
  unfold addS
  split
  · split
    · rename_i h; rw [mayB_iff] at h; exact h
    · simp
  · simp

theorem mulS_fits (a b : Int) : -4611686018427387903 ≤ (mulS a b).1 ∧ (mulS a b).1 ≤ 4611686018427387903 := by
  unfold mulS
  split
  · split
    · rename_i h; rw [mayB_iff] at h; exact h
    · simp
  · simp

/-- what was added is taken away -/
theorem addS_back (a b : Int) (h : (addS a b).2 = 0) : addS (addS a b).1 (-b) = (a, 0) := by
  unfold addS at h ⊢
  by_cases h1 : mayB a = true ∧ mayB b = true
  · by_cases h2 : mayB (a + b) = true
    · have hb : mayB (-b) = true := by rw [mayB_iff] at *; have := (mayB_iff b).1 h1.2; omega
      simp only [h1, h2, and_self, if_true, hb]
      have : a + b + -b = a := by omega
      rw [this, if_pos h1.1]
    · rw [if_pos h1, if_neg h2] at h; simp at h
  · rw [if_neg h1] at h; simp at h

theorem addS_ok (a b : Int) (h : (addS a b).2 = 0) : mayB a = true ∧ mayB b = true ∧ mayB (a + b) = true ∧ (addS a b).1 = a + b := by
  unfold addS at h ⊢
  by_cases h1 : mayB a = true ∧ mayB b = true
  · by_cases h2 : mayB (a + b) = true
    · rw [if_pos h1, if_pos h2]; exact ⟨h1.1, h1.2, h2, rfl⟩
    · rw [if_pos h1, if_neg h2] at h; simp at h
  · rw [if_neg h1] at h; simp at h

theorem mulS_ok (a b : Int) (h : (mulS a b).2 = 0) : mayB a = true ∧ mayB b = true ∧ mayB (a * b) = true ∧ (mulS a b).1 = a * b := by
  unfold mulS at h ⊢
  by_cases h1 : mayB a = true ∧ mayB b = true
  · by_cases h2 : mayB (a * b) = true
    · rw [if_pos h1, if_pos h2]; exact ⟨h1.1, h1.2, h2, rfl⟩
    · rw [if_pos h1, if_neg h2] at h; simp at h
  · rw [if_neg h1] at h; simp at h

/-- the size of a number -/
def sizeI (n : Int) : Int := if n < 0 then -n else n

theorem sizeI_nat (n : Int) : sizeI n = (n.natAbs : Int) := by unfold sizeI; split <;> omega

/-- the look ahead of a product -/
theorem mul_look (a b : Int) (hb : b ≠ 0) : (4611686018427387903 / sizeI b < sizeI a) ↔ mayB (a * b) = false := by
  rw [mayB_no, sizeI_nat, sizeI_nat]
  have hpos : (0 : Int) < (b.natAbs : Int) := by omega
  rw [Int.ediv_lt_iff_lt_mul hpos]
  have : (a.natAbs : Int) * (b.natAbs : Int) = ((a * b).natAbs : Int) := by rw [Int.natAbs_mul]; simp
  rw [this]; omega

/-- one step of Share: the total's next bit -/
def shStep (p a n r bit : Int) : Int × Int :=
  let o : Int := if r + r < a then 0 else 1
  let r1 := if r + r < a then r + r else r + r - a
  if bit = 1 then
    let m : Int := if r1 + p < a then 0 else 1
    (n + n + o + m, if r1 + p < a then r1 + p else r1 + p - a)
  else (n + n + o, r1)

theorem shStep_ok (p a n r h bit : Int) (ha : 1 ≤ a) (hp : 0 ≤ p) (hpa : p ≤ a) (hr : 0 ≤ r) (hra : r < a) (hb : bit = 0 ∨ bit = 1)
    (e : n * a + r = h * p) : (shStep p a n r bit).1 * a + (shStep p a n r bit).2 = (2 * h + bit) * p ∧ 0 ≤ (shStep p a n r bit).2 ∧ (shStep p a n r bit).2 < a := by
  have e2 : (n + n) * a + (r + r) = 2 * h * p := by
    have : (n + n) * a = n * a + n * a := Int.add_mul n n a
    have h2 : 2 * h * p = h * p + h * p := by rw [Int.mul_assoc]; omega
    omega
  have one : ∀ x : Int, (x + 1) * a = x * a + a := fun x => by rw [Int.add_mul]; omega
  have hb1 : (2 * h + 1) * p = 2 * h * p + p := by rw [Int.add_mul]; omega
  have hb0 : (2 * h + 0) * p = 2 * h * p := by rw [Int.add_zero]
  rcases hb with rfl | rfl
  · unfold shStep
    by_cases h1 : r + r < a
    · simp only [if_pos h1]; simp; rw [e2]; exact ⟨rfl, by omega, h1⟩
    · simp only [if_neg h1]; simp; rw [one (n + n)]; omega
  · unfold shStep
    by_cases h1 : r + r < a
    · simp only [if_pos h1]
      by_cases h2 : r + r + p < a
      · simp only [if_pos h2, if_true]; rw [hb1]; simp only [Int.add_zero]; omega
      · simp only [if_neg h2, if_true]; rw [hb1]; simp only [Int.add_zero]; rw [one (n + n)]; omega
    · simp only [if_neg h1]
      by_cases h2 : r + r - a + p < a
      · simp only [if_pos h2, if_true]; rw [hb1]; simp only [Int.add_zero]; rw [one (n + n)]; omega
      · simp only [if_neg h2, if_true]; rw [hb1, one (n + n + 1), one (n + n)]; omega

theorem share_eq (t p a n r : Int) (ha : 1 ≤ a) (hr : 0 ≤ r) (hra : r < a) (e : n * a + r = t * p) : n = t * p / a ∧ r = t * p % a := by
  have h : t * p = r + a * n := by rw [← e, Int.mul_comm]; omega
  constructor
  · rw [h, Int.add_mul_ediv_left _ _ (by omega), Int.ediv_eq_zero_of_lt hr hra]; omega
  · rw [h, Int.add_mul_emod_self_left, Int.emod_eq_of_lt hr hra]

theorem half_pow (t : Int) (k : Nat) (hk : k < 62) : t / 2 ^ (62 - k) = t / 2 ^ (61 - k) / 2 := by
  have e : 62 - k = (61 - k) + 1 := by omega
  rw [e, Int.pow_succ, Int.ediv_ediv_of_nonneg (Int.pow_nonneg (by omega))]

theorem le_pow (t : Int) (j : Nat) (ht : 0 ≤ t) : 0 ≤ t / 2 ^ j ∧ t / 2 ^ j ≤ t := by
  have h : (0 : Int) < 2 ^ j := Int.pow_pos (by omega)
  exact ⟨Int.ediv_nonneg ht (by omega), Int.ediv_le_self _ ht⟩

/-- what holds behind one bit more -/
def ShRel (t p a : Int) (j : Nat) (n r : Int) : Prop := 0 ≤ n ∧ n ≤ t / 2 ^ j ∧ 0 ≤ r ∧ r < a ∧ n * a + r = t / 2 ^ j * p

theorem sh_next (t p a n r : Int) (k : Nat) (hk : k < 62) (ht : 0 ≤ t) (ha : 1 ≤ a) (hp : 0 ≤ p) (hpa : p ≤ a) (H : ShRel t p a (62 - k) n r)
    (bit n' r' : Int) (hb : bit = t / 2 ^ (61 - k) % 2) (e : shStep p a n r bit = (n', r')) : ShRel t p a (62 - (k + 1)) n' r' := by
  obtain ⟨n1, n2, r1, r2, e1⟩ := H
  have hk' : 62 - (k + 1) = 61 - k := by omega
  unfold ShRel
  rw [hk']
  have h2 := half_pow t k hk
  rw [h2] at e1 n2
  have hb' : bit = 0 ∨ bit = 1 := by omega
  have hs := shStep_ok p a n r (t / 2 ^ (61 - k) / 2) bit ha hp hpa r1 r2 hb' e1
  rw [e] at hs
  simp only at hs
  have hh : 2 * (t / 2 ^ (61 - k) / 2) + bit = t / 2 ^ (61 - k) := by omega
  rw [hh] at hs
  have hpos := (le_pow t (61 - k) ht).1
  obtain ⟨s1, s2, s3⟩ := hs
  have hn0 : 0 ≤ n' := by
    have : n' = (shStep p a n r bit).1 := by rw [e]
    rw [this]; unfold shStep; dsimp only; split <;> (repeat' split) <;> (dsimp only; omega)
  refine ⟨hn0, ?_, s2, s3, s1⟩
  have l1 : t / 2 ^ (61 - k) * p ≤ t / 2 ^ (61 - k) * a := Int.mul_le_mul_of_nonneg_left hpa hpos
  have l2 : n' * a ≤ t / 2 ^ (61 - k) * a := by omega
  exact Int.le_of_mul_le_mul_right l2 (by omega)

theorem sh_start (t p a : Int) (ht : 0 ≤ t) (h2 : t ≤ 4611686018427387903) (ha : 1 ≤ a) : ShRel t p a 62 0 0 := by
  have : t / 2 ^ 62 = 0 := Int.ediv_eq_zero_of_lt (by omega) (by omega)
  unfold ShRel
  rw [this]; simp; omega

theorem all_take (l : List Int) (k : Nat) (x : Int) (h : l[k]? = some x) (hp : (l.take k).all mayB = true) : (l.take (k + 1)).all mayB = mayB x := by
  rw [List.take_add_one, h]; simp [List.all_append, hp]

theorem all_false (l : List Int) (k : Nat) (x : Int) (h : l[k]? = some x) (hp : mayB x = false) : l.all mayB = false := by
  rw [List.all_eq_false]
  exact ⟨x, List.mem_of_getElem? h, by rw [hp]; simp⟩

theorem all_at (l : List Int) (k : Nat) (x : Int) (h : l[k]? = some x) (hp : l.all mayB = true) : mayB x = true :=
  List.all_eq_true.1 hp x (List.mem_of_getElem? h)

theorem sumFrom_step (n : Int) (l : List Int) (k : Nat) (x : Int) (h : l[k]? = some x) :
    sumFrom n (l.drop k) = if mayB (n + x) = true then sumFrom (n + x) (l.drop (k + 1)) else (0, 4) := by
  obtain ⟨hk, rfl⟩ := List.getElem?_eq_some_iff.1 h
  rw [List.drop_eq_getElem_cons hk]
  rfl

theorem sumFrom_end (n : Int) (l : List Int) (k : Nat) (h : l.length ≤ k) : sumFrom n (l.drop k) = (n, 0) := by
  rw [List.drop_eq_nil_of_le h]; rfl

theorem addS_yes (a b : Int) (ha : mayB a = true) (hb : mayB b = true) (h : mayB (a + b) = true) : addS a b = (a + b, 0) := by
  unfold addS; rw [if_pos ⟨ha, hb⟩, if_pos h]

theorem addS_full (a b : Int) (ha : mayB a = true) (hb : mayB b = true) (h : mayB (a + b) = false) : addS a b = (0, 4) := by
  unfold addS; rw [if_pos ⟨ha, hb⟩, if_neg (by rw [h]; simp)]

end Grp
end

section
/-! Plain mathematics behind package load: which orders, trucks and worlds may be, what orders weigh together, where one is. No program is named here. -/
set_option linter.unusedVariables false
namespace Ld

structure O where
  id : Int
  owner : Int
  node : Int
  weight : Int
  volume : Int
  frm : Int
  to : Int
  service : Int

structure T where
  id : Int
  weight : Int
  volume : Int
  start : Int
  fin : Int
  fixed : Int
  rate : Int

def O.ints (o : O) : List Int := [o.id, o.owner, o.node, o.weight, o.volume, o.frm, o.to, o.service]
def T.ints (t : T) : List Int := [t.id, t.weight, t.volume, t.start, t.fin, t.fixed, t.rate]

/-- one number, and from where to where it may be -/
def spB (s : Int × Int × Int) : Bool := decide (s.2.1 ≤ s.1) && decide (s.1 ≤ s.2.2)
def chkE (l : List (Int × Int × Int)) : Int := if l.all spB = true then 0 else 1

theorem spB_yes {a b c : Int} (h1 : b ≤ a) (h2 : a ≤ c) : spB (a, b, c) = true := by simp [spB, h1, h2]
theorem spB_less {a b c : Int} (h1 : a < b) : spB (a, b, c) = false := by simp [spB]; omega
theorem spB_more {a b c : Int} (h1 : c < a) : spB (a, b, c) = false := by simp [spB]; omega
theorem chk_no {l : List (Int × Int × Int)} {k : Nat} {s : Int × Int × Int} (h : l[k]? = some s) (hs : spB s = false) : chkE l = 1 := by
  have : l.all spB = false := List.all_eq_false.2 ⟨s, List.mem_of_getElem? h, by rw [hs]; simp⟩
  unfold chkE
  rw [this]
  rfl
theorem chk_yes {l : List (Int × Int × Int)} (h : ∀ (k : Nat) s, l[k]? = some s → spB s = true) : chkE l = 0 := by
  have : l.all spB = true := List.all_eq_true.2 fun s hs => by
    obtain ⟨k, hk⟩ := List.getElem?_of_mem hs
    exact h k s hk
  unfold chkE
  rw [this]
  rfl
def flat3 (l : List (Int × Int × Int)) : List Int := l.flatMap fun s => [s.1, s.2.1, s.2.2]

def oSp (o : O) (n : Int) : List (Int × Int × Int) :=
  [(o.id, 1, 1000000), (o.owner, 0, 31), (o.node, 1, max n 1 - 1), (o.weight, 1, 1000000), (o.volume, 1, 1000000), (o.frm, 0, o.to), (o.to, 0, 1000000), (o.service, 0, 10000)]
def tSp (t : T) : List (Int × Int × Int) :=
  [(t.id, 1, 1000000), (t.weight, 1, 1000000), (t.volume, 1, 1000000), (t.start, 0, t.fin), (t.fin, 0, 1000000), (t.fixed, 0, 1000000), (t.rate, 0, 1000)]
def oB (o : O) (n : Int) : Bool := (oSp o n).all spB
def tB (t : T) : Bool := (tSp t).all spB
def oE (o : O) (n : Int) : Int := chkE (oSp o n)
def tE (t : T) : Int := chkE (tSp t)
theorem oE_yes {o : O} {n : Int} (h : oB o n = true) : oE o n = 0 := by unfold oE chkE; unfold oB at h; rw [h]; rfl
theorem oE_no {o : O} {n : Int} (h : oB o n = false) : oE o n = 1 := by unfold oE chkE; unfold oB at h; rw [h]; rfl
theorem tE_yes {t : T} (h : tB t = true) : tE t = 0 := by unfold tE chkE; unfold tB at h; rw [h]; rfl
theorem tE_no {t : T} (h : tB t = false) : tE t = 1 := by unfold tE chkE; unfold tB at h; rw [h]; rfl
theorem spB_iff (s : Int × Int × Int) : spB s = true ↔ s.2.1 ≤ s.1 ∧ s.1 ≤ s.2.2 := by simp [spB]

structure OOk (o : O) (n : Int) : Prop where
  id0 : 1 ≤ o.id
  id1 : o.id ≤ 1000000
  ow0 : 0 ≤ o.owner
  ow1 : o.owner ≤ 31
  no0 : 1 ≤ o.node
  no1 : o.node < n
  we0 : 1 ≤ o.weight
  we1 : o.weight ≤ 1000000
  vo0 : 1 ≤ o.volume
  vo1 : o.volume ≤ 1000000
  fr0 : 0 ≤ o.frm
  fr1 : o.frm ≤ o.to
  to1 : o.to ≤ 1000000
  se0 : 0 ≤ o.service
  se1 : o.service ≤ 10000
structure TOk (t : T) : Prop where
  id0 : 1 ≤ t.id
  id1 : t.id ≤ 1000000
  we0 : 1 ≤ t.weight
  we1 : t.weight ≤ 1000000
  vo0 : 1 ≤ t.volume
  vo1 : t.volume ≤ 1000000
  st0 : 0 ≤ t.start
  st1 : t.start ≤ t.fin
  fi1 : t.fin ≤ 1000000
  fx0 : 0 ≤ t.fixed
  fx1 : t.fixed ≤ 1000000
  ra0 : 0 ≤ t.rate
  ra1 : t.rate ≤ 1000

theorem oB_iff (o : O) (n : Int) : oB o n = true ↔ OOk o n := by
  unfold oB oSp
  simp only [List.all_cons, List.all_nil, Bool.and_eq_true, spB_iff, and_true]
  constructor
  · rintro ⟨h1, h2, h3, h4, h5, h6, h7, h8⟩
    exact ⟨h1.1, h1.2, h2.1, h2.2, h3.1, by have := h3.1; have := h3.2; omega, h4.1, h4.2, h5.1, h5.2, h6.1, h6.2, h7.2, h8.1, h8.2⟩
  · intro h
    have := h.no0; have := h.no1; have := h.fr0; have := h.fr1
    exact ⟨⟨h.id0, h.id1⟩, ⟨h.ow0, h.ow1⟩, ⟨h.no0, by omega⟩, ⟨h.we0, h.we1⟩, ⟨h.vo0, h.vo1⟩, ⟨h.fr0, h.fr1⟩, ⟨by omega, h.to1⟩, ⟨h.se0, h.se1⟩⟩
theorem tB_iff (t : T) : tB t = true ↔ TOk t := by
  unfold tB tSp
  simp only [List.all_cons, List.all_nil, Bool.and_eq_true, spB_iff, and_true]
  constructor
  · rintro ⟨h1, h2, h3, h4, h5, h6, h7⟩
    exact ⟨h1.1, h1.2, h2.1, h2.2, h3.1, h3.2, h4.1, h4.2, h5.2, h6.1, h6.2, h7.1, h7.2⟩
  · intro h
    have := h.st0; have := h.st1
    exact ⟨⟨h.id0, h.id1⟩, ⟨h.we0, h.we1⟩, ⟨h.vo0, h.vo1⟩, ⟨h.st0, h.st1⟩, ⟨by omega, h.fi1⟩, ⟨h.fx0, h.fx1⟩, ⟨h.ra0, h.ra1⟩⟩
theorem oB_not {o : O} {n : Int} (h : ¬ OOk o n) : oE o n = 1 := oE_no (by rw [Bool.eq_false_iff]; exact fun e => h ((oB_iff o n).1 e))
theorem oB_ok {o : O} {n : Int} (h : OOk o n) : oE o n = 0 := oE_yes ((oB_iff o n).2 h)
theorem tB_not {t : T} (h : ¬ TOk t) : tE t = 1 := tE_no (by rw [Bool.eq_false_iff]; exact fun e => h ((tB_iff t).1 e))
theorem tB_ok {t : T} (h : TOk t) : tE t = 0 := tE_yes ((tB_iff t).2 h)

/-- two of a list are the same -/
def twB (ids : List Int) : Bool := !decide ids.Nodup
theorem tw_yes {ids : List Int} {k i : Nat} {x : Int} (hki : k < i) (hk : ids[k]? = some x) (hi : ids[i]? = some x) : twB ids = true := by
  unfold twB
  rw [Bool.not_eq_true', decide_eq_false_iff_not]
  intro h
  obtain ⟨h1, e1⟩ := List.getElem?_eq_some_iff.1 hk
  obtain ⟨h2, e2⟩ := List.getElem?_eq_some_iff.1 hi
  exact (List.pairwise_iff_getElem.1 h) k i h1 h2 hki (e1.trans e2.symm)
theorem tw_no {ids : List Int} (h : ∀ (k i : Nat) (x : Int), k < i → ids[k]? = some x → ids[i]? ≠ some x) : twB ids = false := by
  unfold twB
  rw [Bool.not_eq_false', decide_eq_true_eq]
  refine List.pairwise_iff_getElem.2 fun k i h1 h2 hki e => ?_
  exact h k i ids[k] hki (List.getElem?_eq_getElem h1) (by rw [List.getElem?_eq_getElem h2, e])

/-- where the first one of that number is -/
def findI : List Int → Int → Int
  | [], _ => -1
  | x :: r, id => if x = id then 0 else if findI r id = -1 then -1 else findI r id + 1
theorem findI_ge (l : List Int) (id : Int) : -1 ≤ findI l id := by
  induction l with
  | nil => simp [findI]
  | cons x r ih =>
    unfold findI
    split
    · omega
    · split <;> omega
theorem find_at {l : List Int} {id : Int} {k : Nat} (h : l[k]? = some id) (hn : ∀ j, j < k → l[j]? ≠ some id) : findI l id = (k : Int) := by
  induction l generalizing k with
  | nil => simp at h
  | cons x r ih =>
    cases k with
    | zero => simp at h; subst h; simp [findI]
    | succ k =>
      have h0 := hn 0 (by omega)
      simp at h h0
      have := ih h (fun j hj => by have := hn (j + 1) (by omega); simpa using this)
      unfold findI
      rw [if_neg h0, this, if_neg (by omega)]
      omega
theorem find_none {l : List Int} {id : Int} (hn : ∀ j, j < l.length → l[j]? ≠ some id) : findI l id = -1 := by
  induction l with
  | nil => rfl
  | cons x r ih =>
    have h0 := hn 0 (by simp)
    simp at h0
    have := ih (fun j hj => by have := hn (j + 1) (by simp; omega); simpa using this)
    unfold findI
    rw [if_neg h0, this, if_pos rfl]
/-- the first one of a number that is there is no further than that -/
theorem find_same {l : List Int} {x : Int} {k : Nat} (h : l[k]? = some x) : findI l x = (k : Int) ∨ ∃ j, j < k ∧ l[j]? = some x := by
  by_cases hx : ∃ j, j < k ∧ l[j]? = some x
  · exact .inr hx
  · exact .inl (find_at h fun j hj e => hx ⟨j, hj, e⟩)
theorem find_less {l : List Int} {x : Int} {j : Nat} (h : l[j]? = some x) : findI l x ≤ (j : Int) := by
  induction l generalizing j with
  | nil => simp at h
  | cons y r ih =>
    cases j with
    | zero => simp at h; subst h; simp [findI]
    | succ j =>
      simp at h
      have := ih h
      unfold findI
      split
      · omega
      · split <;> omega
theorem find_is {l : List Int} {id : Int} {k : Nat} (h : findI l id = (k : Int)) : l[k]? = some id ∧ ∀ j, j < k → l[j]? ≠ some id := by
  induction l generalizing k with
  | nil => simp [findI] at h
  | cons x r ih =>
    unfold findI at h
    by_cases hx : x = id
    · rw [if_pos hx] at h
      obtain rfl : k = 0 := by omega
      subst hx
      exact ⟨rfl, fun j hj => by omega⟩
    · rw [if_neg hx] at h
      have hg := findI_ge r id
      split at h
      · omega
      · cases k with
        | zero => omega
        | succ k =>
          obtain ⟨h1, h2⟩ := ih (k := k) (by omega)
          refine ⟨by simpa using h1, fun j hj => ?_⟩
          cases j with
          | zero => simpa using hx
          | succ j => simpa using h2 j (by omega)

def worldE (N : Int) (os : List O) (ts : List T) : Int :=
  if 12 < os.length ∨ 6 < ts.length then 4
  else if os.all (fun o => oB o N) = true ∧ ts.all tB = true then (if twB (os.map O.id) = true ∨ twB (ts.map T.id) = true then 6 else 0) else 1
theorem world_full {N : Int} {os : List O} {ts : List T} (h : 12 < os.length ∨ 6 < ts.length) : worldE N os ts = 4 := by unfold worldE; rw [if_pos h]
theorem world_arg {N : Int} {os : List O} {ts : List T} (h : os.length ≤ 12) (h2 : ts.length ≤ 6) (h3 : os.all (fun o => oB o N) = false ∨ ts.all tB = false) : worldE N os ts = 1 := by
  unfold worldE
  rw [if_neg (by omega), if_neg]
  rintro ⟨a, b⟩
  rcases h3 with h3 | h3
  · rw [h3] at a; cases a
  · rw [h3] at b; cases b
theorem world_two {N : Int} {os : List O} {ts : List T} (h : os.length ≤ 12) (h2 : ts.length ≤ 6) (h3 : os.all (fun o => oB o N) = true) (h4 : ts.all tB = true) (h5 : twB (os.map O.id) = true ∨ twB (ts.map T.id) = true) : worldE N os ts = 6 := by
  unfold worldE
  rw [if_neg (by omega), if_pos ⟨h3, h4⟩, if_pos h5]
theorem world_ok {N : Int} {os : List O} {ts : List T} (h : os.length ≤ 12) (h2 : ts.length ≤ 6) (h3 : os.all (fun o => oB o N) = true) (h4 : ts.all tB = true) (h5 : twB (os.map O.id) = false) (h6 : twB (ts.map T.id) = false) : worldE N os ts = 0 := by
  unfold worldE
  rw [if_neg (by omega), if_pos ⟨h3, h4⟩, if_neg (by rw [h5, h6]; simp)]
theorem world_is {N : Int} {os : List O} {ts : List T} (h : worldE N os ts = 0) : os.length ≤ 12 ∧ ts.length ≤ 6 ∧ os.all (fun o => oB o N) = true ∧ ts.all tB = true ∧ (os.map O.id).Nodup ∧ (ts.map T.id).Nodup := by
  unfold worldE at h
  split at h
  · omega
  · split at h
    · rename_i h1 h2
      split at h
      · omega
      · rename_i h3
        have e1 : twB (os.map O.id) = false := by rw [Bool.eq_false_iff]; exact fun e => h3 (.inl e)
        have e2 : twB (ts.map T.id) = false := by rw [Bool.eq_false_iff]; exact fun e => h3 (.inr e)
        unfold twB at e1 e2
        rw [Bool.not_eq_false', decide_eq_true_eq] at e1 e2
        exact ⟨by omega, by omega, h2.1, h2.2, e1, e2⟩
    · omega
theorem all_rev {α : Type} (p : α → Bool) (l : List α) : l.reverse.all p = l.all p := List.all_reverse
theorem tw_rev (l : List Int) : twB l.reverse = twB l := by
  unfold twB
  have : l.reverse.Nodup ↔ l.Nodup := by
    unfold List.Nodup
    rw [List.pairwise_reverse]
    exact ⟨fun h => h.imp fun h e => h e.symm, fun h => h.imp fun h e => h e.symm⟩
  rw [decide_eq_decide.2 this]
theorem world_rev (N : Int) (os : List O) (ts : List T) : worldE N os.reverse ts.reverse = worldE N os ts := by
  unfold worldE
  rw [List.length_reverse, List.length_reverse, all_rev, all_rev, List.map_reverse, List.map_reverse, tw_rev, tw_rev]
theorem tw_nodup {l : List Int} (h : l.Nodup) : twB l = false := by unfold twB; rw [Bool.not_eq_false', decide_eq_true_eq]; exact h
theorem nodup_of_tw {l : List Int} (h : twB l = false) : l.Nodup := by unfold twB at h; rwa [Bool.not_eq_false', decide_eq_true_eq] at h

/-- a world that may be may be without its last order -/
theorem world_less {N : Int} {os : List O} {ts : List T} (h : worldE N os ts = 0) : worldE N (os.reverse.drop 1) ts.reverse = 0 := by
  obtain ⟨h1, h2, h3, h4, h5, h6⟩ := world_is h
  refine world_ok (by rw [List.length_drop, List.length_reverse]; omega) (by rw [List.length_reverse]; omega) ?_ (by rw [all_rev]; exact h4) ?_ (by rw [List.map_reverse, tw_rev]; exact tw_nodup h6)
  · refine List.all_eq_true.2 fun o ho => List.all_eq_true.1 h3 o ?_
    exact List.mem_reverse.1 (List.mem_of_mem_drop ho)
  · refine tw_nodup ?_
    rw [List.map_drop]
    have : (os.map O.id).reverse.Nodup := nodup_of_tw (by rw [tw_rev]; exact tw_nodup h5)
    rw [List.map_reverse]
    exact this.sublist (List.drop_sublist _ _)
theorem last_find {os : List O} {o : O} {n : Nat} (hn : os.length = n + 1) (h : (os.map O.id).Nodup) (ho : os[n]? = some o) : findI (os.map O.id) o.id = (n : Int) ∧ findI ((os.reverse.drop 1).map O.id) o.id = -1 := by
  have hid : (os.map O.id)[n]? = some o.id := by rw [List.getElem?_map, ho]; rfl
  have key : ∀ j : Nat, j < n → (os.map O.id)[j]? ≠ some o.id := fun j hj e => by
    obtain ⟨a1, b1⟩ := List.getElem?_eq_some_iff.1 e
    obtain ⟨a2, b2⟩ := List.getElem?_eq_some_iff.1 hid
    exact (List.pairwise_iff_getElem.1 h) j n a1 a2 hj (b1.trans b2.symm)
  refine ⟨find_at hid key, find_none fun j hj e => ?_⟩
  rw [List.map_drop, List.map_reverse, List.getElem?_drop] at e
  rw [List.length_map, List.length_drop, List.length_reverse] at hj
  rw [List.getElem?_reverse (by rw [List.length_map]; omega), List.length_map] at e
  exact key _ (by omega) e

def sumE (l : List O) : Int × Int × Int :=
  if (Grp.sumS (l.map O.weight)).2 = 0 then (if (Grp.sumS (l.map O.volume)).2 = 0 then ((Grp.sumS (l.map O.weight)).1, (Grp.sumS (l.map O.volume)).1, 0) else (0, 0, (Grp.sumS (l.map O.volume)).2)) else (0, 0, (Grp.sumS (l.map O.weight)).2)
theorem sum_w {l : List O} {a e : Int} (h : Grp.sumS (l.map O.weight) = (a, e)) (he : ¬ e = 0) : sumE l = (0, 0, e) := by unfold sumE; rw [h, if_neg he]
theorem sum_v {l : List O} {a b e : Int} (h : Grp.sumS (l.map O.weight) = (a, 0)) (h2 : Grp.sumS (l.map O.volume) = (b, e)) (he : ¬ e = 0) : sumE l = (0, 0, e) := by unfold sumE; rw [h, h2, if_pos rfl, if_neg he]
theorem sum_ok {l : List O} {a b : Int} (h : Grp.sumS (l.map O.weight) = (a, 0)) (h2 : Grp.sumS (l.map O.volume) = (b, 0)) : sumE l = (a, b, 0) := by unfold sumE; rw [h, h2, if_pos rfl, if_pos rfl]
def carE (t : T) (l : List O) : Int := if (sumE l).2.2 = 0 then (if t.weight < (sumE l).1 ∨ t.volume < (sumE l).2.1 then 9 else 0) else (sumE l).2.2
theorem car_err {t : T} {l : List O} {a b e : Int} (h : sumE l = (a, b, e)) (he : ¬ e = 0) : carE t l = e := by unfold carE; rw [h, if_neg he]
theorem car_more {t : T} {l : List O} {a b : Int} (h : sumE l = (a, b, 0)) (he : t.weight < a ∨ t.volume < b) : carE t l = 9 := by unfold carE; rw [h, if_pos rfl, if_pos he]
theorem car_ok {t : T} {l : List O} {a b : Int} (h : sumE l = (a, b, 0)) (h1 : a ≤ t.weight) (h2 : b ≤ t.volume) : carE t l = 0 := by unfold carE; rw [h, if_pos rfl, if_neg (by show ¬ (t.weight < a ∨ t.volume < b); omega)]

/-- a sum of small numbers -/
def plus : List Int → Int
  | [] => 0
  | x :: r => x + plus r
theorem plus_app (a b : List Int) : plus (a ++ b) = plus a + plus b := by
  induction a with
  | nil => simp [plus]
  | cons x r ih => simp only [List.cons_append, plus, ih]; omega
theorem plus_ge {l : List Int} (h : ∀ x ∈ l, 1 ≤ x ∧ x ≤ 1000000) : 0 ≤ plus l ∧ plus l ≤ 1000000 * l.length := by
  induction l with
  | nil => simp [plus]
  | cons x r ih =>
    have h1 := h x (List.mem_cons_self ..)
    have h2 := ih fun y hy => h y (List.mem_cons_of_mem _ hy)
    simp only [plus, List.length_cons]
    omega
theorem sum_plus {l : List Int} (h : ∀ x ∈ l, 1 ≤ x ∧ x ≤ 1000000) (hl : l.length ≤ 200) : Grp.sumS l = (plus l, 0) := by
  have key : ∀ (r : List Int) (n : Int), (∀ x ∈ r, 1 ≤ x ∧ x ≤ 1000000) → 0 ≤ n → n + 1000000 * r.length ≤ 200000000 → Grp.sumFrom n r = (n + plus r, 0) := by
    intro r
    induction r with
    | nil => intro n _ _ _; simp [Grp.sumFrom, plus]
    | cons x r ih =>
      intro n hr hn hs
      have h1 := hr x (List.mem_cons_self ..)
      simp only [List.length_cons] at hs
      have hm : Grp.mayB (n + x) = true := (Grp.mayB_iff _).2 (by omega)
      have := ih (n + x) (fun y hy => hr y (List.mem_cons_of_mem _ hy)) (by omega) (by omega)
      simp only [Grp.sumFrom, plus, if_pos hm, this, Prod.mk.injEq, and_true]
      omega
  have hall : l.all Grp.mayB = true := List.all_eq_true.2 fun x hx => (Grp.mayB_iff x).2 (by have := h x hx; omega)
  unfold Grp.sumS
  rw [if_pos hall, key l 0 h (by omega) (by omega)]
  simp
structure Fine (l : List O) : Prop where
  w : ∀ x ∈ l.map O.weight, 1 ≤ x ∧ x ≤ 1000000
  v : ∀ x ∈ l.map O.volume, 1 ≤ x ∧ x ≤ 1000000
  len : l.length ≤ 200
theorem fine_of {l : List O} {n : Int} (h : ∀ o ∈ l, OOk o n) (hl : l.length ≤ 200) : Fine l :=
  ⟨fun x hx => by obtain ⟨o, ho, rfl⟩ := List.mem_map.1 hx; exact ⟨(h o ho).we0, (h o ho).we1⟩, fun x hx => by obtain ⟨o, ho, rfl⟩ := List.mem_map.1 hx; exact ⟨(h o ho).vo0, (h o ho).vo1⟩, hl⟩
theorem Fine.sum {l : List O} (h : Fine l) : sumE l = (plus (l.map O.weight), plus (l.map O.volume), 0) :=
  sum_ok (sum_plus h.w (by rw [List.length_map]; exact h.len)) (sum_plus h.v (by rw [List.length_map]; exact h.len))
theorem Fine.take {l : List O} (h : Fine l) (k : Nat) : Fine (l.take k) :=
  ⟨fun x hx => h.w x (by rw [List.map_take] at hx; exact List.mem_of_mem_take hx), fun x hx => h.v x (by rw [List.map_take] at hx; exact List.mem_of_mem_take hx), by have := h.len; rw [List.length_take]; omega⟩
theorem Fine.drop {l : List O} (h : Fine l) (k : Nat) : Fine (l.drop k) :=
  ⟨fun x hx => h.w x (by rw [List.map_drop] at hx; exact List.mem_of_mem_drop hx), fun x hx => h.v x (by rw [List.map_drop] at hx; exact List.mem_of_mem_drop hx), by have := h.len; rw [List.length_drop]; omega⟩

/-- what LoadLess asks of plain numbers -/
structure Less (l : List O) (k : Nat) (w v a b c d : Int) : Prop where
  s0 : sumE l = (w, v, 0)
  s1 : sumE (l.take k) = (a, b, 0)
  s2 : sumE (l.drop k) = (c, d, 0)
  w : w = a + c
  v : v = b + d
  a0 : 0 ≤ a
  a1 : a ≤ 200000000
  b0 : 0 ≤ b
  b1 : b ≤ 200000000
  c0 : 0 ≤ c
  c1 : c ≤ 200000000
  d0 : 0 ≤ d
  d1 : d ≤ 200000000
theorem less_of {l : List O} (h : Fine l) (k : Nat) : ∃ w v a b c d, Less l k w v a b c d := by
  have ht := h.take k
  have hd := h.drop k
  have g1 := plus_ge ht.w
  have g2 := plus_ge ht.v
  have g3 := plus_ge hd.w
  have g4 := plus_ge hd.v
  have l1 := ht.len
  have l2 := hd.len
  rw [List.length_map] at g1 g2 g3 g4
  refine ⟨_, _, _, _, _, _, h.sum, ht.sum, hd.sum, ?_, ?_, g1.1, by omega, g2.1, by omega, g3.1, by omega, g4.1, by omega⟩
  · rw [← plus_app, ← List.map_append, List.take_append_drop]
  · rw [← plus_app, ← List.map_append, List.take_append_drop]

theorem all_snoc {α : Type} {p : α → Bool} {l : List α} {k : Nat} {x : α} (h : l[k]? = some x) (ha : (l.take k).all p = true) (hx : p x = true) : (l.take (k + 1)).all p = true := by
  rw [List.take_add_one, h, List.all_append, ha]
  simp [hx]
theorem all_stop {α : Type} {p : α → Bool} {l : List α} {k : Nat} {x : α} (h : l[k]? = some x) (hx : p x = false) : l.all p = false := List.all_eq_false.2 ⟨x, List.mem_of_getElem? h, by rw [hx]; simp⟩
theorem all_full {α : Type} {p : α → Bool} {l : List α} {k : Nat} (h : l.length ≤ k) (ha : (l.take k).all p = true) : l.all p = true := by rwa [List.take_of_length_le h] at ha

theorem flat_len {α : Type} (f : α → List Int) (c : Nat) (hf : ∀ x, (f x).length = c) (l : List α) : (l.flatMap f).length = l.length * c := by
  induction l with
  | nil => simp
  | cons x r ih => rw [List.flatMap_cons, List.length_append, ih, hf, List.length_cons, Nat.succ_mul, Nat.add_comm]
theorem flat_at {α : Type} (f : α → List Int) (c : Nat) (hf : ∀ x, (f x).length = c) (l : List α) (k : Nat) (x : α) (j : Nat) (hj : j < c) (h : l[k]? = some x) : (l.flatMap f)[k * c + j]? = (f x)[j]? := by
  induction l generalizing k with
  | nil => simp at h
  | cons y r ih =>
    rw [List.flatMap_cons]
    cases k with
    | zero =>
      simp at h
      subst h
      rw [Nat.zero_mul, Nat.zero_add, List.getElem?_append_left (by rw [hf]; exact hj)]
    | succ k =>
      simp at h
      have e : (k + 1) * c + j = c + (k * c + j) := by rw [Nat.succ_mul]; omega
      rw [e, List.getElem?_append_right (by rw [hf]; omega), hf, Nat.add_sub_cancel_left]
      exact ih k h
end Ld
end

section
/-! Plain mathematics behind package route: visits, trips, which route can be run. No program is named here. -/
set_option linter.unusedVariables false
namespace Rt
open Ld

structure V where
  order : Int
  arrive : Int
  start : Int
  leave : Int
def V.ints (v : V) : List Int := [v.order, v.arrive, v.start, v.leave]
theorem vints_len (v : V) : v.ints.length = 4 := rfl

/-- where a truck is -/
structure S where
  node : Int
  time : Int
  dist : Int

def visit (N : Int) (T : List Int) (s : S) (o : O) : V :=
  ⟨o.id, s.time + Ar.at2 N T s.node o.node, max (s.time + Ar.at2 N T s.node o.node) o.frm, max (s.time + Ar.at2 N T s.node o.node) o.frm + o.service⟩
def step (N : Int) (D T : List Int) (s : S) (o : O) : S := ⟨o.node, (visit N T s o).leave, s.dist + Ar.at2 N D s.node o.node⟩
def visits (N : Int) (D T : List Int) (s : S) : List O → List V
  | [] => []
  | o :: r => visit N T s o :: visits N D T (step N D T s o) r
def fin (N : Int) (D T : List Int) (s : S) (l : List O) : S := l.foldl (step N D T) s
def inTime (N : Int) (D T : List Int) (s : S) : List O → Bool
  | [] => true
  | o :: r => decide ((visit N T s o).start ≤ o.to) && inTime N D T (step N D T s o) r

section
variable {N : Int} {D T : List Int}
theorem fin_nil (s : S) : fin N D T s [] = s := rfl
theorem fin_snoc (s : S) (l : List O) (o : O) : fin N D T s (l ++ [o]) = step N D T (fin N D T s l) o := by unfold fin; rw [List.foldl_append]; rfl
theorem visits_len (l : List O) : ∀ s : S, (visits N D T s l).length = l.length := by
  induction l with
  | nil => intro s; rfl
  | cons o r ih => intro s; simp [visits, ih]
theorem visits_snoc (l : List O) (o : O) : ∀ s : S, visits N D T s (l ++ [o]) = visits N D T s l ++ [visit N T (fin N D T s l) o] := by
  induction l with
  | nil => intro s; rfl
  | cons x r ih => intro s; simp only [List.cons_append, visits, ih]; rfl
theorem inTime_snoc (l : List O) (o : O) : ∀ s : S, inTime N D T s (l ++ [o]) = (inTime N D T s l && decide ((visit N T (fin N D T s l) o).start ≤ o.to)) := by
  induction l with
  | nil => intro s; show (decide _ && true) = (true && decide _); rw [Bool.and_true, Bool.true_and]; rfl
  | cons x r ih => intro s; simp only [List.cons_append, inTime, ih, Bool.and_assoc]; rfl
theorem visits_take (l : List O) (k : Nat) : ∀ s : S, visits N D T s (l.take k) = (visits N D T s l).take k := by
  induction l generalizing k with
  | nil => intro s; simp [visits]
  | cons o r ih =>
    intro s
    cases k with
    | zero => rfl
    | succ k => simp only [List.take_succ_cons, visits, ih]
theorem visits_at (l : List O) (k : Nat) (o : O) : ∀ s : S, l[k]? = some o → (visits N D T s l)[k]? = some (visit N T (fin N D T s (l.take k)) o) := by
  induction l generalizing k with
  | nil => intro s h; simp at h
  | cons x r ih =>
    intro s h
    cases k with
    | zero => simp at h; subst h; rfl
    | succ k => simp at h; simpa [visits, fin] using ih k (step N D T s x) h
theorem inTime_take (l : List O) (k : Nat) : ∀ s : S, inTime N D T s l = true → inTime N D T s (l.take k) = true := by
  induction l generalizing k with
  | nil => intro s _; simp [inTime]
  | cons o r ih =>
    intro s h
    cases k with
    | zero => rfl
    | succ k =>
      simp only [inTime, Bool.and_eq_true] at h
      simp only [List.take_succ_cons, inTime, Bool.and_eq_true]
      exact ⟨h.1, ih k _ h.2⟩
theorem late_from {l : List O} {k : Nat} {s : S} (h : inTime N D T s (l.take k) = false) : inTime N D T s l = false := by
  rw [Bool.eq_false_iff]
  intro e
  have := inTime_take (N := N) (D := D) (T := T) l k s e
  rw [h] at this
  cases this
theorem inTime_at {l : List O} {k : Nat} {o : O} {s : S} (h : inTime N D T s l = true) (ho : l[k]? = some o) : (visit N T (fin N D T s (l.take k)) o).start ≤ o.to := by
  have := inTime_take (N := N) (D := D) (T := T) l (k + 1) s h
  rw [List.take_add_one, ho] at this
  simp only [Option.toList_some] at this
  rw [inTime_snoc, Bool.and_eq_true] at this
  exact of_decide_eq_true this.2

/-- back at the depot -/
def home (N : Int) (D T : List Int) (s : S) : S := ⟨0, s.time + Ar.at2 N T s.node 0, s.dist + Ar.at2 N D s.node 0⟩
end

/-- a trip, or why there is none -/
structure R where
  vs : List V
  back : Int
  dist : Int
  cost : Int
  e : Int
def err (e : Int) : R := ⟨[], 0, 0, 0, e⟩
def out (t : T) (l : List O) (N : Int) (D T : List Int) : S := fin N D T ⟨0, t.start, 0⟩ l
def driveS (N : Int) (D T : List Int) (t : Ld.T) (l : List O) : R :=
  if inTime N D T ⟨0, t.start, 0⟩ l = true ∧ (home N D T (fin N D T ⟨0, t.start, 0⟩ l)).time ≤ t.fin then
    ⟨visits N D T ⟨0, t.start, 0⟩ l, (home N D T (fin N D T ⟨0, t.start, 0⟩ l)).time, (home N D T (fin N D T ⟨0, t.start, 0⟩ l)).dist, t.fixed + t.rate * (home N D T (fin N D T ⟨0, t.start, 0⟩ l)).dist, 0⟩
  else err 10
theorem drive_ok {N : Int} {D T : List Int} {t : Ld.T} {l : List O} {s : S} (hs : fin N D T ⟨0, t.start, 0⟩ l = s) (h1 : inTime N D T ⟨0, t.start, 0⟩ l = true) (h2 : s.time + Ar.at2 N T s.node 0 ≤ t.fin) :
    driveS N D T t l = ⟨visits N D T ⟨0, t.start, 0⟩ l, s.time + Ar.at2 N T s.node 0, s.dist + Ar.at2 N D s.node 0, t.fixed + t.rate * (s.dist + Ar.at2 N D s.node 0), 0⟩ := by
  subst hs
  unfold driveS
  rw [if_pos ⟨h1, h2⟩]
  rfl
theorem drive_late {N : Int} {D T : List Int} {t : Ld.T} {l : List O} (h : inTime N D T ⟨0, t.start, 0⟩ l = false) : driveS N D T t l = err 10 := by
  unfold driveS
  rw [if_neg]
  rintro ⟨h1, _⟩
  rw [h] at h1
  cases h1
theorem drive_back {N : Int} {D T : List Int} {t : Ld.T} {l : List O} {s : S} (hs : fin N D T ⟨0, t.start, 0⟩ l = s) (h2 : ¬ s.time + Ar.at2 N T s.node 0 ≤ t.fin) : driveS N D T t l = err 10 := by
  subst hs
  unfold driveS
  rw [if_neg]
  exact fun h => h2 h.2

/-- whether a world may be -/
def worldE (N : Int) (D T : List Int) (os : List O) (ts : List Ld.T) : Int := if Ar.checkE N D T = 0 then Ld.worldE N os ts else Ar.checkE N D T
theorem check_01 (N : Int) (D T : List Int) : Ar.checkE N D T = 0 ∧ Ar.okB N D T = true ∨ Ar.checkE N D T = 1 ∧ Ar.okB N D T = false := by
  cases h : Ar.okB N D T
  · exact .inr ⟨Ar.check_no h, rfl⟩
  · exact .inl ⟨Ar.check_yes h, rfl⟩
theorem world_bad {N : Int} {D T : List Int} {os : List O} {ts : List Ld.T} (h : Ar.checkE N D T = 1) : worldE N D T os ts = 1 := by unfold worldE; rw [if_neg (by omega), h]
theorem world_rest {N : Int} {D T : List Int} {os : List O} {ts : List Ld.T} (h : Ar.checkE N D T = 0) : worldE N D T os ts = Ld.worldE N os ts := by unfold worldE; rw [if_pos h]

/-- the order of that Id -/
def ordAt (os : List O) (id : Int) : O := (os[(findI (os.map O.id) id).toNat]?).getD ⟨0, 0, 0, 0, 0, 0, 0, 0⟩
def allIn (os : List O) (ids : List Int) : Bool := ids.all fun id => !(decide (findI (os.map O.id) id = -1))
def ordersOf (os : List O) (ids : List Int) : List O := ids.map (ordAt os)
def truckAt (ts : List Ld.T) (id : Int) : Ld.T := (ts[(findI (ts.map Ld.T.id) id).toNat]?).getD ⟨0, 0, 0, 0, 0, 0, 0⟩

def runS (N : Int) (D T : List Int) (os : List O) (ts : List Ld.T) (tr : Int) (st : List Int) : R :=
  if worldE N D T os ts = 0 then
    (if st.length < 1 ∨ 12 < st.length then err 2
    else if findI (ts.map Ld.T.id) tr = -1 ∨ allIn os st = false then err 5
    else if twB st = true then err 6
    else if carE (truckAt ts tr) (ordersOf os st) = 0 then driveS N D T (truckAt ts tr) (ordersOf os st)
    else err (carE (truckAt ts tr) (ordersOf os st)))
  else err (worldE N D T os ts)

section
variable {N : Int} {D T : List Int} {os : List O} {ts : List Ld.T} {tr : Int} {st : List Int}
theorem run_world {e : Int} (h : worldE N D T os ts = e) (he : ¬ e = 0) : runS N D T os ts tr st = err e := by unfold runS; rw [h, if_neg he]
theorem run_form (h : worldE N D T os ts = 0) (h2 : st.length < 1 ∨ 12 < st.length) : runS N D T os ts tr st = err 2 := by unfold runS; rw [if_pos h, if_pos h2]
theorem run_name (h : worldE N D T os ts = 0) (h2 : ¬ (st.length < 1 ∨ 12 < st.length)) (h3 : findI (ts.map Ld.T.id) tr = -1 ∨ allIn os st = false) : runS N D T os ts tr st = err 5 := by unfold runS; rw [if_pos h, if_neg h2, if_pos h3]
theorem run_twice (h : worldE N D T os ts = 0) (h2 : ¬ (st.length < 1 ∨ 12 < st.length)) (h3 : ¬ findI (ts.map Ld.T.id) tr = -1) (h4 : allIn os st = true) (h5 : twB st = true) : runS N D T os ts tr st = err 6 := by
  unfold runS; rw [if_pos h, if_neg h2, if_neg (by rintro (h | h); exact h3 h; rw [h4] at h; cases h), if_pos h5]
theorem run_load (h : worldE N D T os ts = 0) (h2 : ¬ (st.length < 1 ∨ 12 < st.length)) (h3 : ¬ findI (ts.map Ld.T.id) tr = -1) (h4 : allIn os st = true) (h5 : twB st = false) {e : Int} (h6 : carE (truckAt ts tr) (ordersOf os st) = e) (he : ¬ e = 0) : runS N D T os ts tr st = err e := by
  unfold runS; rw [if_pos h, if_neg h2, if_neg (by rintro (h | h); exact h3 h; rw [h4] at h; cases h), if_neg (by rw [h5]; simp), if_neg (by rw [h6]; exact he), h6]
theorem run_go (h : worldE N D T os ts = 0) (h2 : ¬ (st.length < 1 ∨ 12 < st.length)) (h3 : ¬ findI (ts.map Ld.T.id) tr = -1) (h4 : allIn os st = true) (h5 : twB st = false) (h6 : carE (truckAt ts tr) (ordersOf os st) = 0) : runS N D T os ts tr st = driveS N D T (truckAt ts tr) (ordersOf os st) := by
  unfold runS; rw [if_pos h, if_neg h2, if_neg (by rintro (h | h); exact h3 h; rw [h4] at h; cases h), if_neg (by rw [h5]; simp), if_pos h6]

/-- what a world that may be holds -/
structure Ok (N : Int) (D T : List Int) (os : List O) (ts : List Ld.T) (n : Nat) : Prop where
  ar : Ar.Ok N D T n
  ol : os.length ≤ 12
  tl : ts.length ≤ 6
  oo : ∀ o ∈ os, OOk o N
  tt : ∀ t ∈ ts, TOk t
  ou : (os.map O.id).Nodup
  tu : (ts.map Ld.T.id).Nodup
theorem ok_of (h : worldE N D T os ts = 0) : Ok N D T os ts N.toNat := by
  rcases check_01 N D T with ⟨h1, h2⟩ | ⟨h1, h2⟩
  · rw [world_rest h1] at h
    obtain ⟨a, b, c, d, e, f⟩ := world_is h
    exact ⟨Ar.ok_of h2, a, b, fun o ho => (oB_iff o N).1 (List.all_eq_true.1 c o ho), fun t ht => (tB_iff t).1 (List.all_eq_true.1 d t ht), e, f⟩
  · rw [world_bad h1] at h
    cases h
theorem ok_area (h : worldE N D T os ts = 0) : Ar.okB N D T = true := by
  rcases check_01 N D T with ⟨h1, h2⟩ | ⟨h1, h2⟩
  · exact h2
  · rw [world_bad h1] at h
    cases h
theorem OOk.has {o : O} (h : OOk o N) : Ar.hasB N o.node = true := (Ar.has_iff N o.node).2 (by have := h.no0; have := h.no1; omega)

/-- where one of an Id is, if it is -/
theorem find_mem {α : Type} (f : α → Int) (l : List α) (id : Int) (h : ¬ findI (l.map f) id = -1) : ∃ (k : Nat) (x : α), findI (l.map f) id = (k : Int) ∧ k < l.length ∧ l[k]? = some x ∧ f x = id := by
  have hg := findI_ge (l.map f) id
  have hk := find_is (l := l.map f) (id := id) (k := (findI (l.map f) id).toNat) (by omega)
  have h1 := hk.1
  rw [List.getElem?_map] at h1
  cases hx : l[(findI (l.map f) id).toNat]? with
  | none => rw [hx] at h1; cases h1
  | some x =>
    rw [hx] at h1
    exact ⟨_, x, by omega, (List.getElem?_eq_some_iff.1 hx).1, hx, by simpa using h1⟩
theorem ordAt_eq {id : Int} {k : Nat} {o : O} (h : findI (os.map O.id) id = (k : Int)) (ho : os[k]? = some o) : ordAt os id = o := by
  unfold ordAt
  rw [h]
  simp [ho]
theorem truckAt_eq {id : Int} {k : Nat} {t : Ld.T} (h : findI (ts.map Ld.T.id) id = (k : Int)) (ho : ts[k]? = some t) : truckAt ts id = t := by
  unfold truckAt
  rw [h]
  simp [ho]
theorem allIn_at {k : Nat} {id : Int} (h : allIn os st = true) (hk : st[k]? = some id) : ¬ findI (os.map O.id) id = -1 := by
  have := List.all_eq_true.1 h id (List.mem_of_getElem? hk)
  simpa using this
theorem allIn_no {k : Nat} {id : Int} (hk : st[k]? = some id) (h : findI (os.map O.id) id = -1) : allIn os st = false := by
  rw [Bool.eq_false_iff]
  exact fun e => allIn_at e hk h
theorem allIn_all (h : ∀ (k : Nat) (id : Int), st[k]? = some id → ¬ findI (os.map O.id) id = -1) : allIn os st = true := by
  refine List.all_eq_true.2 fun id hid => ?_
  obtain ⟨k, hk⟩ := List.getElem?_of_mem hid
  simpa using h k id hk
theorem orders_mem (h : allIn os st = true) : ∀ o ∈ ordersOf os st, o ∈ os := by
  intro o ho
  obtain ⟨id, hid, rfl⟩ := List.mem_map.1 ho
  obtain ⟨k, hk⟩ := List.getElem?_of_mem hid
  obtain ⟨j, x, h1, _, h2, _⟩ := find_mem O.id os id (allIn_at h hk)
  rw [ordAt_eq h1 h2]
  exact List.mem_of_getElem? h2
theorem ordAt_id {id : Int} (h : ¬ findI (os.map O.id) id = -1) : (ordAt os id).id = id := by
  obtain ⟨j, x, h1, _, h2, h3⟩ := find_mem O.id os id h
  rw [ordAt_eq h1 h2, h3]

/-- how great all gets -/
structure Bd (N : Int) (s : S) (k : Nat) : Prop where
  nd : Ar.hasB N s.node = true
  t0 : 0 ≤ s.time
  t1 : s.time ≤ 1000000 + (k : Int) * 1010000
  d0 : 0 ≤ s.dist
  d1 : s.dist ≤ (k : Int) * 1000000
theorem Bd.step {n k : Nat} {s : S} {o : O} (ho : Ar.Ok N D T n) (h : Bd N s k) (hoo : OOk o N) : Bd N (step N D T s o) (k + 1) := by
  have h1 := ho.at_d h.nd (OOk.has hoo)
  have h2 := ho.at_t h.nd (OOk.has hoo)
  have := h.t0; have := h.t1; have := h.d0; have := h.d1
  have := hoo.fr0; have := hoo.fr1; have := hoo.to1; have := hoo.se0; have := hoo.se1
  refine ⟨OOk.has hoo, ?_, ?_, ?_, ?_⟩
  · show 0 ≤ max (s.time + Ar.at2 N T s.node o.node) o.frm + o.service
    omega
  · show max (s.time + Ar.at2 N T s.node o.node) o.frm + o.service ≤ 1000000 + ((k + 1 : Nat) : Int) * 1010000
    omega
  · show 0 ≤ s.dist + Ar.at2 N D s.node o.node
    omega
  · show s.dist + Ar.at2 N D s.node o.node ≤ ((k + 1 : Nat) : Int) * 1000000
    omega
theorem Bd.fin {n : Nat} (ho : Ar.Ok N D T n) {l : List O} (hl : ∀ o ∈ l, OOk o N) {st : Int} (h0 : 0 ≤ st) (h1 : st ≤ 1000000) : Bd N (fin N D T ⟨0, st, 0⟩ l) l.length := by
  induction l using Ar.snoc_ind with
  | h0 => exact ⟨ho.has0, h0, by show st ≤ 1000000 + ((0 : Nat) : Int) * 1010000; omega, Int.le_refl _, by simp [Rt.fin]⟩
  | h1 l o ih =>
    rw [fin_snoc, List.length_append]
    exact (ih fun x hx => hl x (by simp [hx])).step ho (hl o (by simp))
end

/-- one order more -/
theorem next_of {N : Int} {D T : List Int} {st : S} {l : List O} {k : Nat} {nd tim dis a0 a1 a2 a3 a4 a5 a6 a7 dd tt y : Int} (hf : fin N D T st (l.take k) = ⟨nd, tim, dis⟩) (ho : l[k]? = some ⟨a0, a1, a2, a3, a4, a5, a6, a7⟩)
    (hd : Ar.at2 N D nd a2 = dd) (ht : Ar.at2 N T nd a2 = tt) (hy : max (tim + tt) a5 = y) :
    fin N D T st (l.take (k + 1)) = ⟨a2, y + a7, dis + dd⟩ ∧ visits N D T st (l.take k) ++ [⟨a0, tim + tt, y, y + a7⟩] = visits N D T st (l.take (k + 1)) ∧ inTime N D T st (l.take (k + 1)) = (inTime N D T st (l.take k) && decide (y ≤ a6)) := by
  subst hd ht hy
  rw [List.take_add_one, ho]
  simp only [Option.toList_some]
  rw [fin_snoc, visits_snoc, inTime_snoc, hf]
  exact ⟨rfl, rfl, rfl⟩
/-- of a route within its limits, at any of its orders -/
theorem Bd.at_ {N : Int} {D T : List Int} {n : Nat} (ho : Ar.Ok N D T n) {l : List O} (hl : ∀ o ∈ l, OOk o N) (h12 : l.length ≤ 12) {st : Int} (h0 : 0 ≤ st) (h1 : st ≤ 1000000) {k : Nat} {nd tim dis : Int} (hf : Rt.fin N D T ⟨0, st, 0⟩ (l.take k) = ⟨nd, tim, dis⟩) :
    Ar.hasB N nd = true ∧ 0 ≤ tim ∧ tim ≤ 20000000 ∧ 0 ≤ dis ∧ dis ≤ 20000000 := by
  have h := Bd.fin ho (l := l.take k) (fun o hm => hl o (List.mem_of_mem_take hm)) h0 h1
  rw [hf] at h
  have hlen : (l.take k).length ≤ 12 := by rw [List.length_take]; omega
  have := h.t0; have := h.t1; have := h.d0; have := h.d1
  simp only at *
  exact ⟨h.nd, by omega, by omega, by omega, by omega⟩
end Rt
end

section
/-! Plain mathematics behind the laws of package route: what a run holds, its first stops, an earlier start. No program is named here. -/
set_option linter.unusedVariables false
namespace Rt
open Ld

/-- what a run that has no error holds -/
structure Runs (N : Int) (D T : List Int) (os : List O) (ts : List Ld.T) (tr : Int) (st : List Int) : Prop where
  w : worldE N D T os ts = 0
  l1 : 1 ≤ st.length
  l2 : st.length ≤ 12
  tk : ¬ findI (ts.map Ld.T.id) tr = -1
  al : allIn os st = true
  tw : twB st = false
  ca : carE (truckAt ts tr) (ordersOf os st) = 0
  it : inTime N D T ⟨0, (truckAt ts tr).start, 0⟩ (ordersOf os st) = true
  hm : (home N D T (fin N D T ⟨0, (truckAt ts tr).start, 0⟩ (ordersOf os st))).time ≤ (truckAt ts tr).fin
section
variable {N : Int} {D T : List Int} {os : List O} {ts : List Ld.T} {tr : Int} {st : List Int}
/-- the trip of a run -/
def tripOf (N : Int) (D T : List Int) (t : Ld.T) (l : List O) : R :=
  ⟨visits N D T ⟨0, t.start, 0⟩ l, (home N D T (fin N D T ⟨0, t.start, 0⟩ l)).time, (home N D T (fin N D T ⟨0, t.start, 0⟩ l)).dist, t.fixed + t.rate * (home N D T (fin N D T ⟨0, t.start, 0⟩ l)).dist, 0⟩
theorem drive_cases (t : Ld.T) (l : List O) : (driveS N D T t l = tripOf N D T t l ∧ inTime N D T ⟨0, t.start, 0⟩ l = true ∧ (home N D T (fin N D T ⟨0, t.start, 0⟩ l)).time ≤ t.fin) ∨ driveS N D T t l = err 10 := by
  unfold driveS
  split
  · rename_i h
    exact .inl ⟨rfl, h.1, h.2⟩
  · exact .inr rfl
theorem runs_of (h : (runS N D T os ts tr st).e = 0) : Runs N D T os ts tr st ∧ runS N D T os ts tr st = tripOf N D T (truckAt ts tr) (ordersOf os st) := by
  by_cases h1 : worldE N D T os ts = 0
  · by_cases h2 : st.length < 1 ∨ 12 < st.length
    · rw [run_form h1 h2] at h
      cases h
    · by_cases h3 : findI (ts.map Ld.T.id) tr = -1 ∨ allIn os st = false
      · rw [run_name h1 h2 h3] at h
        cases h
      · have h4 : ¬ findI (ts.map Ld.T.id) tr = -1 := fun e => h3 (.inl e)
        have h5 : allIn os st = true := by
          cases e : allIn os st
          · exact absurd (.inr e) h3
          · rfl
        cases h6 : twB st
        · by_cases h7 : carE (truckAt ts tr) (ordersOf os st) = 0
          · rw [run_go h1 h2 h4 h5 h6 h7] at h ⊢
            rcases drive_cases (N := N) (D := D) (T := T) (truckAt ts tr) (ordersOf os st) with ⟨a, b, c⟩ | a
            · exact ⟨⟨h1, by omega, by omega, h4, h5, h6, h7, b, c⟩, a⟩
            · rw [a] at h
              cases h
          · rw [run_load h1 h2 h4 h5 h6 rfl h7] at h
            exact absurd h h7
        · rw [run_twice h1 h2 h4 h5 h6] at h
          cases h
  · rw [run_world rfl h1] at h
    exact absurd h h1
theorem Runs.go (h : Runs N D T os ts tr st) : runS N D T os ts tr st = driveS N D T (truckAt ts tr) (ordersOf os st) := run_go h.w (by have := h.l1; have := h.l2; omega) h.tk h.al h.tw h.ca
theorem Runs.run (h : Runs N D T os ts tr st) : runS N D T os ts tr st = tripOf N D T (truckAt ts tr) (ordersOf os st) := by
  rw [h.go]
  unfold driveS
  rw [if_pos ⟨h.it, h.hm⟩]
  rfl
theorem ordersOf_len : (ordersOf os st).length = st.length := by unfold ordersOf; rw [List.length_map]
theorem trip_len (t : Ld.T) (l : List O) : (tripOf N D T t l).vs.length = l.length := visits_len l _
theorem run_err (h : ¬ (runS N D T os ts tr st).e = 0) : (runS N D T os ts tr st).vs = [] ∧ (runS N D T os ts tr st).cost = 0 := by
  unfold runS at h ⊢
  split at h
  · split at h
    · rename_i h1 h2
      rw [if_pos h1, if_pos h2]
      exact ⟨rfl, rfl⟩
    · split at h
      · rename_i h1 h2 h3
        rw [if_pos h1, if_neg h2, if_pos h3]
        exact ⟨rfl, rfl⟩
      · split at h
        · rename_i h1 h2 h3 h4
          rw [if_pos h1, if_neg h2, if_neg h3, if_pos h4]
          exact ⟨rfl, rfl⟩
        · split at h
          · rename_i h1 h2 h3 h4 h5
            rw [if_pos h1, if_neg h2, if_neg h3, if_neg h4, if_pos h5]
            rcases drive_cases (N := N) (D := D) (T := T) (truckAt ts tr) (ordersOf os st) with ⟨a, _, _⟩ | a
            · rw [a] at h
              exact absurd rfl h
            · rw [a]
              exact ⟨rfl, rfl⟩
          · rename_i h1 h2 h3 h4 h5
            rw [if_pos h1, if_neg h2, if_neg h3, if_neg h4, if_neg h5]
            exact ⟨rfl, rfl⟩
  · rename_i h1
    rw [if_neg h1]
    exact ⟨rfl, rfl⟩

/-- a truck that carries some carries the first of them -/
theorem car_take {n : Int} {t : Ld.T} {l : List O} (hl : ∀ o ∈ l, OOk o n) (h2 : l.length ≤ 200) (h : carE t l = 0) (k : Nat) : carE t (l.take k) = 0 := by
  obtain ⟨w, v, a, b, c, d, hs⟩ := less_of (fine_of hl h2) k
  have hn : ¬ (t.weight < w ∨ t.volume < v) := fun e => by
    rw [car_more hs.s0 e] at h
    cases h
  have := hs.w; have := hs.v; have := hs.c0; have := hs.d0
  exact car_ok hs.s1 (by omega) (by omega)
theorem tw_take {l : List Int} (h : twB l = false) (k : Nat) : twB (l.take k) = false := tw_nodup ((nodup_of_tw h).sublist (List.take_sublist k l))
theorem allIn_take (h : allIn os st = true) (k : Nat) : allIn os (st.take k) = true := List.all_eq_true.2 fun x hx => List.all_eq_true.1 h x (List.mem_of_mem_take hx)
theorem ordersOf_take (k : Nat) : ordersOf os (st.take k) = (ordersOf os st).take k := by unfold ordersOf; rw [List.map_take]
theorem Runs.oo (h : Runs N D T os ts tr st) : ∀ o ∈ ordersOf os st, OOk o N := fun o ho => (ok_of h.w).oo o (orders_mem h.al o ho)
/-- the first stops of a route that can be run: they can, too, or are late on the way back -/
theorem first_of (h : Runs N D T os ts tr st) (k : Nat) (h1 : 1 ≤ k) (h2 : k ≤ st.length) :
    runS N D T os ts tr (st.take k) = err 10 ∨ ((runS N D T os ts tr (st.take k)).e = 0 ∧ (runS N D T os ts tr (st.take k)).vs = (visits N D T ⟨0, (truckAt ts tr).start, 0⟩ (ordersOf os st)).take k) := by
  have hg : runS N D T os ts tr (st.take k) = driveS N D T (truckAt ts tr) (ordersOf os (st.take k)) :=
    run_go h.w (by have := h.l2; rw [List.length_take]; omega) h.tk (allIn_take h.al k) (tw_take h.tw k) (by rw [ordersOf_take]; exact car_take h.oo (by rw [ordersOf_len]; have := h.l2; omega) h.ca k)
  rw [hg]
  rcases drive_cases (N := N) (D := D) (T := T) (truckAt ts tr) (ordersOf os (st.take k)) with ⟨a, _, _⟩ | a
  · right
    rw [a]
    refine ⟨rfl, ?_⟩
    show visits N D T _ (ordersOf os (st.take k)) = _
    rw [ordersOf_take, visits_take]
  · exact .inl a

/-- a truck that starts earlier is nowhere later -/
structure Le (a b : S) : Prop where
  n : a.node = b.node
  t : a.time ≤ b.time
  d : a.dist = b.dist
structure VLe (a b : V) : Prop where
  ar : a.arrive ≤ b.arrive
  be : a.start ≤ b.start
  le : a.leave ≤ b.leave
theorem Le.visit {a b : S} (h : Le a b) (o : O) : VLe (visit N T a o) (visit N T b o) := by
  have h1 := h.n; have h2 := h.t
  refine ⟨?_, ?_, ?_⟩
  · show a.time + Ar.at2 N T a.node o.node ≤ b.time + Ar.at2 N T b.node o.node
    rw [h1]; omega
  · show max (a.time + Ar.at2 N T a.node o.node) o.frm ≤ max (b.time + Ar.at2 N T b.node o.node) o.frm
    rw [h1]; omega
  · show max (a.time + Ar.at2 N T a.node o.node) o.frm + o.service ≤ max (b.time + Ar.at2 N T b.node o.node) o.frm + o.service
    rw [h1]; omega
theorem Le.step {a b : S} (h : Le a b) (o : O) : Le (step N D T a o) (step N D T b o) :=
  ⟨rfl, (h.visit o).le, by show a.dist + Ar.at2 N D a.node o.node = b.dist + Ar.at2 N D b.node o.node; rw [h.n, h.d]⟩
theorem Le.fin {l : List O} : ∀ {a b : S}, Le a b → Le (fin N D T a l) (fin N D T b l) := by
  induction l with
  | nil => intro a b h; exact h
  | cons o r ih => intro a b h; exact ih (h.step o)
theorem Le.inTime {l : List O} : ∀ {a b : S}, Le a b → inTime N D T b l = true → inTime N D T a l = true := by
  induction l with
  | nil => intro a b h _; rfl
  | cons o r ih =>
    intro a b h hb
    simp only [Rt.inTime, Bool.and_eq_true] at hb ⊢
    have := of_decide_eq_true hb.1
    have := (h.visit (N := N) (T := T) o).be
    exact ⟨decide_eq_true (by omega), ih (h.step o) hb.2⟩
theorem Le.visits {l : List O} : ∀ {a b : S}, Le a b → ∀ (k : Nat) (u v : V), (visits N D T a l)[k]? = some u → (visits N D T b l)[k]? = some v → VLe u v := by
  induction l with
  | nil => intro a b h k u v hu; simp [Rt.visits] at hu
  | cons o r ih =>
    intro a b h k u v hu hv
    cases k with
    | zero => simp [Rt.visits] at hu hv; subst hu hv; exact h.visit o
    | succ k => simp [Rt.visits] at hu hv; exact ih (h.step o) k u v hu hv

/-- a list with one of it in another's place -/
theorem find_of_ids {l m : List Int} (h : l = m) (x : Int) : findI l x = findI m x := by rw [h]
theorem set_ids {k : Nat} {t t' : Ld.T} (h : ts[k]? = some t) (hid : t'.id = t.id) : (ts.set k t').map Ld.T.id = ts.map Ld.T.id := by
  apply List.ext_getElem?
  intro i
  rw [List.getElem?_map, List.getElem?_map, List.getElem?_set]
  split
  · rename_i e
    subst e
    rw [h]
    split
    · simp [hid]
    · rename_i h2
      have := (List.getElem?_eq_some_iff.1 h).1
      exact absurd this h2
  · rfl
theorem early_of (h : Runs N D T os ts tr st) {k : Nat} {t t' : Ld.T} (hk : findI (ts.map Ld.T.id) tr = (k : Int)) (ht : ts[k]? = some t) (h1 : t'.id = t.id) (h2 : t'.weight = t.weight) (h3 : t'.volume = t.volume) (h4 : t'.fixed = t.fixed) (h5 : t'.rate = t.rate)
    (h6 : 0 ≤ t'.start) (h7 : t'.start ≤ t.start) (h8 : t.fin ≤ t'.fin) (h9 : t'.fin ≤ 1000000) :
    (runS N D T os (ts.set k t') tr st).e = 0 ∧ (runS N D T os (ts.set k t') tr st).back ≤ (runS N D T os ts tr st).back ∧ (runS N D T os (ts.set k t') tr st).dist = (runS N D T os ts tr st).dist ∧ (runS N D T os (ts.set k t') tr st).cost = (runS N D T os ts tr st).cost ∧
    (runS N D T os (ts.set k t') tr st).vs = visits N D T ⟨0, t'.start, 0⟩ (ordersOf os st) ∧ (runS N D T os ts tr st).vs = visits N D T ⟨0, t.start, 0⟩ (ordersOf os st) ∧ Le ⟨0, t'.start, 0⟩ ⟨0, t.start, 0⟩ := by
  have hok := ok_of h.w
  have htok := hok.tt t (List.mem_of_getElem? ht)
  have hids := set_ids (t' := t') ht h1
  have hta := truckAt_eq hk ht
  have hkl : k < ts.length := (List.getElem?_eq_some_iff.1 ht).1
  have hta' : truckAt (ts.set k t') tr = t' := truckAt_eq (by rw [hids]; exact hk) (by rw [List.getElem?_set]; simp [hkl])
  have hL : Le ⟨0, t'.start, 0⟩ ⟨0, t.start, 0⟩ := ⟨rfl, h7, rfl⟩
  have htok' : TOk t' := ⟨by rw [h1]; exact htok.id0, by rw [h1]; exact htok.id1, by rw [h2]; exact htok.we0, by rw [h2]; exact htok.we1, by rw [h3]; exact htok.vo0, by rw [h3]; exact htok.vo1, h6, by have := htok.st1; omega, h9, by rw [h4]; exact htok.fx0, by rw [h4]; exact htok.fx1, by rw [h5]; exact htok.ra0, by rw [h5]; exact htok.ra1⟩
  have hw : worldE N D T os (ts.set k t') = 0 := by
    have hw0 := h.w
    rcases check_01 N D T with ⟨c1, c2⟩ | ⟨c1, c2⟩
    · rw [world_rest c1] at hw0 ⊢
      obtain ⟨a, b, c, d, e, f⟩ := world_is hw0
      refine world_ok a (by rw [List.length_set]; exact b) c ?_ (tw_nodup e) (by rw [hids]; exact tw_nodup f)
      refine List.all_eq_true.2 fun y hy => ?_
      rcases List.mem_or_eq_of_mem_set hy with hy | rfl
      · exact List.all_eq_true.1 d y hy
      · exact (tB_iff y).2 htok'
    · rw [world_bad c1] at hw0
      cases hw0
  have hca : carE t' (ordersOf os st) = 0 := by
    have := h.ca
    rw [hta] at this
    unfold carE at this ⊢
    rw [h2, h3]
    exact this
  have hit := h.it
  have hhm := h.hm
  rw [hta] at hit hhm
  have hF := Le.fin (N := N) (D := D) (T := T) (l := ordersOf os st) hL
  have htime : (home N D T (fin N D T ⟨0, t'.start, 0⟩ (ordersOf os st))).time ≤ (home N D T (fin N D T ⟨0, t.start, 0⟩ (ordersOf os st))).time := by
    show (fin N D T ⟨0, t'.start, 0⟩ (ordersOf os st)).time + Ar.at2 N T (fin N D T ⟨0, t'.start, 0⟩ (ordersOf os st)).node 0 ≤ _ + Ar.at2 N T (fin N D T ⟨0, t.start, 0⟩ (ordersOf os st)).node 0
    have := hF.t
    rw [hF.n]
    omega
  have hdist : (home N D T (fin N D T ⟨0, t'.start, 0⟩ (ordersOf os st))).dist = (home N D T (fin N D T ⟨0, t.start, 0⟩ (ordersOf os st))).dist := by
    show (fin N D T ⟨0, t'.start, 0⟩ (ordersOf os st)).dist + Ar.at2 N D (fin N D T ⟨0, t'.start, 0⟩ (ordersOf os st)).node 0 = _ + Ar.at2 N D (fin N D T ⟨0, t.start, 0⟩ (ordersOf os st)).node 0
    rw [hF.n, hF.d]
  have hr' : Runs N D T os (ts.set k t') tr st := ⟨hw, h.l1, h.l2, by rw [hids]; exact h.tk, h.al, h.tw, by rw [hta']; exact hca, by rw [hta']; exact hL.inTime hit, by rw [hta']; omega⟩
  rw [hr'.run, h.run, hta, hta']
  exact ⟨rfl, htime, hdist, by show t'.fixed + t'.rate * _ = t.fixed + t.rate * _; rw [h4, h5, hdist], rfl, rfl, hL⟩
end
end Rt
end

section
/-! Plain mathematics behind package plan: lists that rise, whom a plan serves, what it costs, which is better. No program is named here. -/
set_option linter.unusedVariables false
namespace Pl
open Ld

/-- a list, rising -/
def ins (x : Int) : List Int → List Int
  | [] => [x]
  | y :: r => if y ≤ x then y :: ins x r else x :: y :: r
def srt (l : List Int) : List Int := l.foldl (fun a x => ins x a) []
theorem ins_perm (x : Int) (l : List Int) : (ins x l).Perm (x :: l) := by
  induction l with
  | nil => exact List.Perm.refl _
  | cons y r ih =>
    unfold ins
    split
    · exact (List.Perm.cons y ih).trans (List.Perm.swap x y r)
    · exact List.Perm.refl _
theorem ins_sorted (x : Int) (l : List Int) (h : l.Pairwise (· ≤ ·)) : (ins x l).Pairwise (· ≤ ·) := by
  induction l with
  | nil => simp [ins]
  | cons y r ih =>
    rw [List.pairwise_cons] at h
    unfold ins
    split
    · rename_i hy
      rw [List.pairwise_cons]
      refine ⟨fun z hz => ?_, ih h.2⟩
      rcases List.mem_cons.1 ((ins_perm x r).mem_iff.1 hz) with rfl | hz
      · exact hy
      · exact h.1 z hz
    · rename_i hy
      rw [List.pairwise_cons, List.pairwise_cons]
      refine ⟨fun z hz => ?_, h.1, h.2⟩
      rcases List.mem_cons.1 hz with rfl | hz
      · omega
      · have := h.1 z hz
        omega
theorem srt_nil : srt [] = [] := rfl
theorem srt_snoc (l : List Int) (x : Int) : srt (l ++ [x]) = ins x (srt l) := by unfold srt; rw [List.foldl_append]; rfl
theorem srt_perm (l : List Int) : (srt l).Perm l := by
  induction l using Ar.snoc_ind with
  | h0 => exact List.Perm.refl _
  | h1 l x ih =>
    rw [srt_snoc]
    exact (ins_perm x _).trans ((List.Perm.cons x ih).trans (List.perm_append_comm (l₁ := [x])))
theorem srt_sorted (l : List Int) : (srt l).Pairwise (· ≤ ·) := by
  induction l using Ar.snoc_ind with
  | h0 => exact List.Pairwise.nil
  | h1 l x ih => rw [srt_snoc]; exact ins_sorted x _ ih
theorem srt_of {l m : List Int} (h : m.Perm l) (hs : m.Pairwise (· ≤ ·)) : m = srt l :=
  List.Perm.eq_of_pairwise (fun a b _ _ h1 h2 => Int.le_antisymm h1 h2) hs (srt_sorted l) (h.trans (srt_perm l).symm)
theorem srt_congr {l m : List Int} (h : l.Perm m) : srt l = srt m := srt_of ((srt_perm l).trans h) (srt_sorted l)
theorem srt_idem (l : List Int) : srt (srt l) = srt l := srt_congr (srt_perm l)
theorem merge_srt (l : List Int) : (l.mergeSort fun x y => decide (x ≤ y)) = srt l := by
  refine srt_of (List.mergeSort_perm l _) ?_
  have := List.pairwise_mergeSort (le := fun x y : Int => decide (x ≤ y)) (fun a b c h1 h2 => by
    have := of_decide_eq_true h1; have := of_decide_eq_true h2
    exact decide_eq_true (by omega)) (fun a b => by
    rw [Bool.or_eq_true, decide_eq_true_iff, decide_eq_true_iff]; omega) l
  exact this.imp fun h => of_decide_eq_true h
theorem mem_srt {l : List Int} {x : Int} : x ∈ srt l ↔ x ∈ l := (srt_perm l).mem_iff
theorem srt_len (l : List Int) : (srt l).length = l.length := (srt_perm l).length_eq
theorem srt_nodup {l : List Int} : (srt l).Nodup ↔ l.Nodup := (srt_perm l).nodup_iff

/-- two of a rising list's the same -/
def dupB : List Int → Bool
  | [] => false
  | x :: r => (match r with | [] => false | y :: _ => x == y) || dupB r
theorem dup_one (x : Int) : dupB [x] = false := rfl
theorem dup_two (x y : Int) (r : List Int) : dupB (x :: y :: r) = ((x == y) || dupB (y :: r)) := rfl
theorem dup_nodup {l : List Int} (hs : l.Pairwise (· ≤ ·)) : dupB l = false ↔ l.Nodup := by
  induction l with
  | nil => simp [dupB]
  | cons x r ih =>
    cases r with
    | nil => simp [dupB]
    | cons y r =>
      rw [List.pairwise_cons] at hs
      rw [dup_two, Bool.or_eq_false_iff, ih hs.2, List.nodup_cons (a := x), beq_eq_false_iff_ne]
      constructor
      · rintro ⟨h1, h2⟩
        refine ⟨fun hm => ?_, h2⟩
        have h3 := hs.1 y (by simp)
        rcases List.mem_cons.1 hm with h | h
        · exact h1 h
        · have h4 := (List.pairwise_cons.1 hs.2).1 x h
          exact h1 (by omega)
      · rintro ⟨h1, h2⟩
        exact ⟨fun e => h1 (by rw [e]; simp), h2⟩
theorem dup_srt {l : List Int} : dupB (srt l) = false ↔ l.Nodup := (dup_nodup (srt_sorted l)).trans srt_nodup
theorem dup_tw (l : List Int) : dupB (srt l) = twB l := by
  cases h : twB l
  · exact dup_srt.2 (nodup_of_tw h)
  · cases h2 : dupB (srt l)
    · rw [tw_nodup (dup_srt.1 h2)] at h
      exact h
    · rfl
theorem dup_at {l : List Int} {k : Nat} {x : Int} (h1 : l[k]? = some x) (h2 : l[k + 1]? = some x) : dupB l = true := by
  induction l generalizing k with
  | nil => simp at h1
  | cons a r ih =>
    cases r with
    | nil => simp at h2
    | cons b r =>
      rw [dup_two]
      cases k with
      | zero => simp at h1 h2; subst h1 h2; simp
      | succ k => rw [Bool.or_eq_true]; exact .inr (ih (by simpa using h1) (by simpa using h2))
theorem dup_none {l : List Int} (h : ∀ (k : Nat) (x y : Int), l[k]? = some x → l[k + 1]? = some y → x ≠ y) : dupB l = false := by
  induction l with
  | nil => rfl
  | cons a r ih =>
    cases r with
    | nil => rfl
    | cons b r =>
      rw [dup_two, Bool.or_eq_false_iff]
      exact ⟨beq_eq_false_iff_ne.2 (h 0 a b rfl rfl), ih fun k x y h1 h2 => h (k + 1) x y (by simpa using h1) (by simpa using h2)⟩

/-- a route, plain -/
structure Ro where
  tr : Int
  st : List Int
def stops (rs : List Ro) : List Int := rs.flatMap Ro.st
def trs (rs : List Ro) : List Int := rs.map Ro.tr
def servedS (rs : List Ro) : List Int := srt (stops rs)
def outB (l : List Int) (i : Int) : Bool := !(l.contains i)
def restL (os : List O) (rs : List Ro) : List Int := (os.map O.id).filter (outB (servedS rs))
def restS (os : List O) (rs : List Ro) : List Int := srt (restL os rs)
theorem stops_snoc (rs : List Ro) (r : Ro) : stops (rs ++ [r]) = stops rs ++ r.st := by unfold stops; simp
theorem stops_take {rs : List Ro} {k : Nat} {r : Ro} (h : rs[k]? = some r) : stops (rs.take (k + 1)) = stops (rs.take k) ++ r.st := by
  rw [List.take_add_one, h]
  exact stops_snoc _ _
theorem stops_le (rs : List Ro) (k : Nat) : (stops (rs.take k)).length ≤ (stops rs).length := by
  have h : stops rs = stops (rs.take k) ++ stops (rs.drop k) := by unfold stops; rw [← List.flatMap_append, List.take_append_drop]
  rw [h, List.length_append]
  omega
theorem out_iff (l : List Int) (i : Int) : outB l i = true ↔ i ∉ l := by unfold outB; simp
theorem restL_take_in {os : List O} {rs : List Ro} {k : Nat} {o : O} (h : os[k]? = some o) (ho : outB (servedS rs) o.id = true) : restL (os.take (k + 1)) rs = restL (os.take k) rs ++ [o.id] := by
  unfold restL
  rw [List.take_add_one, h, List.map_append, List.filter_append]
  simp [ho]
theorem restL_take_out {os : List O} {rs : List Ro} {k : Nat} {o : O} (h : os[k]? = some o) (ho : outB (servedS rs) o.id = false) : restL (os.take (k + 1)) rs = restL (os.take k) rs := by
  unfold restL
  rw [List.take_add_one, h, List.map_append, List.filter_append]
  simp [ho]
theorem restL_len (os : List O) (rs : List Ro) : (restL os rs).length ≤ os.length := by
  unfold restL
  refine Nat.le_trans (List.length_filter_le _ _) ?_
  rw [List.length_map]
  exact Nat.le_refl _
theorem restS_len (os : List O) (rs : List Ro) : (restS os rs).length ≤ os.length := by unfold restS; rw [srt_len]; exact restL_len os rs

/-- route by route, the first error -/
def tripE (f : Ro → Rt.R) : List Ro → Int
  | [] => 0
  | r :: l => if (f r).e = 0 then tripE f l else (f r).e
def costs (f : Ro → Rt.R) (rs : List Ro) : List Int := rs.map fun r => (f r).cost
theorem trip_zero {f : Ro → Rt.R} {rs : List Ro} : tripE f rs = 0 ↔ ∀ r ∈ rs, (f r).e = 0 := by
  induction rs with
  | nil => simp [tripE]
  | cons r l ih =>
    unfold tripE
    split
    · rename_i h
      rw [ih]
      simp [h]
    · rename_i h
      constructor
      · intro e; exact absurd e h
      · intro e; exact absurd (e r (by simp)) h
theorem trip_first {f : Ro → Rt.R} {rs : List Ro} {k : Nat} {r : Ro} (hr : rs[k]? = some r) (h0 : ∀ (j : Nat) (s : Ro), j < k → rs[j]? = some s → (f s).e = 0) (h1 : ¬ (f r).e = 0) : tripE f rs = (f r).e := by
  induction rs generalizing k with
  | nil => simp at hr
  | cons a l ih =>
    cases k with
    | zero =>
      simp at hr
      subst hr
      unfold tripE
      rw [if_neg h1]
    | succ k =>
      unfold tripE
      rw [if_pos (h0 0 a (by omega) rfl)]
      exact ih (by simpa using hr) (fun j s hj hs => h0 (j + 1) s (by omega) (by simpa using hs))
theorem trip_all {f : Ro → Rt.R} {rs : List Ro} (h : ∀ (j : Nat) (s : Ro), rs[j]? = some s → (f s).e = 0) : tripE f rs = 0 :=
  trip_zero.2 fun r hr => by obtain ⟨j, hj⟩ := List.getElem?_of_mem hr; exact h j r hj

section
variable (N : Int) (D T : List Int) (os : List O) (ts : List Ld.T)
def run (r : Ro) : Rt.R := Rt.runS N D T os ts r.tr r.st
def checkS (rs : List Ro) (us : List Int) : Int × Int :=
  if Rt.worldE N D T os ts = 0 then
    (if 6 < rs.length then (0, 4)
    else if tripE (run N D T os ts) rs = 0 then
      (if dupB (srt (trs rs)) = true ∨ dupB (servedS rs) = true then (0, 6)
      else if us = restS os rs then ((costs (run N D T os ts) rs).sum, 0)
      else (0, 2))
    else (0, tripE (run N D T os ts) rs))
  else (0, Rt.worldE N D T os ts)
end
section
variable {N : Int} {D T : List Int} {os : List O} {ts : List Ld.T} {rs : List Ro} {us : List Int}
theorem ck_world {e : Int} (h : Rt.worldE N D T os ts = e) (he : ¬ e = 0) : checkS N D T os ts rs us = (0, e) := by unfold checkS; rw [h, if_neg he]
theorem ck_full (h : Rt.worldE N D T os ts = 0) (h2 : 6 < rs.length) : checkS N D T os ts rs us = (0, 4) := by unfold checkS; rw [if_pos h, if_pos h2]
theorem ck_trip {e : Int} (h : Rt.worldE N D T os ts = 0) (h2 : ¬ 6 < rs.length) (h3 : tripE (run N D T os ts) rs = e) (he : ¬ e = 0) : checkS N D T os ts rs us = (0, e) := by unfold checkS; rw [if_pos h, if_neg h2, h3, if_neg he]
theorem ck_twice (h : Rt.worldE N D T os ts = 0) (h2 : ¬ 6 < rs.length) (h3 : tripE (run N D T os ts) rs = 0) (h4 : dupB (srt (trs rs)) = true ∨ dupB (servedS rs) = true) : checkS N D T os ts rs us = (0, 6) := by unfold checkS; rw [if_pos h, if_neg h2, if_pos h3, if_pos h4]
theorem ck_form (h : Rt.worldE N D T os ts = 0) (h2 : ¬ 6 < rs.length) (h3 : tripE (run N D T os ts) rs = 0) (h4 : dupB (srt (trs rs)) = false) (h5 : dupB (servedS rs) = false) (h6 : ¬ us = restS os rs) : checkS N D T os ts rs us = (0, 2) := by
  unfold checkS; rw [if_pos h, if_neg h2, if_pos h3, if_neg (by rw [h4, h5]; simp), if_neg h6]
theorem ck_ok (h : Rt.worldE N D T os ts = 0) (h2 : ¬ 6 < rs.length) (h3 : tripE (run N D T os ts) rs = 0) (h4 : dupB (srt (trs rs)) = false) (h5 : dupB (servedS rs) = false) (h6 : us = restS os rs) : checkS N D T os ts rs us = ((costs (run N D T os ts) rs).sum, 0) := by
  unfold checkS; rw [if_pos h, if_neg h2, if_pos h3, if_neg (by rw [h4, h5]; simp), if_pos h6]

/-- what a plan that may be holds -/
structure May (N : Int) (D T : List Int) (os : List O) (ts : List Ld.T) (rs : List Ro) (us : List Int) : Prop where
  w : Rt.worldE N D T os ts = 0
  l6 : rs.length ≤ 6
  tp : ∀ r ∈ rs, (run N D T os ts r).e = 0
  tn : (trs rs).Nodup
  sn : (stops rs).Nodup
  us : us = restS os rs
theorem may_of (h : (checkS N D T os ts rs us).2 = 0) : May N D T os ts rs us ∧ checkS N D T os ts rs us = ((costs (run N D T os ts) rs).sum, 0) := by
  by_cases h1 : Rt.worldE N D T os ts = 0
  · by_cases h2 : 6 < rs.length
    · rw [ck_full h1 h2] at h; cases h
    · by_cases h3 : tripE (run N D T os ts) rs = 0
      · cases h4 : dupB (srt (trs rs))
        · cases h5 : dupB (servedS rs)
          · by_cases h6 : us = restS os rs
            · exact ⟨⟨h1, by omega, trip_zero.1 h3, dup_srt.1 h4, dup_srt.1 h5, h6⟩, ck_ok h1 h2 h3 h4 h5 h6⟩
            · rw [ck_form h1 h2 h3 h4 h5 h6] at h; cases h
          · rw [ck_twice h1 h2 h3 (.inr h5)] at h; cases h
        · rw [ck_twice h1 h2 h3 (.inl h4)] at h; cases h
      · rw [ck_trip h1 h2 rfl h3] at h; exact absurd h h3
  · rw [ck_world rfl h1] at h; exact absurd h h1
theorem May.check (h : May N D T os ts rs us) : checkS N D T os ts rs us = ((costs (run N D T os ts) rs).sum, 0) :=
  ck_ok h.w (by have := h.l6; omega) (trip_zero.2 h.tp) (dup_srt.2 h.tn) (dup_srt.2 h.sn) h.us
theorem check_zero (h : ¬ (checkS N D T os ts rs us).2 = 0) : (checkS N D T os ts rs us).1 = 0 := by
  unfold checkS at h ⊢
  split
  · rename_i h1
    rw [if_pos h1] at h
    split
    · rfl
    · rename_i h2
      rw [if_neg h2] at h
      split
      · rename_i h3
        rw [if_pos h3] at h
        split
        · rfl
        · rename_i h4
          rw [if_neg h4] at h
          split
          · rename_i h5
            rw [if_pos h5] at h
            exact absurd rfl h
          · rfl
      · rfl
  · rfl
theorem check_e : (checkS N D T os ts rs us).2 = 0 ∨ (checkS N D T os ts rs us).1 = 0 := by
  by_cases h : (checkS N D T os ts rs us).2 = 0
  · exact .inl h
  · exact .inr (check_zero h)

/-- how much a trip costs -/
theorem cost_fits {r : Ro} (h : (run N D T os ts r).e = 0) : 0 ≤ (run N D T os ts r).cost ∧ (run N D T os ts r).cost ≤ 20000000000 := by
  obtain ⟨hr, e⟩ := Rt.runs_of h
  have hw := hr.w
  have hok := Rt.ok_of hw
  obtain ⟨k, t, hk, _, ht, _⟩ := Rt.find_mem Ld.T.id ts r.tr hr.tk
  have hta := Rt.truckAt_eq hk ht
  have htok := hok.tt t (List.mem_of_getElem? ht)
  have hb := Rt.Bd.fin (N := N) (D := D) (T := T) hok.ar (l := Rt.ordersOf os r.st) hr.oo (st := (Rt.truckAt ts r.tr).start) (by rw [hta]; exact htok.st0) (by rw [hta]; exact Int.le_trans htok.st1 htok.fi1)
  have hl : (Rt.ordersOf os r.st).length ≤ 12 := by rw [Rt.ordersOf_len]; exact hr.l2
  have h1 := hok.ar.at_d hb.nd hok.ar.has0
  have hc : (run N D T os ts r).cost = (Rt.truckAt ts r.tr).fixed + (Rt.truckAt ts r.tr).rate * ((Rt.fin N D T ⟨0, (Rt.truckAt ts r.tr).start, 0⟩ (Rt.ordersOf os r.st)).dist + Ar.at2 N D (Rt.fin N D T ⟨0, (Rt.truckAt ts r.tr).start, 0⟩ (Rt.ordersOf os r.st)).node 0) := by
    show (Rt.runS N D T os ts r.tr r.st).cost = _
    rw [e]; rfl
  have h2 := hb.d0; have h3 := hb.d1
  have hd0 : 0 ≤ (Rt.fin N D T ⟨0, (Rt.truckAt ts r.tr).start, 0⟩ (Rt.ordersOf os r.st)).dist + Ar.at2 N D (Rt.fin N D T ⟨0, (Rt.truckAt ts r.tr).start, 0⟩ (Rt.ordersOf os r.st)).node 0 := by omega
  have hd1 : (Rt.fin N D T ⟨0, (Rt.truckAt ts r.tr).start, 0⟩ (Rt.ordersOf os r.st)).dist + Ar.at2 N D (Rt.fin N D T ⟨0, (Rt.truckAt ts r.tr).start, 0⟩ (Rt.ordersOf os r.st)).node 0 ≤ 13000000 := by omega
  generalize (Rt.fin N D T ⟨0, (Rt.truckAt ts r.tr).start, 0⟩ (Rt.ordersOf os r.st)).dist + Ar.at2 N D (Rt.fin N D T ⟨0, (Rt.truckAt ts r.tr).start, 0⟩ (Rt.ordersOf os r.st)).node 0 = d at *
  rw [hc, hta]
  have f0 := htok.fx0; have f1 := htok.fx1; have r0 := htok.ra0; have r1 := htok.ra1
  have m0 : 0 ≤ t.rate * d := Int.mul_nonneg r0 hd0
  have m1 : t.rate * d ≤ 1000 * 13000000 := Int.mul_le_mul r1 hd1 hd0 (by omega)
  omega
theorem sum_fits {l : List Int} (h : ∀ x ∈ l, 0 ≤ x ∧ x ≤ 20000000000) (n : Int) (h0 : 0 ≤ n) (h1 : n + 20000000000 * (l.length : Int) ≤ 4000000000000000000) : Grp.sumFrom n l = (n + l.sum, 0) := by
  induction l generalizing n with
  | nil => simp [Grp.sumFrom]
  | cons a r ih =>
    have ha := h a (by simp)
    have hst := Grp.sumFrom_step n (a :: r) 0 a rfl
    simp only [List.length_cons] at h1
    have hm : Grp.mayB (n + a) = true := (Grp.mayB_iff _).2 (by omega)
    rw [hm] at hst
    simp only [List.drop_zero, List.drop_succ_cons, Nat.zero_add] at hst
    rw [hst]
    show Grp.sumFrom (n + a) r = _
    rw [ih (fun x hx => h x (by simp [hx])) (n + a) (by omega) (by omega)]
    simp only [List.sum_cons]
    rw [Int.add_assoc]
theorem costs_sum (h6 : rs.length ≤ 6) (h : ∀ r ∈ rs, (run N D T os ts r).e = 0) : Grp.sumS (costs (run N D T os ts) rs) = ((costs (run N D T os ts) rs).sum, 0) := by
  have hx : ∀ x ∈ costs (run N D T os ts) rs, 0 ≤ x ∧ x ≤ 20000000000 := by
    intro x hx
    obtain ⟨r, hr, rfl⟩ := List.mem_map.1 hx
    exact cost_fits (h r hr)
  have hl : (costs (run N D T os ts) rs).length = rs.length := List.length_map _
  have ha : (costs (run N D T os ts) rs).all Grp.mayB = true := List.all_eq_true.2 fun x h1 => by
    have := hx x h1
    exact (Grp.mayB_iff x).2 (by omega)
  have := sum_fits hx 0 (Int.le_refl _) (by rw [hl]; omega)
  unfold Grp.sumS
  rw [ha]
  simp only [if_true]
  rw [this, Int.zero_add]
end

/-- which plan is better -/
def lessB (a b : Int × Int) (m n : Nat) : Bool := decide (a.2 = 0 ∧ b.2 = 0 ∧ (m < n ∨ m = n ∧ a.1 < b.1))
theorem less_no1 {a b : Int × Int} {m n : Nat} (h : ¬ a.2 = 0) : lessB a b m n = false := decide_eq_false fun e => h e.1
theorem less_no2 {a b : Int × Int} {m n : Nat} (h : ¬ b.2 = 0) : lessB a b m n = false := decide_eq_false fun e => h e.2.1
theorem less_self (a : Int × Int) (m : Nat) : lessB a a m m = false := decide_eq_false fun e => by omega
theorem less_asym {a b : Int × Int} {m n : Nat} (h : lessB a b m n = true) : lessB b a n m = false := by
  have := of_decide_eq_true h
  exact decide_eq_false fun e => by omega
theorem less_trans {a b c : Int × Int} {m n k : Nat} (h : lessB a b m n = true) (h2 : lessB b c n k = true) : lessB a c m k = true := by
  have := of_decide_eq_true h
  have := of_decide_eq_true h2
  exact decide_eq_true (by omega)
end Pl
end

section
/-! Plain mathematics behind package bound: least numbers, the certificate of some orders, whether one holds, and that a bound that holds is at most what a plan costs. No program is named here. -/
set_option linter.unusedVariables false
namespace Bo
open Ld

/-- the least of some numbers; 0, of none -/
def lst : List Int → Int
  | [] => 0
  | x :: r => r.foldl min x
theorem fold_le (r : List Int) : ∀ x : Int, r.foldl min x ≤ x ∧ ∀ y ∈ r, r.foldl min x ≤ y := by
  induction r with
  | nil => intro x; simp
  | cons z r ih =>
    intro x
    have h := ih (min x z)
    simp only [List.foldl_cons]
    refine ⟨by have := h.1; omega, fun y hy => ?_⟩
    rcases List.mem_cons.1 hy with rfl | hy
    · have := h.1; omega
    · exact h.2 y hy
theorem fold_mem (r : List Int) : ∀ x : Int, r.foldl min x = x ∨ r.foldl min x ∈ r := by
  induction r with
  | nil => intro x; simp
  | cons z r ih =>
    intro x
    simp only [List.foldl_cons]
    rcases ih (min x z) with h | h
    · rw [h]
      by_cases hx : x ≤ z
      · exact .inl (by omega)
      · exact .inr (by rw [show min x z = z by omega]; simp)
    · exact .inr (List.mem_cons_of_mem _ h)
theorem lst_le {l : List Int} {x : Int} (h : x ∈ l) : lst l ≤ x := by
  cases l with
  | nil => simp at h
  | cons a r =>
    rcases List.mem_cons.1 h with rfl | h
    · exact (fold_le r _).1
    · exact (fold_le r _).2 x h
theorem lst_mem {l : List Int} (h : l ≠ []) : lst l ∈ l := by
  cases l with
  | nil => exact absurd rfl h
  | cons a r =>
    show r.foldl min a ∈ a :: r
    rcases fold_mem r a with h | h
    · rw [h]; simp
    · exact List.mem_cons_of_mem _ h
theorem lst_one (x : Int) : lst [x] = x := rfl
theorem lst_snoc {l : List Int} (h : l ≠ []) (x : Int) : lst (l ++ [x]) = min (lst l) x := by
  cases l with
  | nil => exact absurd rfl h
  | cons a r => show (r ++ [x]).foldl min a = _; rw [List.foldl_append]; rfl
theorem le_lst {l : List Int} {n : Int} (h : l ≠ []) : n ≤ lst l ↔ ∀ x ∈ l, n ≤ x :=
  ⟨fun e x hx => Int.le_trans e (lst_le hx), fun e => e _ (lst_mem h)⟩
theorem lst_ge {l : List Int} (hl : ∀ x ∈ l, 0 ≤ x) : 0 ≤ lst l := by
  cases l with
  | nil => exact Int.le_refl _
  | cons a r => exact hl _ (lst_mem (by simp))
theorem lst_up {l : List Int} {b : Int} (hb : 0 ≤ b) (hl : ∀ x ∈ l, x ≤ b) : lst l ≤ b := by
  cases l with
  | nil => exact hb
  | cons a r => exact hl _ (lst_mem (by simp))
theorem lst_take {l : List Int} {k : Nat} {x : Int} (h : l[k]? = some x) (hk : 0 < k) : lst (l.take (k + 1)) = min (lst (l.take k)) x := by
  rw [List.take_add_one, h]
  refine lst_snoc ?_ x
  intro e
  have := (List.getElem?_eq_some_iff.1 h).1
  have h2 := congrArg List.length e
  rw [List.length_take, List.length_nil] at h2
  omega

/-- a certificate, plain -/
structure C where
  ids : List Int
  inn : List Int
  back : Int
  rate : Int
  fixed : Int
  bound : Int
def none : C := ⟨[], [], 0, 0, 0, 0⟩
def worth (inn : List Int) (back rate fixed : Int) : Int := fixed + rate * (inn.sum + back)

section
variable (N : Int) (D : List Int)
/-- the node of one of some orders -/
def nd (l : List O) (k : Nat) : Int := ((l[k]?).getD ⟨0, 0, 0, 0, 0, 0, 0, 0⟩).node
/-- whence: the depot, and each other one's node -/
def frs (l : List O) (k : Nat) : List Int := 0 :: ((l.eraseIdx k).map O.node)
def near (l : List O) (k : Nat) : Int := lst ((frs l k).map fun f => Ar.at2 N D f (nd l k))
def nears (l : List O) : List Int := (List.range l.length).map (near N D l)
def backS (l : List O) : Int := lst (l.map fun o => Ar.at2 N D o.node 0)
def rateS (ts : List Ld.T) : Int := lst (ts.map Ld.T.rate)
def fixedS (ts : List Ld.T) : Int := lst (ts.map Ld.T.fixed)
def certOf (l : List O) (ts : List Ld.T) : C :=
  ⟨l.map O.id, nears N D l, backS N D l, rateS ts, fixedS ts, worth (nears N D l) (backS N D l) (rateS ts) (fixedS ts)⟩
def makeS (T : List Int) (os : List O) (ts : List Ld.T) (ids : List Int) : C × Int :=
  if Rt.worldE N D T os ts = 0 then
    (if Pl.dupB (Pl.srt ids) = true then (none, 6)
    else if Rt.allIn os (Pl.srt ids) = false then (none, 5)
    else if ids = [] then (none, 0)
    else (certOf N D (Rt.ordersOf os (Pl.srt ids)) ts, 0))
  else (none, Rt.worldE N D T os ts)
end

theorem nd_at {l : List O} {k : Nat} {o : O} (h : l[k]? = some o) : nd l k = o.node := by unfold nd; rw [h]; rfl
theorem nears_len (N : Int) (D : List Int) (l : List O) : (nears N D l).length = l.length := by unfold nears; simp
theorem nears_at {N : Int} {D : List Int} {l : List O} {k : Nat} (h : k < l.length) : (nears N D l)[k]? = some (near N D l k) := by
  unfold nears
  rw [List.getElem?_map, List.getElem?_range h]
  rfl
theorem nears_take (N : Int) (D : List Int) (l : List O) (k : Nat) (h : k < l.length) : (nears N D l).take (k + 1) = (nears N D l).take k ++ [near N D l k] := by
  rw [List.take_add_one, nears_at h]
  rfl

/-- a number from 0 to the most that it may be -/
def up (n most : Int) : Bool := decide (0 ≤ n) && decide (n ≤ most)
theorem up_iff (n most : Int) : up n most = true ↔ 0 ≤ n ∧ n ≤ most := by simp [up]
/-- number by number -/
def ups : List Int → List Int → Bool
  | x :: r, y :: s => up x y && ups r s
  | _, _ => true
theorem ups_iff : ∀ (a b : List Int), a.length = b.length → (ups a b = true ↔ ∀ (k : Nat) (x y : Int), a[k]? = some x → b[k]? = some y → 0 ≤ x ∧ x ≤ y)
  | [], [], _ => by simp [ups]
  | x :: r, y :: s, h => by
    have ih := ups_iff r s (by simpa using h)
    show (up x y && ups r s) = true ↔ _
    rw [Bool.and_eq_true, up_iff, ih]
    constructor
    · rintro ⟨h1, h2⟩ k a b ha hb
      cases k with
      | zero => simp at ha hb; subst ha hb; exact h1
      | succ k => exact h2 k a b (by simpa using ha) (by simpa using hb)
    · intro h
      exact ⟨h 0 x y rfl rfl, fun k a b ha hb => h (k + 1) a b (by simpa using ha) (by simpa using hb)⟩
theorem ups_stop {a b : List Int} (hl : a.length = b.length) {k : Nat} {x y : Int} (ha : a[k]? = some x) (hb : b[k]? = some y) (h : up x y = false) : ups a b = false := by
  rw [Bool.eq_false_iff]
  intro e
  have := (ups_iff a b hl).1 e k x y ha hb
  rw [(up_iff x y).2 this] at h
  cases h
theorem ups_all {a b : List Int} (hl : a.length = b.length) (h : ∀ (k : Nat) (x y : Int), a[k]? = some x → b[k]? = some y → up x y = true) : ups a b = true :=
  (ups_iff a b hl).2 fun k x y ha hb => (up_iff x y).1 (h k x y ha hb)
theorem ups_sum : ∀ (a b : List Int), a.length = b.length → ups a b = true → 0 ≤ a.sum ∧ a.sum ≤ b.sum
  | [], [], _, _ => by simp
  | x :: r, y :: s, h, hu => by
    have hu : (up x y && ups r s) = true := hu
    rw [Bool.and_eq_true, up_iff] at hu
    have ih := ups_sum r s (by simpa using h) hu.2
    simp only [List.sum_cons]
    omega

/-- whether a certificate holds -/
def holdsB (N : Int) (D T : List Int) (os : List O) (ts : List Ld.T) (c : C) : Bool :=
  decide ((makeS N D T os ts c.ids).2 = 0) && (decide (c.ids = (makeS N D T os ts c.ids).1.ids) && (decide (c.inn.length = (makeS N D T os ts c.ids).1.inn.length) &&
    (ups c.inn (makeS N D T os ts c.ids).1.inn && (up c.back (makeS N D T os ts c.ids).1.back && (up c.rate (makeS N D T os ts c.ids).1.rate && (up c.fixed (makeS N D T os ts c.ids).1.fixed &&
      decide (c.bound = worth c.inn c.back c.rate c.fixed)))))))

structure Holds (m c : C) : Prop where
  ids : c.ids = m.ids
  len : c.inn.length = m.inn.length
  ups : ups c.inn m.inn = true
  b0 : 0 ≤ c.back
  b1 : c.back ≤ m.back
  r0 : 0 ≤ c.rate
  r1 : c.rate ≤ m.rate
  f0 : 0 ≤ c.fixed
  f1 : c.fixed ≤ m.fixed
  bound : c.bound = worth c.inn c.back c.rate c.fixed
section
variable {N : Int} {D T : List Int} {os : List O} {ts : List Ld.T}
theorem holds_iff (c : C) : holdsB N D T os ts c = true ↔ (makeS N D T os ts c.ids).2 = 0 ∧ Holds (makeS N D T os ts c.ids).1 c := by
  unfold holdsB
  simp only [Bool.and_eq_true, decide_eq_true_eq, up_iff]
  constructor
  · rintro ⟨h1, h2, h3, h4, h5, h6, h7, h8⟩
    exact ⟨h1, h2, h3, h4, h5.1, h5.2, h6.1, h6.2, h7.1, h7.2, h8⟩
  · rintro ⟨h1, h⟩
    exact ⟨h1, h.ids, h.len, h.ups, ⟨h.b0, h.b1⟩, ⟨h.r0, h.r1⟩, ⟨h.f0, h.f1⟩, h.bound⟩

theorem make_world {ids : List Int} {e : Int} (h : Rt.worldE N D T os ts = e) (he : ¬ e = 0) : makeS N D T os ts ids = (none, e) := by unfold makeS; rw [h, if_neg he]
theorem make_twice {ids : List Int} (h : Rt.worldE N D T os ts = 0) (h2 : Pl.dupB (Pl.srt ids) = true) : makeS N D T os ts ids = (none, 6) := by unfold makeS; rw [if_pos h, if_pos h2]
theorem make_name {ids : List Int} (h : Rt.worldE N D T os ts = 0) (h2 : Pl.dupB (Pl.srt ids) = false) (h3 : Rt.allIn os (Pl.srt ids) = false) : makeS N D T os ts ids = (none, 5) := by
  unfold makeS; rw [if_pos h, if_neg (by rw [h2]; simp), if_pos h3]
theorem make_nil (h : Rt.worldE N D T os ts = 0) : makeS N D T os ts [] = (none, 0) := by
  unfold makeS; rw [if_pos h, if_neg (by rw [Pl.srt_nil]; simp [Pl.dupB]), if_neg (by rw [Pl.srt_nil]; simp [Rt.allIn]), if_pos rfl]
theorem make_ok {ids : List Int} (h : Rt.worldE N D T os ts = 0) (h2 : Pl.dupB (Pl.srt ids) = false) (h3 : Rt.allIn os (Pl.srt ids) = true) (h4 : ids ≠ []) : makeS N D T os ts ids = (certOf N D (Rt.ordersOf os (Pl.srt ids)) ts, 0) := by
  unfold makeS; rw [if_pos h, if_neg (by rw [h2]; simp), if_neg (by rw [h3]; simp), if_neg h4]
/-- what a certificate that is made holds -/
theorem make_is {ids : List Int} (h : (makeS N D T os ts ids).2 = 0) : Rt.worldE N D T os ts = 0 ∧ Pl.dupB (Pl.srt ids) = false ∧ Rt.allIn os (Pl.srt ids) = true ∧
    (ids = [] ∧ makeS N D T os ts ids = (none, 0) ∨ ids ≠ [] ∧ makeS N D T os ts ids = (certOf N D (Rt.ordersOf os (Pl.srt ids)) ts, 0)) := by
  by_cases h1 : Rt.worldE N D T os ts = 0
  · cases h2 : Pl.dupB (Pl.srt ids) with
    | true => rw [make_twice h1 h2] at h; cases h
    | false =>
      cases h3 : Rt.allIn os (Pl.srt ids) with
      | false => rw [make_name h1 h2 h3] at h; cases h
      | true =>
        refine ⟨h1, rfl, rfl, ?_⟩
        by_cases h4 : ids = []
        · subst h4; exact .inl ⟨rfl, make_nil h1⟩
        · exact .inr ⟨h4, make_ok h1 h2 h3 h4⟩
  · rw [make_world rfl h1] at h; exact absurd h h1
theorem make_err {ids : List Int} (h : ¬ (makeS N D T os ts ids).2 = 0) : (makeS N D T os ts ids).1 = none := by
  by_cases h1 : Rt.worldE N D T os ts = 0
  · cases h2 : Pl.dupB (Pl.srt ids) with
    | true => rw [make_twice h1 h2]
    | false =>
      cases h3 : Rt.allIn os (Pl.srt ids) with
      | false => rw [make_name h1 h2 h3]
      | true =>
        by_cases h4 : ids = []
        · subst h4; rw [make_nil h1]
        · rw [make_ok h1 h2 h3 h4] at h; exact absurd rfl h
  · rw [make_world rfl h1]

/-- an order that was asked for -/
theorem ord_of {ids : List Int} (h : Rt.allIn os ids = true) {id : Int} (hi : id ∈ ids) : (Rt.ordAt os id).id = id ∧ Rt.ordAt os id ∈ os := by
  have h1 := List.all_eq_true.1 h id hi
  have h2 : ¬ findI (os.map O.id) id = -1 := by simpa using h1
  obtain ⟨k, o, hk, _, ho, e⟩ := Rt.find_mem O.id os id h2
  rw [Rt.ordAt_eq hk ho]
  exact ⟨e, List.mem_of_getElem? ho⟩
theorem ids_of {ids : List Int} (h : Rt.allIn os ids = true) : (Rt.ordersOf os ids).map O.id = ids := by
  unfold Rt.ordersOf
  rw [List.map_map]
  have : ∀ l : List Int, (∀ x ∈ l, x ∈ ids) → l.map (O.id ∘ Rt.ordAt os) = l := by
    intro l
    induction l with
    | nil => intro _; rfl
    | cons x r ih =>
      intro hl
      rw [List.map_cons, ih fun y hy => hl y (List.mem_cons_of_mem _ hy)]
      show (Rt.ordAt os x).id :: r = x :: r
      rw [(ord_of h (hl x (by simp))).1]
  exact this ids fun x hx => hx
theorem ords_mem {ids : List Int} (h : Rt.allIn os ids = true) {o : O} (ho : o ∈ Rt.ordersOf os ids) : o ∈ os ∧ o.id ∈ ids ∧ o = Rt.ordAt os o.id := by
  obtain ⟨i, hi, rfl⟩ := List.mem_map.1 ho
  obtain ⟨e, hm⟩ := ord_of h hi
  exact ⟨hm, by rw [e]; exact hi, by rw [e]⟩
theorem ords_ne {ids : List Int} (h : ids ≠ []) : Rt.ordersOf os (Pl.srt ids) ≠ [] := by
  intro e
  have := congrArg List.length e
  rw [Rt.ordersOf_len, Pl.srt_len] at this
  exact h (List.length_eq_zero_iff.1 this)
theorem allIn_perm {a b : List Int} (h : a.Perm b) : Rt.allIn os a = Rt.allIn os b := by
  unfold Rt.allIn
  rw [Bool.eq_iff_iff, List.all_eq_true, List.all_eq_true]
  exact ⟨fun e x hx => e x (h.mem_iff.2 hx), fun e x hx => e x (h.mem_iff.1 hx)⟩

theorem mem_erase {l : List O} {k j : Nat} {o : O} (hj : j ≠ k) (h : l[j]? = some o) : o ∈ l.eraseIdx k := List.mem_eraseIdx_iff_getElem?.2 ⟨j, hj, h⟩
theorem of_erase {l : List O} {k : Nat} {o : O} (h : o ∈ l.eraseIdx k) : ∃ j, j ≠ k ∧ l[j]? = some o := List.mem_eraseIdx_iff_getElem?.1 h
theorem near_le {l : List O} {k j : Nat} {o p : O} (hk : l[k]? = some o) (hj : l[j]? = some p) (h : j ≠ k) : near N D l k ≤ Ar.at2 N D p.node o.node := by
  unfold near
  rw [nd_at hk]
  refine lst_le (List.mem_map.2 ⟨p.node, ?_, rfl⟩)
  exact List.mem_cons_of_mem _ (List.mem_map.2 ⟨p, mem_erase h hj, rfl⟩)
theorem near_depot {l : List O} {k : Nat} {o : O} (hk : l[k]? = some o) : near N D l k ≤ Ar.at2 N D 0 o.node := by
  unfold near
  rw [nd_at hk]
  exact lst_le (List.mem_map.2 ⟨0, by simp [frs], rfl⟩)
theorem le_near {l : List O} {k : Nat} {o : O} {n : Int} (hk : l[k]? = some o) (h0 : n ≤ Ar.at2 N D 0 o.node) (h1 : ∀ (j : Nat) (p : O), j ≠ k → l[j]? = some p → n ≤ Ar.at2 N D p.node o.node) : n ≤ near N D l k := by
  unfold near
  rw [nd_at hk]
  refine (le_lst (by simp [frs])).2 fun x hx => ?_
  obtain ⟨f, hf, rfl⟩ := List.mem_map.1 hx
  rcases List.mem_cons.1 hf with rfl | hf
  · exact h0
  · obtain ⟨p, hp, rfl⟩ := List.mem_map.1 hf
    obtain ⟨j, hj, hp⟩ := of_erase hp
    exact h1 j p hj hp
theorem near_bd {n : Nat} (ha : Ar.Ok N D T n) {l : List O} (hl : ∀ o ∈ l, Ar.hasB N o.node = true) {k : Nat} {o : O} (hk : l[k]? = some o) : 0 ≤ near N D l k ∧ near N D l k ≤ 1000000 := by
  have ho := hl o (List.mem_of_getElem? hk)
  refine ⟨le_near hk (ha.at_d ha.has0 ho).1 fun j p _ hp => (ha.at_d (hl p (List.mem_of_getElem? hp)) ho).1, ?_⟩
  exact Int.le_trans (near_depot hk) (ha.at_d ha.has0 ho).2
theorem back_bd {n : Nat} (ha : Ar.Ok N D T n) {l : List O} (hl : ∀ o ∈ l, Ar.hasB N o.node = true) : 0 ≤ backS N D l ∧ backS N D l ≤ 1000000 := by
  have key : ∀ x ∈ l.map fun o => Ar.at2 N D o.node 0, 0 ≤ x ∧ x ≤ 1000000 := fun x hx => by
    obtain ⟨o, ho, rfl⟩ := List.mem_map.1 hx
    exact ha.at_d (hl o ho) ha.has0
  exact ⟨lst_ge fun x hx => (key x hx).1, lst_up (by omega) fun x hx => (key x hx).2⟩
theorem rate_bd (h : ∀ t ∈ ts, TOk t) : 0 ≤ rateS ts ∧ rateS ts ≤ 1000 := by
  have key : ∀ x ∈ ts.map Ld.T.rate, 0 ≤ x ∧ x ≤ 1000 := fun x hx => by
    obtain ⟨t, ht, rfl⟩ := List.mem_map.1 hx
    exact ⟨(h t ht).ra0, (h t ht).ra1⟩
  exact ⟨lst_ge fun x hx => (key x hx).1, lst_up (by omega) fun x hx => (key x hx).2⟩
theorem fixed_bd (h : ∀ t ∈ ts, TOk t) : 0 ≤ fixedS ts ∧ fixedS ts ≤ 1000000 := by
  have key : ∀ x ∈ ts.map Ld.T.fixed, 0 ≤ x ∧ x ≤ 1000000 := fun x hx => by
    obtain ⟨t, ht, rfl⟩ := List.mem_map.1 hx
    exact ⟨(h t ht).fx0, (h t ht).fx1⟩
  exact ⟨lst_ge fun x hx => (key x hx).1, lst_up (by omega) fun x hx => (key x hx).2⟩
theorem sum_le (b : Int) (l : List Int) (h : ∀ x ∈ l, 0 ≤ x ∧ x ≤ b) : 0 ≤ l.sum ∧ l.sum ≤ b * (l.length : Int) := by
  induction l with
  | nil => simp
  | cons x r ih =>
    have h1 := h x (by simp)
    have h2 := ih fun y hy => h y (List.mem_cons_of_mem _ hy)
    simp only [List.sum_cons, List.length_cons]
    have e : b * ((r.length + 1 : Nat) : Int) = b * (r.length : Int) + b := by rw [Int.natCast_add, Int.mul_add]; simp
    rw [e]
    omega
theorem worth_le {a a2 : List Int} {b b2 r r2 f f2 : Int} (ha0 : 0 ≤ a.sum) (ha : a.sum ≤ a2.sum) (hb0 : 0 ≤ b) (hb : b ≤ b2) (hr0 : 0 ≤ r) (hr : r ≤ r2) (hf : f ≤ f2) : worth a b r f ≤ worth a2 b2 r2 f2 := by
  unfold worth
  have := Int.mul_le_mul hr (show a.sum + b ≤ a2.sum + b2 by omega) (by omega) (by omega)
  omega

/-- what is made holds -/
structure Fit (c : C) (n : Nat) : Prop where
  n12 : n ≤ 12
  len : c.inn.length = n
  inn : ∀ x ∈ c.inn, 0 ≤ x ∧ x ≤ 1000000
  b0 : 0 ≤ c.back
  b1 : c.back ≤ 1000000
  r0 : 0 ≤ c.rate
  r1 : c.rate ≤ 1000
  f0 : 0 ≤ c.fixed
  f1 : c.fixed ≤ 1000000
theorem len_sub : ∀ (l m : List Int), l.Nodup → (∀ x ∈ l, x ∈ m) → l.length ≤ m.length
  | [], m, _, _ => by simp
  | x :: r, m, hn, hs => by
    rw [List.nodup_cons] at hn
    have hx := hs x (by simp)
    have := len_sub r (m.erase x) hn.2 fun y hy => (List.mem_erase_of_ne (fun e => hn.1 (by rw [← e]; exact hy))).2 (hs y (List.mem_cons_of_mem _ hy))
    rw [List.length_erase_of_mem hx] at this
    have h0 := List.length_pos_of_mem hx
    rw [List.length_cons]
    omega
theorem nodup_len {ids : List Int} (hd : Pl.dupB (Pl.srt ids) = false) (hi : Rt.allIn os (Pl.srt ids) = true) : ids.length ≤ os.length := by
  have h1 : (Pl.srt ids).Nodup := (Pl.dup_nodup (Pl.srt_sorted ids)).1 hd
  have := len_sub (Pl.srt ids) (os.map O.id) h1 fun x hx => by
    obtain ⟨e, hm⟩ := ord_of hi hx
    rw [← e]
    exact List.mem_map.2 ⟨_, hm, rfl⟩
  rw [Pl.srt_len, List.length_map] at this
  exact this
theorem fit_none : Fit none 0 := ⟨by omega, rfl, by simp [none], by simp [none], by simp [none], by simp [none], by simp [none], by simp [none], by simp [none]⟩
theorem fit_of {ids : List Int} (h : (makeS N D T os ts ids).2 = 0) : Fit (makeS N D T os ts ids).1 ids.length := by
  obtain ⟨hw, hd, hi, h⟩ := make_is h
  rcases h with ⟨rfl, e⟩ | ⟨hne, e⟩
  · rw [e]; exact fit_none
  · have hok := Rt.ok_of hw
    have hn : ∀ o ∈ Rt.ordersOf os (Pl.srt ids), Ar.hasB N o.node = true := fun o ho => Rt.OOk.has (hok.oo o (ords_mem hi ho).1)
    have hlen := nodup_len hd hi
    rw [e]
    refine ⟨by have := hok.ol; omega, ?_, ?_, (back_bd hok.ar hn).1, (back_bd hok.ar hn).2, (rate_bd hok.tt).1, (rate_bd hok.tt).2, (fixed_bd hok.tt).1, (fixed_bd hok.tt).2⟩
    · show (nears N D _).length = _
      rw [nears_len, Rt.ordersOf_len, Pl.srt_len]
    · intro x hx
      obtain ⟨k, hk⟩ := List.getElem?_of_mem hx
      have hl := (List.getElem?_eq_some_iff.1 hk).1
      change k < (nears N D _).length at hl
      rw [nears_len] at hl
      change (nears N D _)[k]? = _ at hk
      rw [nears_at hl] at hk
      obtain rfl := Option.some.inj hk
      exact near_bd hok.ar hn (List.getElem?_eq_getElem hl)
theorem make_bound {ids : List Int} (h : (makeS N D T os ts ids).2 = 0) : (makeS N D T os ts ids).1.bound = worth (makeS N D T os ts ids).1.inn (makeS N D T os ts ids).1.back (makeS N D T os ts ids).1.rate (makeS N D T os ts ids).1.fixed := by
  obtain ⟨hw, hd, hi, h⟩ := make_is h
  rcases h with ⟨rfl, e⟩ | ⟨hne, e⟩
  · rw [e]; rfl
  · rw [e]; rfl
theorem make_ids {ids : List Int} (h : (makeS N D T os ts ids).2 = 0) : (makeS N D T os ts ids).1.ids = Pl.srt ids := by
  obtain ⟨hw, hd, hi, h⟩ := make_is h
  rcases h with ⟨rfl, e⟩ | ⟨hne, e⟩
  · rw [e]; rfl
  · rw [e]; exact ids_of hi
theorem make_srt (ids : List Int) : makeS N D T os ts (Pl.srt ids) = makeS N D T os ts ids := by
  have e : Pl.srt ids = [] ↔ ids = [] := by
    rw [← List.length_eq_zero_iff, Pl.srt_len, List.length_eq_zero_iff]
  unfold makeS
  rw [Pl.srt_idem]
  by_cases h : ids = []
  · subst h; rfl
  · rw [if_neg h, if_neg (fun h2 => h (e.1 h2))]
theorem ups_self {l : List Int} (h : ∀ x ∈ l, 0 ≤ x) : ups l l = true :=
  (ups_iff l l rfl).2 fun k x y hx hy => by
    rw [hx] at hy
    obtain rfl := Option.some.inj hy
    exact ⟨h x (List.mem_of_getElem? hx), Int.le_refl _⟩
theorem make_holds {ids : List Int} (h : (makeS N D T os ts ids).2 = 0) : holdsB N D T os ts (makeS N D T os ts ids).1 = true := by
  rw [holds_iff, make_ids h, make_srt]
  have f := fit_of h
  exact ⟨h, rfl, rfl, ups_self fun x hx => (f.inn x hx).1, f.b0, Int.le_refl _, f.r0, Int.le_refl _, f.f0, Int.le_refl _, make_bound h⟩
/-- none that holds has a greater bound than what is made -/
theorem holds_less {c : C} (h : holdsB N D T os ts c = true) : 0 ≤ c.bound ∧ c.bound ≤ (makeS N D T os ts c.ids).1.bound := by
  obtain ⟨h0, h⟩ := (holds_iff c).1 h
  have s := ups_sum _ _ h.len h.ups
  rw [make_bound h0, h.bound]
  refine ⟨?_, worth_le s.1 s.2 h.b0 h.b1 h.r0 h.r1 h.f1⟩
  unfold worth
  have := Int.mul_nonneg h.r0 (show 0 ≤ c.inn.sum + c.back by have := h.b0; omega)
  have := h.f0
  omega
end
end Bo
end

section
/-! Plain mathematics behind package bound: the bound of a certificate that holds is at most what each plan costs that may be and serves just its orders; what the document's own test of a certificate comes to. No program is named here. -/
set_option linter.unusedVariables false
namespace Bo
open Ld

/-- each leg to an order is at least what is said of that order -/
def Goes (g : O → Int) (N : Int) (D : List Int) : Int → List O → Prop
  | _, [] => True
  | n, o :: r => g o ≤ Ar.at2 N D n o.node ∧ Goes g N D o.node r
section
variable {N : Int} {D T : List Int} {os : List O} {ts : List Ld.T}
theorem goes_of (g : O → Int) (l : List O) : ∀ n : Int, (l.map O.id).Nodup → (∀ o, l.head? = some o → g o ≤ Ar.at2 N D n o.node) → (∀ a ∈ l, ∀ b ∈ l, a.id ≠ b.id → g b ≤ Ar.at2 N D a.node b.node) → Goes g N D n l := by
  induction l with
  | nil => intro n _ _ _; trivial
  | cons o r ih =>
    intro n hn h0 h
    rw [List.map_cons, List.nodup_cons] at hn
    refine ⟨h0 o rfl, ih o.node hn.2 (fun p hp => ?_) fun a ha b hb => h a (List.mem_cons_of_mem _ ha) b (List.mem_cons_of_mem _ hb)⟩
    have hm : p ∈ r := List.mem_of_mem_head? hp
    exact h o (by simp) p (List.mem_cons_of_mem _ hm) fun e => hn.1 (by rw [e]; exact List.mem_map.2 ⟨p, hm, rfl⟩)
theorem fin_ge (g : O → Int) (l : List O) : ∀ s : Rt.S, Goes g N D s.node l → s.dist + (l.map g).sum ≤ (Rt.fin N D T s l).dist := by
  induction l with
  | nil => intro s _; show s.dist + 0 ≤ s.dist; omega
  | cons o r ih =>
    intro s h
    have := ih (Rt.step N D T s o) h.2
    have h1 := h.1
    have e : (Rt.step N D T s o).dist = s.dist + Ar.at2 N D s.node o.node := rfl
    rw [e] at this
    show s.dist + ((o :: r).map g).sum ≤ (Rt.fin N D T (Rt.step N D T s o) r).dist
    rw [List.map_cons, List.sum_cons]
    omega
theorem fin_node (l : List O) : ∀ s : Rt.S, l ≠ [] → ∃ o ∈ l, (Rt.fin N D T s l).node = o.node := by
  induction l with
  | nil => intro s h; exact absurd rfl h
  | cons o r ih =>
    intro s _
    by_cases hr : r = []
    · subst hr; exact ⟨o, by simp, rfl⟩
    · obtain ⟨p, hp, e⟩ := ih (Rt.step N D T s o) hr
      exact ⟨p, List.mem_cons_of_mem _ hp, e⟩

/-- what a certificate says of an Id -/
def inOf (c : C) (id : Int) : Int := (c.inn[(findI c.ids id).toNat]?).getD 0
theorem in_at {c : C} (hl : c.inn.length = c.ids.length) {k : Nat} {id : Int} (hn : c.ids.Nodup) (h : c.ids[k]? = some id) : c.inn[k]? = some (inOf c id) := by
  have hk : findI c.ids id = (k : Int) := find_at h fun j hj e => by
    obtain ⟨a1, b1⟩ := List.getElem?_eq_some_iff.1 e
    obtain ⟨a2, b2⟩ := List.getElem?_eq_some_iff.1 h
    exact (List.pairwise_iff_getElem.1 hn) j k a1 a2 hj (b1.trans b2.symm)
  unfold inOf
  rw [hk, Int.toNat_natCast]
  have := (List.getElem?_eq_some_iff.1 h).1
  rw [List.getElem?_eq_getElem (show k < c.inn.length by omega)]
  rfl
theorem in_map {c : C} (hl : c.inn.length = c.ids.length) (hn : c.ids.Nodup) : c.ids.map (inOf c) = c.inn := by
  apply List.ext_getElem?
  intro k
  rw [List.getElem?_map]
  cases h : c.ids[k]? with
  | none =>
    have := List.getElem?_eq_none_iff.1 h
    rw [List.getElem?_eq_none (show c.inn.length ≤ k by omega)]
    rfl
  | some id => rw [in_at hl hn h]; rfl

/-- what a certificate that holds, of some orders, says of each -/
structure Says (N : Int) (D : List Int) (os : List O) (ts : List Ld.T) (c : C) : Prop where
  len : c.inn.length = c.ids.length
  nod : c.ids.Nodup
  all : Rt.allIn os c.ids = true
  in0 : ∀ x ∈ c.inn, 0 ≤ x
  dep : ∀ id ∈ c.ids, inOf c id ≤ Ar.at2 N D 0 (Rt.ordAt os id).node
  oth : ∀ a ∈ c.ids, ∀ b ∈ c.ids, a ≠ b → inOf c b ≤ Ar.at2 N D (Rt.ordAt os a).node (Rt.ordAt os b).node
  b0 : 0 ≤ c.back
  bck : ∀ id ∈ c.ids, c.back ≤ Ar.at2 N D (Rt.ordAt os id).node 0
  r0 : 0 ≤ c.rate
  f0 : 0 ≤ c.fixed
  rat : ∀ t ∈ ts, c.rate ≤ t.rate
  fix : ∀ t ∈ ts, c.fixed ≤ t.fixed
  bound : c.bound = worth c.inn c.back c.rate c.fixed
theorem ords_at {ids : List Int} {k : Nat} {id : Int} (h : ids[k]? = some id) : (Rt.ordersOf os ids)[k]? = some (Rt.ordAt os id) := by
  unfold Rt.ordersOf
  rw [List.getElem?_map, h]
  rfl
theorem says_of {c : C} (h : holdsB N D T os ts c = true) (hne : c.ids ≠ []) : Says N D os ts c := by
  obtain ⟨h0, h⟩ := (holds_iff c).1 h
  obtain ⟨hw, hd, hi, hm⟩ := make_is h0
  rcases hm with ⟨e, _⟩ | ⟨_, e⟩
  · exact absurd e hne
  · have hids : c.ids = Pl.srt c.ids := h.ids.trans (make_ids h0)
    rw [e] at h
    rw [← hids] at hd hi
    have hn : c.ids.Nodup := (Pl.dup_nodup (by rw [hids]; exact Pl.srt_sorted _)).1 hd
    have hlen : c.inn.length = c.ids.length := by
      rw [h.len]
      show (nears N D _).length = _
      rw [nears_len, Rt.ordersOf_len, Pl.srt_len]
    have hu := (ups_iff _ _ h.len).1 h.ups
    have key : ∀ (k : Nat) (id : Int), c.ids[k]? = some id → 0 ≤ inOf c id ∧ inOf c id ≤ near N D (Rt.ordersOf os c.ids) k := fun k id hk => by
      have hkl := (List.getElem?_eq_some_iff.1 hk).1
      refine hu k _ _ (in_at hlen hn hk) ?_
      show (nears N D (Rt.ordersOf os (Pl.srt c.ids)))[k]? = _
      rw [← hids]
      exact nears_at (by rw [Rt.ordersOf_len]; exact hkl)
    have hts : ∀ t ∈ ts, ts ≠ [] := fun t ht e => by rw [e] at ht; cases ht
    refine ⟨hlen, hn, hi, fun x hx => ?_, fun id hid => ?_, fun a ha b hb hab => ?_, h.b0, fun id hid => ?_, h.r0, h.f0, fun t ht => ?_, fun t ht => ?_, h.bound⟩
    · rw [← in_map hlen hn] at hx
      obtain ⟨id, hid, rfl⟩ := List.mem_map.1 hx
      obtain ⟨k, hk⟩ := List.getElem?_of_mem hid
      exact (key k id hk).1
    · obtain ⟨k, hk⟩ := List.getElem?_of_mem hid
      exact Int.le_trans (key k id hk).2 (near_depot (ords_at hk))
    · obtain ⟨j, hj⟩ := List.getElem?_of_mem ha
      obtain ⟨k, hk⟩ := List.getElem?_of_mem hb
      refine Int.le_trans (key k b hk).2 (near_le (ords_at hk) (ords_at hj) fun e => ?_)
      rw [e, hk] at hj
      exact hab (Option.some.inj hj).symm
    · have h1 := h.b1
      obtain ⟨k, hk⟩ := List.getElem?_of_mem hid
      refine Int.le_trans h1 (lst_le (List.mem_map.2 ⟨Rt.ordAt os id, ?_, rfl⟩))
      rw [← hids]
      exact List.mem_of_getElem? (ords_at hk)
    · exact Int.le_trans h.r1 (lst_le (List.mem_map.2 ⟨t, ht, rfl⟩))
    · exact Int.le_trans h.f1 (lst_le (List.mem_map.2 ⟨t, ht, rfl⟩))

theorem sum_ge0 {l : List Int} (h : ∀ x ∈ l, 0 ≤ x) : 0 ≤ l.sum := by
  induction l with
  | nil => simp
  | cons x l ih =>
    have h1 := h x (by simp)
    have h2 := ih fun y hy => h y (List.mem_cons_of_mem _ hy)
    rw [List.sum_cons]
    omega
/-- what one route costs at least -/
theorem route_ge {c : C} (hc : Says N D os ts c) {r : Pl.Ro} (h : (Pl.run N D T os ts r).e = 0) (hs : ∀ id ∈ r.st, id ∈ c.ids) : worth (r.st.map (inOf c)) c.back c.rate c.fixed ≤ (Pl.run N D T os ts r).cost := by
  obtain ⟨hr, e⟩ := Rt.runs_of h
  obtain ⟨k, t, hk, _, ht, _⟩ := Rt.find_mem Ld.T.id ts r.tr hr.tk
  have hta := Rt.truckAt_eq hk ht
  have htm := List.mem_of_getElem? ht
  have hcost : (Pl.run N D T os ts r).cost = t.fixed + t.rate * ((Rt.fin N D T ⟨0, (Rt.truckAt ts r.tr).start, 0⟩ (Rt.ordersOf os r.st)).dist + Ar.at2 N D (Rt.fin N D T ⟨0, (Rt.truckAt ts r.tr).start, 0⟩ (Rt.ordersOf os r.st)).node 0) := by
    show (Rt.runS N D T os ts r.tr r.st).cost = _
    rw [e, ← hta]; rfl
  have hmem : ∀ o ∈ Rt.ordersOf os r.st, o.id ∈ c.ids ∧ o = Rt.ordAt os o.id := fun o ho => by
    obtain ⟨i, hi, rfl⟩ := List.mem_map.1 ho
    have := (ord_of hr.al hi).1
    rw [this]
    exact ⟨hs i hi, rfl⟩
  have hids : (Rt.ordersOf os r.st).map O.id = r.st := ids_of hr.al
  have hgo : Goes (fun o => inOf c o.id) N D 0 (Rt.ordersOf os r.st) := by
    refine goes_of _ _ 0 (by rw [hids]; exact nodup_of_tw hr.tw) (fun o ho => ?_) fun a ha b hb hab => ?_
    · obtain ⟨h1, h2⟩ := hmem o (List.mem_of_mem_head? ho)
      have := hc.dep _ h1
      rwa [← h2] at this
    · obtain ⟨a1, a2⟩ := hmem a ha
      obtain ⟨b1, b2⟩ := hmem b hb
      have := hc.oth _ a1 _ b1 hab
      rwa [← a2, ← b2] at this
  have h1 := fin_ge (T := T) _ _ (⟨0, (Rt.truckAt ts r.tr).start, 0⟩ : Rt.S) hgo
  obtain ⟨o, ho, en⟩ := fin_node (N := N) (D := D) (T := T) (Rt.ordersOf os r.st) ⟨0, (Rt.truckAt ts r.tr).start, 0⟩ (fun e => by
    have h5 := congrArg List.length e
    rw [Rt.ordersOf_len, List.length_nil] at h5
    have := hr.l1
    omega)
  obtain ⟨o1, o2⟩ := hmem o ho
  have h2 := hc.bck _ o1
  rw [← o2, ← en] at h2
  have hsum : ((Rt.ordersOf os r.st).map fun o => inOf c o.id) = r.st.map (inOf c) := by
    rw [← hids, List.map_map, hids]
    rfl
  rw [hsum] at h1
  have hs0 : 0 ≤ (r.st.map (inOf c)).sum := by
    refine sum_ge0 fun x hx => ?_
    obtain ⟨i, hi, rfl⟩ := List.mem_map.1 hx
    refine hc.in0 _ ?_
    rw [← in_map hc.len hc.nod]
    exact List.mem_map.2 ⟨i, hs i hi, rfl⟩
  have hb0 := hc.b0
  rw [hcost]
  unfold worth
  simp only [Int.zero_add] at h1
  have hm := Int.mul_le_mul (hc.rat t htm) (show (r.st.map (inOf c)).sum + c.back ≤ (Rt.fin N D T ⟨0, (Rt.truckAt ts r.tr).start, 0⟩ (Rt.ordersOf os r.st)).dist + Ar.at2 N D (Rt.fin N D T ⟨0, (Rt.truckAt ts r.tr).start, 0⟩ (Rt.ordersOf os r.st)).node 0 by omega) (by omega) (Int.le_trans hc.r0 (hc.rat t htm))
  have hf := hc.fix t htm
  omega
theorem sum_app (a b : List Int) : (a ++ b).sum = a.sum + b.sum := by
  induction a with
  | nil => simp
  | cons x r ih => simp only [List.cons_append, List.sum_cons, ih]; omega
theorem routes_ge {c : C} (hc : Says N D os ts c) : ∀ rs : List Pl.Ro, (∀ r ∈ rs, (Pl.run N D T os ts r).e = 0) → (∀ r ∈ rs, ∀ id ∈ r.st, id ∈ c.ids) →
    (rs ≠ [] → worth ((Pl.stops rs).map (inOf c)) c.back c.rate c.fixed ≤ (Pl.costs (Pl.run N D T os ts) rs).sum) ∧ (rs = [] → (Pl.costs (Pl.run N D T os ts) rs).sum = 0)
  | [], _, _ => ⟨fun h => absurd rfl h, fun _ => rfl⟩
  | r :: l, h, hs => by
    refine ⟨fun _ => ?_, fun e => by cases e⟩
    have h1 := route_ge hc (h r (by simp)) (hs r (by simp))
    obtain ⟨i1, i2⟩ := routes_ge hc l (fun q hq => h q (List.mem_cons_of_mem _ hq)) fun q hq => hs q (List.mem_cons_of_mem _ hq)
    have e1 : (Pl.costs (Pl.run N D T os ts) (r :: l)).sum = (Pl.run N D T os ts r).cost + (Pl.costs (Pl.run N D T os ts) l).sum := List.sum_cons
    have e2 : ((Pl.stops (r :: l)).map (inOf c)).sum = (r.st.map (inOf c)).sum + ((Pl.stops l).map (inOf c)).sum := by
      show ((r.st ++ Pl.stops l).map (inOf c)).sum = _
      rw [List.map_append, sum_app]
    rw [e1]
    have hb0 := hc.b0
    have hf0 := hc.f0
    by_cases hl : l = []
    · subst hl
      rw [i2 rfl]
      unfold worth at h1 ⊢
      rw [e2]
      simp only [Pl.stops, List.flatMap_nil, List.map_nil, List.sum_nil, Int.add_zero]
      exact h1
    · have h2 := i1 hl
      unfold worth at h1 h2 ⊢
      rw [e2]
      have hr : 0 ≤ c.rate * c.back := Int.mul_nonneg hc.r0 hb0
      have d1 : c.rate * ((r.st.map (inOf c)).sum + ((Pl.stops l).map (inOf c)).sum + c.back) = c.rate * (r.st.map (inOf c)).sum + c.rate * ((Pl.stops l).map (inOf c)).sum + c.rate * c.back := by rw [Int.mul_add, Int.mul_add]
      have d2 : c.rate * ((r.st.map (inOf c)).sum + c.back) = c.rate * (r.st.map (inOf c)).sum + c.rate * c.back := Int.mul_add ..
      have d3 : c.rate * (((Pl.stops l).map (inOf c)).sum + c.back) = c.rate * ((Pl.stops l).map (inOf c)).sum + c.rate * c.back := Int.mul_add ..
      rw [d1]
      rw [d2] at h1
      rw [d3] at h2
      omega
theorem costs_ge {rs : List Pl.Ro} (h : ∀ r ∈ rs, (Pl.run N D T os ts r).e = 0) : 0 ≤ (Pl.costs (Pl.run N D T os ts) rs).sum := by
  induction rs with
  | nil => exact Int.le_refl _
  | cons r l ih =>
    have e1 : (Pl.costs (Pl.run N D T os ts) (r :: l)).sum = (Pl.run N D T os ts r).cost + (Pl.costs (Pl.run N D T os ts) l).sum := List.sum_cons
    have := (Pl.cost_fits (h r (by simp))).1
    have := ih fun q hq => h q (List.mem_cons_of_mem _ hq)
    omega
theorem sum_perm' {a b : List Int} (h : a.Perm b) : a.sum = b.sum := by
  induction h with
  | nil => rfl
  | cons x _ ih => rw [List.sum_cons, List.sum_cons, ih]
  | swap x y l => simp only [List.sum_cons]; omega
  | trans _ _ h1 h2 => exact h1.trans h2
/-- the bound of a certificate that holds is at most what a plan costs that may be and serves just its orders -/
theorem bound_le {us : List Int} {rs : List Pl.Ro} {c : C} (hp : Pl.May N D T os ts rs us) (hc : holdsB N D T os ts c = true) (hs : Pl.servedS rs = c.ids) : 0 ≤ c.bound ∧ c.bound ≤ (Pl.costs (Pl.run N D T os ts) rs).sum := by
  refine ⟨(holds_less hc).1, ?_⟩
  by_cases hne : c.ids = []
  · have h2 := (holds_less hc).2
    rw [hne, make_nil hp.w] at h2
    exact Int.le_trans h2 (costs_ge hp.tp)
  · have hsy := says_of hc hne
    have hpm : (Pl.stops rs).Perm c.ids := by rw [← hs]; exact (Pl.srt_perm _).symm
    obtain ⟨h1, _⟩ := routes_ge hsy rs hp.tp fun r hr id hid => hpm.mem_iff.1 (List.mem_flatMap.2 ⟨r, hr, hid⟩)
    have h2 := h1 fun e => hne (by rw [← hs, e]; rfl)
    have h3 : ((Pl.stops rs).map (inOf c)).sum = c.inn.sum := by
      rw [sum_perm' (hpm.map (inOf c)), in_map hsy.len hsy.nod]
    have h4 : worth ((Pl.stops rs).map (inOf c)) c.back c.rate c.fixed = c.bound := by rw [hsy.bound]; unfold worth; rw [h3]
    rw [h4] at h2
    exact h2
/-- of the orders that a plan serves there is a certificate -/
theorem make_served {us : List Int} {rs : List Pl.Ro} (hp : Pl.May N D T os ts rs us) : (makeS N D T os ts (Pl.servedS rs)).2 = 0 ∧ (makeS N D T os ts (Pl.servedS rs)).1.ids = Pl.servedS rs := by
  have e : Pl.srt (Pl.servedS rs) = Pl.servedS rs := Pl.srt_idem _
  have hd : Pl.dupB (Pl.srt (Pl.servedS rs)) = false := by rw [e]; exact Pl.dup_srt.2 hp.sn
  have hi : Rt.allIn os (Pl.srt (Pl.servedS rs)) = true := by
    rw [e]
    unfold Pl.servedS
    rw [allIn_perm (Pl.srt_perm (Pl.stops rs))]
    refine List.all_eq_true.2 fun x hx => ?_
    obtain ⟨r, hr, hxr⟩ := List.mem_flatMap.1 hx
    exact List.all_eq_true.1 (Rt.runs_of (hp.tp r hr)).1.al x hxr
  have h0 : (makeS N D T os ts (Pl.servedS rs)).2 = 0 := by
    by_cases h : Pl.servedS rs = []
    · rw [h, make_nil hp.w]
    · rw [make_ok hp.w hd hi h]
  exact ⟨h0, by rw [make_ids h0, e]⟩
end
end Bo
end

section
/-! Plain mathematics of stage 12: what the document's Make and Holds look at, one thing after another. -/
set_option linter.unusedVariables false
namespace Bo
open Ld

/-- each is less than the next one -/
def Rises (l : List Int) : Prop := ∀ (k : Nat) (x y : Int), l[k]? = some x → l[k + 1]? = some y → x < y
theorem rises_pw : ∀ l : List Int, Rises l → l.Pairwise (· < ·)
  | [], _ => List.Pairwise.nil
  | [a], _ => by simp
  | a :: b :: r, h => by
    have ih := rises_pw (b :: r) fun k x y hx hy => h (k + 1) x y (by simpa using hx) (by simpa using hy)
    have hab : a < b := h 0 a b rfl rfl
    refine List.Pairwise.cons (fun y hy => ?_) ih
    rcases List.mem_cons.1 hy with rfl | hy
    · exact hab
    · exact Int.lt_trans hab ((List.pairwise_cons.1 ih).1 y hy)
theorem rises_srt {l : List Int} (h : Rises l) : Pl.srt l = l := by
  have h1 := rises_pw l h
  exact (Pl.srt_of (List.Perm.refl l) (h1.imp fun h => Int.le_of_lt h)).symm
theorem rises_dup {l : List Int} (h : Rises l) : Pl.dupB (Pl.srt l) = false := Pl.dup_srt.2 ((rises_pw l h).imp fun h => Int.ne_of_lt h)
theorem srt_rises {l : List Int} (h : Pl.dupB (Pl.srt l) = false) : Rises (Pl.srt l) := fun k x y hx hy => by
  have hs := Pl.srt_sorted l
  have hn := Pl.srt_nodup.2 (Pl.dup_srt.1 h)
  have hk := (List.getElem?_eq_some_iff.1 hx).1
  have hk1 := (List.getElem?_eq_some_iff.1 hy).1
  have ex := (List.getElem?_eq_some_iff.1 hx).2
  have ey := (List.getElem?_eq_some_iff.1 hy).2
  have h1 := List.pairwise_iff_getElem.1 hs k (k + 1) hk hk1 (Nat.lt_succ_self k)
  have h2 := List.pairwise_iff_getElem.1 hn k (k + 1) hk hk1 (Nat.lt_succ_self k)
  rw [ex, ey] at h1 h2
  omega

theorem allIn_srt (os : List O) (ids : List Int) : Rt.allIn os (Pl.srt ids) = Rt.allIn os ids := allIn_perm (Pl.srt_perm ids)
/-- what the document's Holds looks at -/
structure RH (N : Int) (D T : List Int) (os : List O) (ts : List Ld.T) (c : C) : Prop where
  w : Rt.worldE N D T os ts = 0
  ai : Rt.allIn os c.ids = true
  ri : Rises c.ids
  ln : c.inn.length = c.ids.length
  e : c.ids = [] → c.back = 0 ∧ c.rate = 0 ∧ c.fixed = 0 ∧ c.bound = 0
  inn : ∀ (i : Nat) (o : O) (z : Int), (Rt.ordersOf os c.ids)[i]? = some o → c.inn[i]? = some z → 0 ≤ z ∧ z ≤ Ar.at2 N D 0 o.node ∧ ∀ (j : Nat) (p : O), j ≠ i → (Rt.ordersOf os c.ids)[j]? = some p → z ≤ Ar.at2 N D p.node o.node
  back : c.ids ≠ [] → 0 ≤ c.back ∧ ∀ o ∈ Rt.ordersOf os c.ids, c.back ≤ Ar.at2 N D o.node 0
  rate : c.ids ≠ [] → 0 ≤ c.rate ∧ (ts = [] → c.rate ≤ 0) ∧ ∀ t ∈ ts, c.rate ≤ t.rate
  fixed : c.ids ≠ [] → 0 ≤ c.fixed ∧ (ts = [] → c.fixed ≤ 0) ∧ ∀ t ∈ ts, c.fixed ≤ t.fixed
  bound : c.ids ≠ [] → c.bound = c.fixed + c.rate * (c.back + c.inn.sum)
variable {N : Int} {D T : List Int} {os : List O} {ts : List Ld.T}
theorem map_ne {α : Type} {f : α → Int} {l : List α} (h : l ≠ []) : l.map f ≠ [] := by simpa using h
theorem lst_up_iff {α : Type} (f : α → Int) (l : List α) (n : Int) : n ≤ lst (l.map f) ↔ (l = [] → n ≤ 0) ∧ ∀ t ∈ l, n ≤ f t := by
  by_cases h : l = []
  · subst h
    simp [lst]
  · rw [le_lst (map_ne h)]
    constructor
    · intro h1
      exact ⟨fun e => absurd e h, fun t ht => h1 _ (List.mem_map.2 ⟨t, ht, rfl⟩)⟩
    · rintro ⟨_, h1⟩ x hx
      obtain ⟨t, ht, rfl⟩ := List.mem_map.1 hx
      exact h1 t ht
theorem rh_iff (c : C) : holdsB N D T os ts c = true ↔ RH N D T os ts c := by
  rw [holds_iff]
  constructor
  · rintro ⟨h0, h⟩
    obtain ⟨hw, hd, hi, h1⟩ := make_is h0
    have hid := h.ids
    rw [make_ids h0] at hid
    have hri : Rises c.ids := by rw [hid]; exact srt_rises hd
    rw [← hid] at hi
    rcases h1 with ⟨he, e⟩ | ⟨hne, e⟩
    · rw [e] at h
      have hl : c.inn.length = 0 := h.len
      have hn : c.inn = [] := List.length_eq_zero_iff.1 hl
      refine ⟨hw, hi, hri, by rw [hl, he]; rfl, fun _ => ?_, fun i o z _ hz => by rw [hn] at hz; simp at hz, fun k => absurd he k, fun k => absurd he k, fun k => absurd he k, fun k => absurd he k⟩
      have b1 : c.back ≤ 0 := h.b1
      have r1 : c.rate ≤ 0 := h.r1
      have f1 : c.fixed ≤ 0 := h.f1
      have hb := h.bound
      have b0 : c.back = 0 := Int.le_antisymm b1 h.b0
      have r0 : c.rate = 0 := Int.le_antisymm r1 h.r0
      have f0 : c.fixed = 0 := Int.le_antisymm f1 h.f0
      refine ⟨b0, r0, f0, ?_⟩
      rw [hb, b0, r0, f0, hn]
      rfl
    · rw [e, ← hid] at h
      have hL : Rt.ordersOf os c.ids ≠ [] := by
        have := ords_ne (os := os) hne
        rwa [← hid] at this
      have hlen : c.inn.length = (nears N D (Rt.ordersOf os c.ids)).length := h.len
      refine ⟨hw, hi, hri, by rw [hlen, nears_len, Rt.ordersOf_len], fun k => absurd k hne, ?_, fun _ => ⟨h.b0, ?_⟩, fun _ => ⟨h.r0, (lst_up_iff _ ts _).1 h.r1⟩, fun _ => ⟨h.f0, (lst_up_iff _ ts _).1 h.f1⟩, fun _ => ?_⟩
      · intro i o z ho hz
        have hlt := (List.getElem?_eq_some_iff.1 ho).1
        have h2 := (ups_iff _ _ hlen).1 h.ups i z _ hz (nears_at hlt)
        refine ⟨h2.1, Int.le_trans h2.2 (near_depot ho), fun j p hj hp => Int.le_trans h2.2 (near_le ho hp hj)⟩
      · exact fun o ho => ((lst_up_iff _ _ _).1 h.b1).2 o ho
      · have hb := h.bound
        unfold worth at hb
        rw [hb, Int.add_comm c.back]
  · intro h
    have hs := rises_srt h.ri
    have hd := rises_dup h.ri
    have hi : Rt.allIn os (Pl.srt c.ids) = true := by rw [hs]; exact h.ai
    by_cases he : c.ids = []
    · obtain ⟨b0, r0, f0, t0⟩ := h.e he
      have hn : c.inn = [] := List.length_eq_zero_iff.1 (by rw [h.ln, he]; rfl)
      rw [he, make_nil h.w]
      refine ⟨rfl, ⟨he, by rw [hn]; rfl, by rw [hn]; rfl, by omega, by rw [b0]; exact Int.le_refl _, by omega, by rw [r0]; exact Int.le_refl _, by omega, by rw [f0]; exact Int.le_refl _, ?_⟩⟩
      rw [t0, b0, r0, f0, hn]
      rfl
    · rw [make_ok h.w hd hi he, hs]
      have hL : Rt.ordersOf os c.ids ≠ [] := by
        have := ords_ne (os := os) he
        rwa [hs] at this
      have hlen : c.inn.length = (nears N D (Rt.ordersOf os c.ids)).length := by rw [h.ln, nears_len, Rt.ordersOf_len]
      refine ⟨rfl, ⟨(ids_of h.ai).symm, hlen, ?_, (h.back he).1, (lst_up_iff _ _ _).2 ⟨fun e => absurd e hL, (h.back he).2⟩, (h.rate he).1, (lst_up_iff _ _ _).2 (h.rate he).2, (h.fixed he).1, (lst_up_iff _ _ _).2 (h.fixed he).2, ?_⟩⟩
      · refine (ups_iff _ _ hlen).2 fun k x y hx hy => ?_
        have hlt := (List.getElem?_eq_some_iff.1 hy).1
        rw [nears_len] at hlt
        rw [nears_at hlt] at hy
        obtain rfl := Option.some.inj hy
        have ho := List.getElem?_eq_getElem hlt
        have h2 := h.inn k _ x ho hx
        exact ⟨h2.1, le_near ho h2.2.1 h2.2.2⟩
      · rw [h.bound he]
        unfold worth
        rw [Int.add_comm c.back]
end Bo
end

section
/-! Plain mathematics of stage 12: where all nodes are as far from one another. -/
set_option linter.unusedVariables false
namespace Bo
open Ld

/-- how many there are -/
def cnt (l : List Int) (y : Int) : Int := ((l.filter fun x => decide (x = y)).length : Int)
theorem cnt_nil (y : Int) : cnt [] y = 0 := rfl
theorem cnt_snoc (l : List Int) (x y : Int) : cnt (l ++ [x]) y = if y = x then cnt l y + 1 else cnt l y := by
  unfold cnt
  rw [List.filter_append, List.length_append]
  by_cases h : y = x
  · rw [if_pos h, h]
    simp
  · rw [if_neg h]
    have : ¬ x = y := fun e => h e.symm
    simp [this]
theorem cnt_perm {a b : List Int} (h : a.Perm b) (y : Int) : cnt a y = cnt b y := by
  unfold cnt
  rw [(h.filter _).length_eq]
theorem cnt_le (l : List Int) (y : Int) : 0 ≤ cnt l y ∧ cnt l y ≤ l.length := by
  unfold cnt
  have := List.length_filter_le (fun x => decide (x = y)) l
  omega
/-- more than one: another one -/
theorem cnt_two {l : List Int} {k : Nat} {y : Int} (hk : l[k]? = some y) : 1 < cnt l y ↔ ∃ j, j ≠ k ∧ l[j]? = some y := by
  have h1 : ∀ (m : List Int), 0 < (m.filter fun x => decide (x = y)).length ↔ y ∈ m := fun m => by
    rw [List.length_pos_iff_exists_mem]
    constructor
    · rintro ⟨a, ha⟩
      obtain ⟨ha, e⟩ := List.mem_filter.1 ha
      rw [← of_decide_eq_true e]
      exact ha
    · exact fun h => ⟨y, List.mem_filter.2 ⟨h, by simp⟩⟩
  have hlt := (List.getElem?_eq_some_iff.1 hk).1
  have hp : l.Perm (y :: l.eraseIdx k) := by
    have e : l = l.take k ++ y :: l.drop (k + 1) := by
      rw [← (List.getElem?_eq_some_iff.1 hk).2]
      simp
    rw [List.eraseIdx_eq_take_drop_succ]
    conv => lhs; rw [e]
    exact List.perm_middle
  rw [cnt_perm hp]
  unfold cnt
  rw [List.filter_cons_of_pos (by simp), List.length_cons]
  have h2 := h1 (l.eraseIdx k)
  constructor
  · intro h
    obtain ⟨j, hj, e⟩ := List.mem_eraseIdx_iff_getElem?.1 (h2.1 (by omega))
    exact ⟨j, hj, e⟩
  · rintro ⟨j, hj, e⟩
    have := h2.2 (List.mem_eraseIdx_iff_getElem?.2 ⟨j, hj, e⟩)
    omega

/-- all distances the same -/
def farK (N far : Int) (m k : Nat) : List Int := (List.range m).map fun i => if i < k ∧ 0 < N ∧ Int.tdiv (i : Int) N ≠ Int.tmod (i : Int) N then far else 0
theorem farK_len (N far : Int) (m k : Nat) : (farK N far m k).length = m := by simp [farK]
theorem farK_at {N far : Int} {m k i : Nat} (h : i < m) : (farK N far m k)[i]? = some (if i < k ∧ 0 < N ∧ Int.tdiv (i : Int) N ≠ Int.tmod (i : Int) N then far else 0) := by
  unfold farK
  rw [List.getElem?_map, List.getElem?_range h]
  rfl
theorem farK_zero (N far : Int) (m : Nat) : farK N far m 0 = List.replicate m 0 := by
  apply List.ext_getElem?
  intro i
  by_cases h : i < m
  · rw [farK_at h, List.getElem?_replicate, if_pos h, if_neg (by omega)]
  · rw [List.getElem?_eq_none (by rw [farK_len]; omega), List.getElem?_eq_none (by simp; omega)]
theorem farK_same {N far : Int} {m k : Nat} (h : ¬ (0 < N ∧ Int.tdiv (k : Int) N ≠ Int.tmod (k : Int) N)) : farK N far m (k + 1) = farK N far m k := by
  apply List.ext_getElem?
  intro i
  by_cases hi : i < m
  · rw [farK_at hi, farK_at hi]
    congr 1
    by_cases e : i = k
    · subst e
      rw [if_neg fun h2 => h h2.2, if_neg fun h2 => h h2.2]
    · have h1 : i < k + 1 ↔ i < k := by omega
      simp only [h1]
  · rw [List.getElem?_eq_none (by rw [farK_len]; omega), List.getElem?_eq_none (by rw [farK_len]; omega)]
theorem farK_set {N far : Int} {m k : Nat} (h : 0 < N ∧ Int.tdiv (k : Int) N ≠ Int.tmod (k : Int) N) (hk : k < m) : farK N far m (k + 1) = (farK N far m k).set k far := by
  apply List.ext_getElem?
  intro i
  rw [List.getElem?_set]
  by_cases hi : i < m
  · rw [farK_at hi, farK_at hi]
    by_cases e : k = i
    · subst e
      rw [if_pos rfl, if_pos ⟨Nat.lt_succ_self k, h.1, h.2⟩, if_pos (by rw [farK_len]; exact hk)]
    · rw [if_neg e]
      congr 1
      have h1 : i < k + 1 ↔ i < k := by omega
      simp only [h1]
  · rw [if_neg (by omega), List.getElem?_eq_none (by rw [farK_len]; omega), List.getElem?_eq_none (by rw [farK_len]; omega)]
/-- a distance of such an area -/
theorem far_at {far : Int} {n m f t : Nat} (hn : 0 < n) (hm : m = n * n) (hf : f < n) (ht : t < n) : Ar.at2 (n : Int) (farK (n : Int) far m m) (f : Int) (t : Int) = if f = t then 0 else far := by
  unfold Ar.at2
  have hi : f * n + t < m := by
    rw [hm]
    calc f * n + t < f * n + n := by omega
      _ = (f + 1) * n := by rw [Nat.add_mul, Nat.one_mul]
      _ ≤ n * n := Nat.mul_le_mul_right n hf
  have e1 : ((f : Int) * (n : Int) + (t : Int)).toNat = f * n + t := by
    have : (f : Int) * (n : Int) + (t : Int) = ((f * n + t : Nat) : Int) := by push_cast; rfl
    rw [this]
    rfl
  rw [e1, List.getD_eq_getElem?_getD, farK_at hi]
  have d : Int.tdiv ((f * n + t : Nat) : Int) (n : Int) = (f : Int) := by
    rw [← Int.ofNat_tdiv]
    congr 1
    rw [Nat.add_comm, Nat.add_mul_div_right _ _ hn, Nat.div_eq_of_lt ht, Nat.zero_add]
  have r : Int.tmod ((f * n + t : Nat) : Int) (n : Int) = (t : Int) := by
    rw [← Int.ofNat_tmod]
    congr 1
    rw [Nat.add_comm, Nat.add_mul_mod_self_right, Nat.mod_eq_of_lt ht]
  rw [d, r]
  by_cases e : f = t
  · subst e
    simp
  · have h1 : (f : Int) ≠ (t : Int) := by omega
    simp [e, h1, hi, hn]
variable {N far : Int} {D : List Int} {L : List O}
theorem near_far (h0 : 0 ≤ far) (hat : ∀ f t, Ar.hasB N f = true → Ar.hasB N t = true → Ar.at2 N D f t = if f = t then 0 else far) (h00 : Ar.hasB N 0 = true) (hL : ∀ o ∈ L, Ar.hasB N o.node = true ∧ o.node ≠ 0) {k : Nat} {o : O} (hk : L[k]? = some o) :
    near N D L k = if 1 < cnt (L.map O.node) o.node then 0 else far := by
  have ho := hL o (List.mem_of_getElem? hk)
  have hd : Ar.at2 N D 0 o.node = far := by rw [hat 0 o.node h00 ho.1, if_neg (fun e => ho.2 e.symm)]
  have h1 := near_depot (N := N) (D := D) hk
  rw [hd] at h1
  have hm : (L.map O.node)[k]? = some o.node := by rw [List.getElem?_map, hk]; rfl
  by_cases h : 1 < cnt (L.map O.node) o.node
  · rw [if_pos h]
    obtain ⟨j, hj, e⟩ := (cnt_two hm).1 h
    rw [List.getElem?_map] at e
    obtain ⟨p, hp, e2⟩ := Option.map_eq_some_iff.1 e
    have h2 := near_le (N := N) (D := D) hk hp hj
    have hp2 := hL p (List.mem_of_getElem? hp)
    rw [hat p.node o.node hp2.1 ho.1, if_pos e2] at h2
    refine Int.le_antisymm h2 ?_
    refine le_near hk (by rw [hd]; exact h0) fun j p _ hp => ?_
    rw [hat p.node o.node (hL p (List.mem_of_getElem? hp)).1 ho.1]
    split
    · exact Int.le_refl _
    · exact h0
  · rw [if_neg h]
    refine Int.le_antisymm h1 ?_
    refine le_near hk (by rw [hd]; exact Int.le_refl _) fun j p hj hp => ?_
    rw [hat p.node o.node (hL p (List.mem_of_getElem? hp)).1 ho.1, if_neg]
    · exact Int.le_refl _
    · exact fun e => h ((cnt_two hm).2 ⟨j, hj, by rw [List.getElem?_map, hp, ← e]; rfl⟩)
theorem back_far (hat : ∀ f t, Ar.hasB N f = true → Ar.hasB N t = true → Ar.at2 N D f t = if f = t then 0 else far) (h00 : Ar.hasB N 0 = true) (hL : ∀ o ∈ L, Ar.hasB N o.node = true ∧ o.node ≠ 0) (hne : L ≠ []) : backS N D L = far := by
  unfold backS
  have h : ∀ x ∈ L.map (fun o => Ar.at2 N D o.node 0), x = far := fun x hx => by
    obtain ⟨o, ho, rfl⟩ := List.mem_map.1 hx
    rw [hat _ _ (hL o ho).1 h00, if_neg (hL o ho).2]
  exact h _ (lst_mem (by simpa using hne))
end Bo
end

section
/-! Plain mathematics of stage 12: what the law of like distances looks at. -/
set_option linter.unusedVariables false
namespace Bo
open Ld

/-- each order's node, by its number; 0, of none -/
def ndStep (f : Int → Int) (o : O) : Int → Int := fun y => if y = o.id then o.node else f y
def ndm (os : List O) : Int → Int := os.foldl ndStep (fun _ => 0)
theorem ndm_nil : ndm [] = fun _ => 0 := rfl
theorem ndm_snoc (os : List O) (o : O) : ndm (os ++ [o]) = fun y => if y = o.id then o.node else ndm os y := by
  unfold ndm
  rw [List.foldl_append]
  rfl
theorem ndm_take {os : List O} {k : Nat} {o : O} (h : os[k]? = some o) : ndm (os.take (k + 1)) = fun y => if y = o.id then o.node else ndm (os.take k) y := by
  rw [List.take_add_one, h]
  exact ndm_snoc _ _
theorem nd_other : ∀ (os : List O) (f : Int → Int) (y : Int), y ∉ os.map O.id → os.foldl ndStep f y = f y
  | [], _, _, _ => rfl
  | a :: r, f, y, h => by
    rw [List.map_cons, List.mem_cons, not_or] at h
    rw [List.foldl_cons, nd_other r _ y h.2]
    unfold ndStep
    rw [if_neg h.1]
theorem nd_in : ∀ (os : List O) (f : Int → Int), (os.map O.id).Nodup → ∀ o ∈ os, os.foldl ndStep f o.id = o.node
  | [], _, _, o, ho => by cases ho
  | a :: r, f, h, o, ho => by
    rw [List.map_cons, List.nodup_cons] at h
    rw [List.foldl_cons]
    rcases List.mem_cons.1 ho with rfl | ho
    · rw [nd_other r _ _ h.1]
      unfold ndStep
      rw [if_pos rfl]
    · exact nd_in r _ h.2 o ho
theorem nd_all {P : Int → Prop} : ∀ (os : List O) (f : Int → Int) (y : Int), P (f y) → (∀ o ∈ os, P o.node) → P (os.foldl ndStep f y)
  | [], _, _, h, _ => h
  | a :: r, f, y, h, ho => by
    rw [List.foldl_cons]
    refine nd_all r _ y ?_ fun o h => ho o (List.mem_cons_of_mem _ h)
    unfold ndStep
    split
    · exact ho a (by simp)
    · exact h
theorem cnt_take {l : List Int} {k : Nat} {x : Int} (h : l[k]? = some x) (f : Int → Int) : cnt ((l.take (k + 1)).map f) = fun y => if y = f x then cnt ((l.take k).map f) (f x) + 1 else cnt ((l.take k).map f) y := by
  funext y
  rw [List.take_add_one, h, List.map_append]
  show cnt ((l.take k).map f ++ [f x]) y = _
  rw [cnt_snoc]
  by_cases e : y = f x
  · rw [if_pos e, if_pos e, e]
  · rw [if_neg e, if_neg e]

/-- what the law looks at, of what is made -/
structure FarOk (os : List O) (ts : List Ld.T) (l : List Int) (far : Int) (c : C) : Prop where
  il : c.ids.length = l.length
  nl : c.inn.length = l.length
  back : c.back = far
  ids : ∀ id ∈ l, 1 ≤ id ∧ id ≤ 1000000
  nod : ∀ y, 0 ≤ ndm os y ∧ ndm os y ≤ 16
  oo : ∀ o ∈ os, 1 ≤ o.id ∧ o.id ≤ 1000000 ∧ 0 ≤ o.node ∧ o.node ≤ 16
  at_ : ∀ k, k < l.length → ∃ id, c.ids[k]? = some id ∧ (1 ≤ id ∧ id ≤ 1000000) ∧ c.inn[k]? = some (if 1 < cnt (l.map (ndm os)) (ndm os id) then 0 else far)
  rate : ∀ t ∈ ts, c.rate ≤ t.rate ∧ c.fixed ≤ t.fixed
  lim : (0 ≤ c.rate ∧ c.rate ≤ 1000) ∧ 0 ≤ c.fixed ∧ c.fixed ≤ 1000000
  bound : c.bound = c.fixed + c.rate * (c.inn.sum + c.back)
theorem far_ok {N far : Int} {D T : List Int} {os : List O} {ts : List Ld.T} {l : List Int} {m : Nat} (h : (makeS N D T os ts l).2 = 0) (hne : l ≠ []) (hD : D = farK N far m m) (h0 : 0 ≤ far) :
    FarOk os ts l far (makeS N D T os ts l).1 := by
  obtain ⟨hw, hd, hi, hm⟩ := make_is h
  rcases hm with ⟨e, _⟩ | ⟨_, e⟩
  · exact absurd e hne
  have hok := Rt.ok_of hw
  have hml : m = N.toNat * N.toNat := by rw [← hok.ar.dl, hD, farK_len]
  have hat : ∀ f t, Ar.hasB N f = true → Ar.hasB N t = true → Ar.at2 N D f t = if f = t then 0 else far := fun f t hf ht => by
    obtain ⟨i, rfl, hi⟩ := Ar.has_nat hok.ar.cast hf
    obtain ⟨j, rfl, hj⟩ := Ar.has_nat hok.ar.cast ht
    have h1 := hok.ar.n1
    have := far_at (far := far) (m := m) (by omega) hml hi hj
    rw [← hok.ar.cast, ← hD] at this
    rw [this]
    by_cases e : i = j
    · subst e; simp
    · rw [if_neg e, if_neg (by omega)]
  have hL : ∀ o ∈ Rt.ordersOf os (Pl.srt l), Ar.hasB N o.node = true ∧ o.node ≠ 0 := fun o ho => by
    have h1 := hok.oo o (ords_mem hi ho).1
    exact ⟨Rt.OOk.has h1, by have := h1.no0; omega⟩
  have hidl : (Rt.ordersOf os (Pl.srt l)).map O.id = Pl.srt l := ids_of hi
  have hnode : ∀ id ∈ Pl.srt l, ndm os id = (Rt.ordAt os id).node := fun id hid => by
    obtain ⟨e1, e2⟩ := ord_of hi hid
    have := nd_in os (fun _ => 0) hok.ou _ e2
    rw [e1] at this
    exact this
  have hcnt : ∀ y, cnt (l.map (ndm os)) y = cnt ((Rt.ordersOf os (Pl.srt l)).map O.node) y := fun y => by
    have e1 : (Rt.ordersOf os (Pl.srt l)).map O.node = (Pl.srt l).map (ndm os) := by
      unfold Rt.ordersOf
      rw [List.map_map]
      exact List.map_congr_left fun id hid => (hnode id hid).symm
    rw [e1]
    exact (cnt_perm ((Pl.srt_perm l).map _) y).symm
  have hn16 : N ≤ 16 := by have := hok.ar.cast; have := hok.ar.n16; omega
  have hon : ∀ o ∈ os, 1 ≤ o.id ∧ o.id ≤ 1000000 ∧ 0 ≤ o.node ∧ o.node ≤ 16 := fun o ho => by
    have h1 := hok.oo o ho
    have := h1.id0; have := h1.id1; have := h1.no0; have := h1.no1
    omega
  have hsi : ∀ id ∈ Pl.srt l, 1 ≤ id ∧ id ≤ 1000000 := fun id hid => by
    obtain ⟨e1, e2⟩ := ord_of hi hid
    have := hon _ e2
    rw [e1] at this
    omega
  rw [e]
  refine ⟨?_, ?_, back_far hat hok.ar.has0 hL (ords_ne hne), fun id hid => hsi id ((Pl.srt_perm l).mem_iff.2 hid), fun y => ?_, hon, fun k hk => ?_, fun t ht => ?_, ?_, rfl⟩
  · show ((Rt.ordersOf os (Pl.srt l)).map O.id).length = _
    rw [hidl, Pl.srt_len]
  · show (nears N D _).length = _
    rw [nears_len, Rt.ordersOf_len, Pl.srt_len]
  · exact nd_all (P := fun z => 0 ≤ z ∧ z ≤ 16) os _ y (by omega) fun o ho => (hon o ho).2.2
  · have hks : k < (Pl.srt l).length := by rw [Pl.srt_len]; exact hk
    have hid : (Pl.srt l)[k]? = some (Pl.srt l)[k] := List.getElem?_eq_getElem hks
    have hm2 := List.getElem_mem hks
    refine ⟨(Pl.srt l)[k], ?_, hsi _ hm2, ?_⟩
    · show ((Rt.ordersOf os (Pl.srt l)).map O.id)[k]? = _
      rw [hidl]
      exact hid
    · show (nears N D (Rt.ordersOf os (Pl.srt l)))[k]? = _
      rw [nears_at (by rw [Rt.ordersOf_len]; exact hks), near_far h0 hat hok.ar.has0 hL (ords_at hid), hcnt, hnode _ hm2]
  · exact ⟨lst_le (List.mem_map.2 ⟨t, ht, rfl⟩), lst_le (List.mem_map.2 ⟨t, ht, rfl⟩)⟩
  · refine ⟨⟨lst_ge fun x hx => ?_, lst_up (by omega) fun x hx => ?_⟩, lst_ge fun x hx => ?_, lst_up (by omega) fun x hx => ?_⟩ <;> obtain ⟨t, ht, rfl⟩ := List.mem_map.1 hx
    · exact (hok.tt t ht).ra0
    · exact (hok.tt t ht).ra1
    · exact (hok.tt t ht).fx0
    · exact (hok.tt t ht).fx1
end Bo
end
