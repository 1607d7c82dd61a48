/- Plain mathematics behind package load: which orders, trucks and worlds may be, what orders weigh together, where one is. No program is named here. -/
import Derived.Test.YtjidelfpmlnhkaaGreatMoneyMath
set_option linter.unusedVariables false
namespace Ld

structure O where
  id : Int
  owner : Int
  node : Int
  weight : Int
  volume : Int
  frm : Int
  to : Int
  service : Int

structure T where
  id : Int
  weight : Int
  volume : Int
  start : Int
  fin : Int
  fixed : Int
  rate : Int

def O.ints (o : O) : List Int := [o.id, o.owner, o.node, o.weight, o.volume, o.frm, o.to, o.service]
def T.ints (t : T) : List Int := [t.id, t.weight, t.volume, t.start, t.fin, t.fixed, t.rate]

/-- one number, and from where to where it may be -/
def spB (s : Int × Int × Int) : Bool := decide (s.2.1 ≤ s.1) && decide (s.1 ≤ s.2.2)
def chkE (l : List (Int × Int × Int)) : Int := if l.all spB = true then 0 else 1

theorem spB_yes {a b c : Int} (h1 : b ≤ a) (h2 : a ≤ c) : spB (a, b, c) = true := by simp [spB, h1, h2]
theorem spB_less {a b c : Int} (h1 : a < b) : spB (a, b, c) = false := by simp [spB]; omega
theorem spB_more {a b c : Int} (h1 : c < a) : spB (a, b, c) = false := by simp [spB]; omega
theorem chk_no {l : List (Int × Int × Int)} {k : Nat} {s : Int × Int × Int} (h : l[k]? = some s) (hs : spB s = false) : chkE l = 1 := by
  have : l.all spB = false := List.all_eq_false.2 ⟨s, List.mem_of_getElem? h, by rw [hs]; simp⟩
  unfold chkE
  rw [this]
  rfl
theorem chk_yes {l : List (Int × Int × Int)} (h : ∀ (k : Nat) s, l[k]? = some s → spB s = true) : chkE l = 0 := by
  have : l.all spB = true := List.all_eq_true.2 fun s hs => by
    obtain ⟨k, hk⟩ := List.getElem?_of_mem hs
    exact h k s hk
  unfold chkE
  rw [this]
  rfl
def flat3 (l : List (Int × Int × Int)) : List Int := l.flatMap fun s => [s.1, s.2.1, s.2.2]

def oSp (o : O) (n : Int) : List (Int × Int × Int) :=
  [(o.id, 1, 1000000), (o.owner, 0, 31), (o.node, 1, max n 1 - 1), (o.weight, 1, 1000000), (o.volume, 1, 1000000), (o.frm, 0, o.to), (o.to, 0, 1000000), (o.service, 0, 10000)]
def tSp (t : T) : List (Int × Int × Int) :=
  [(t.id, 1, 1000000), (t.weight, 1, 1000000), (t.volume, 1, 1000000), (t.start, 0, t.fin), (t.fin, 0, 1000000), (t.fixed, 0, 1000000), (t.rate, 0, 1000)]
def oB (o : O) (n : Int) : Bool := (oSp o n).all spB
def tB (t : T) : Bool := (tSp t).all spB
def oE (o : O) (n : Int) : Int := chkE (oSp o n)
def tE (t : T) : Int := chkE (tSp t)
theorem oE_yes {o : O} {n : Int} (h : oB o n = true) : oE o n = 0 := by unfold oE chkE; unfold oB at h; rw [h]; rfl
theorem oE_no {o : O} {n : Int} (h : oB o n = false) : oE o n = 1 := by unfold oE chkE; unfold oB at h; rw [h]; rfl
theorem tE_yes {t : T} (h : tB t = true) : tE t = 0 := by unfold tE chkE; unfold tB at h; rw [h]; rfl
theorem tE_no {t : T} (h : tB t = false) : tE t = 1 := by unfold tE chkE; unfold tB at h; rw [h]; rfl
theorem spB_iff (s : Int × Int × Int) : spB s = true ↔ s.2.1 ≤ s.1 ∧ s.1 ≤ s.2.2 := by simp [spB]

structure OOk (o : O) (n : Int) : Prop where
  id0 : 1 ≤ o.id
  id1 : o.id ≤ 1000000
  ow0 : 0 ≤ o.owner
  ow1 : o.owner ≤ 31
  no0 : 1 ≤ o.node
  no1 : o.node < n
  we0 : 1 ≤ o.weight
  we1 : o.weight ≤ 1000000
  vo0 : 1 ≤ o.volume
  vo1 : o.volume ≤ 1000000
  fr0 : 0 ≤ o.frm
  fr1 : o.frm ≤ o.to
  to1 : o.to ≤ 1000000
  se0 : 0 ≤ o.service
  se1 : o.service ≤ 10000
structure TOk (t : T) : Prop where
  id0 : 1 ≤ t.id
  id1 : t.id ≤ 1000000
  we0 : 1 ≤ t.weight
  we1 : t.weight ≤ 1000000
  vo0 : 1 ≤ t.volume
  vo1 : t.volume ≤ 1000000
  st0 : 0 ≤ t.start
  st1 : t.start ≤ t.fin
  fi1 : t.fin ≤ 1000000
  fx0 : 0 ≤ t.fixed
  fx1 : t.fixed ≤ 1000000
  ra0 : 0 ≤ t.rate
  ra1 : t.rate ≤ 1000

theorem oB_iff (o : O) (n : Int) : oB o n = true ↔ OOk o n := by
  unfold oB oSp
  simp only [List.all_cons, List.all_nil, Bool.and_eq_true, spB_iff, and_true]
  constructor
  · rintro ⟨h1, h2, h3, h4, h5, h6, h7, h8⟩
    exact ⟨h1.1, h1.2, h2.1, h2.2, h3.1, by have := h3.1; have := h3.2; omega, h4.1, h4.2, h5.1, h5.2, h6.1, h6.2, h7.2, h8.1, h8.2⟩
  · intro h
    have := h.no0; have := h.no1; have := h.fr0; have := h.fr1
    exact ⟨⟨h.id0, h.id1⟩, ⟨h.ow0, h.ow1⟩, ⟨h.no0, by omega⟩, ⟨h.we0, h.we1⟩, ⟨h.vo0, h.vo1⟩, ⟨h.fr0, h.fr1⟩, ⟨by omega, h.to1⟩, ⟨h.se0, h.se1⟩⟩
theorem tB_iff (t : T) : tB t = true ↔ TOk t := by
  unfold tB tSp
  simp only [List.all_cons, List.all_nil, Bool.and_eq_true, spB_iff, and_true]
  constructor
  · rintro ⟨h1, h2, h3, h4, h5, h6, h7⟩
    exact ⟨h1.1, h1.2, h2.1, h2.2, h3.1, h3.2, h4.1, h4.2, h5.2, h6.1, h6.2, h7.1, h7.2⟩
  · intro h
    have := h.st0; have := h.st1
    exact ⟨⟨h.id0, h.id1⟩, ⟨h.we0, h.we1⟩, ⟨h.vo0, h.vo1⟩, ⟨h.st0, h.st1⟩, ⟨by omega, h.fi1⟩, ⟨h.fx0, h.fx1⟩, ⟨h.ra0, h.ra1⟩⟩
theorem oB_not {o : O} {n : Int} (h : ¬ OOk o n) : oE o n = 1 := oE_no (by rw [Bool.eq_false_iff]; exact fun e => h ((oB_iff o n).1 e))
theorem oB_ok {o : O} {n : Int} (h : OOk o n) : oE o n = 0 := oE_yes ((oB_iff o n).2 h)
theorem tB_not {t : T} (h : ¬ TOk t) : tE t = 1 := tE_no (by rw [Bool.eq_false_iff]; exact fun e => h ((tB_iff t).1 e))
theorem tB_ok {t : T} (h : TOk t) : tE t = 0 := tE_yes ((tB_iff t).2 h)

/-- two of a list are the same -/
def twB (ids : List Int) : Bool := !decide ids.Nodup
theorem tw_yes {ids : List Int} {k i : Nat} {x : Int} (hki : k < i) (hk : ids[k]? = some x) (hi : ids[i]? = some x) : twB ids = true := by
  unfold twB
  rw [Bool.not_eq_true', decide_eq_false_iff_not]
  intro h
  obtain ⟨h1, e1⟩ := List.getElem?_eq_some_iff.1 hk
  obtain ⟨h2, e2⟩ := List.getElem?_eq_some_iff.1 hi
  exact (List.pairwise_iff_getElem.1 h) k i h1 h2 hki (e1.trans e2.symm)
theorem tw_no {ids : List Int} (h : ∀ (k i : Nat) (x : Int), k < i → ids[k]? = some x → ids[i]? ≠ some x) : twB ids = false := by
  unfold twB
  rw [Bool.not_eq_false', decide_eq_true_eq]
  refine List.pairwise_iff_getElem.2 fun k i h1 h2 hki e => ?_
  exact h k i ids[k] hki (List.getElem?_eq_getElem h1) (by rw [List.getElem?_eq_getElem h2, e])

/-- where the first one of that number is -/
def findI : List Int → Int → Int
  | [], _ => -1
  | x :: r, id => if x = id then 0 else if findI r id = -1 then -1 else findI r id + 1
theorem findI_ge (l : List Int) (id : Int) : -1 ≤ findI l id := by
  induction l with
  | nil => simp [findI]
  | cons x r ih =>
    unfold findI
    split
    · omega
    · split <;> omega
theorem find_at {l : List Int} {id : Int} {k : Nat} (h : l[k]? = some id) (hn : ∀ j, j < k → l[j]? ≠ some id) : findI l id = (k : Int) := by
  induction l generalizing k with
  | nil => simp at h
  | cons x r ih =>
    cases k with
    | zero => simp at h; subst h; simp [findI]
    | succ k =>
      have h0 := hn 0 (by omega)
      simp at h h0
      have := ih h (fun j hj => by have := hn (j + 1) (by omega); simpa using this)
      unfold findI
      rw [if_neg h0, this, if_neg (by omega)]
      omega
theorem find_none {l : List Int} {id : Int} (hn : ∀ j, j < l.length → l[j]? ≠ some id) : findI l id = -1 := by
  induction l with
  | nil => rfl
  | cons x r ih =>
    have h0 := hn 0 (by simp)
    simp at h0
    have := ih (fun j hj => by have := hn (j + 1) (by simp; omega); simpa using this)
    unfold findI
    rw [if_neg h0, this, if_pos rfl]
/-- the first one of a number that is there is no further than that -/
theorem find_same {l : List Int} {x : Int} {k : Nat} (h : l[k]? = some x) : findI l x = (k : Int) ∨ ∃ j, j < k ∧ l[j]? = some x := by
  by_cases hx : ∃ j, j < k ∧ l[j]? = some x
  · exact .inr hx
  · exact .inl (find_at h fun j hj e => hx ⟨j, hj, e⟩)
theorem find_less {l : List Int} {x : Int} {j : Nat} (h : l[j]? = some x) : findI l x ≤ (j : Int) := by
  induction l generalizing j with
  | nil => simp at h
  | cons y r ih =>
    cases j with
    | zero => simp at h; subst h; simp [findI]
    | succ j =>
      simp at h
      have := ih h
      unfold findI
      split
      · omega
      · split <;> omega
theorem find_is {l : List Int} {id : Int} {k : Nat} (h : findI l id = (k : Int)) : l[k]? = some id ∧ ∀ j, j < k → l[j]? ≠ some id := by
  induction l generalizing k with
  | nil => simp [findI] at h
  | cons x r ih =>
    unfold findI at h
    by_cases hx : x = id
    · rw [if_pos hx] at h
      obtain rfl : k = 0 := by omega
      subst hx
      exact ⟨rfl, fun j hj => by omega⟩
    · rw [if_neg hx] at h
      have hg := findI_ge r id
      split at h
      · omega
      · cases k with
        | zero => omega
        | succ k =>
          obtain ⟨h1, h2⟩ := ih (k := k) (by omega)
          refine ⟨by simpa using h1, fun j hj => ?_⟩
          cases j with
          | zero => simpa using hx
          | succ j => simpa using h2 j (by omega)

def worldE (N : Int) (os : List O) (ts : List T) : Int :=
  if 12 < os.length ∨ 6 < ts.length then 4
  else if os.all (fun o => oB o N) = true ∧ ts.all tB = true then (if twB (os.map O.id) = true ∨ twB (ts.map T.id) = true then 6 else 0) else 1
theorem world_full {N : Int} {os : List O} {ts : List T} (h : 12 < os.length ∨ 6 < ts.length) : worldE N os ts = 4 := by unfold worldE; rw [if_pos h]
theorem world_arg {N : Int} {os : List O} {ts : List T} (h : os.length ≤ 12) (h2 : ts.length ≤ 6) (h3 : os.all (fun o => oB o N) = false ∨ ts.all tB = false) : worldE N os ts = 1 := by
  unfold worldE
  rw [if_neg (by omega), if_neg]
  rintro ⟨a, b⟩
  rcases h3 with h3 | h3
  · rw [h3] at a; cases a
  · rw [h3] at b; cases b
theorem world_two {N : Int} {os : List O} {ts : List T} (h : os.length ≤ 12) (h2 : ts.length ≤ 6) (h3 : os.all (fun o => oB o N) = true) (h4 : ts.all tB = true) (h5 : twB (os.map O.id) = true ∨ twB (ts.map T.id) = true) : worldE N os ts = 6 := by
  unfold worldE
  rw [if_neg (by omega), if_pos ⟨h3, h4⟩, if_pos h5]
theorem world_ok {N : Int} {os : List O} {ts : List T} (h : os.length ≤ 12) (h2 : ts.length ≤ 6) (h3 : os.all (fun o => oB o N) = true) (h4 : ts.all tB = true) (h5 : twB (os.map O.id) = false) (h6 : twB (ts.map T.id) = false) : worldE N os ts = 0 := by
  unfold worldE
  rw [if_neg (by omega), if_pos ⟨h3, h4⟩, if_neg (by rw [h5, h6]; simp)]
theorem world_is {N : Int} {os : List O} {ts : List T} (h : worldE N os ts = 0) : os.length ≤ 12 ∧ ts.length ≤ 6 ∧ os.all (fun o => oB o N) = true ∧ ts.all tB = true ∧ (os.map O.id).Nodup ∧ (ts.map T.id).Nodup := by
  unfold worldE at h
  split at h
  · omega
  · split at h
    · rename_i h1 h2
      split at h
      · omega
      · rename_i h3
        have e1 : twB (os.map O.id) = false := by rw [Bool.eq_false_iff]; exact fun e => h3 (.inl e)
        have e2 : twB (ts.map T.id) = false := by rw [Bool.eq_false_iff]; exact fun e => h3 (.inr e)
        unfold twB at e1 e2
        rw [Bool.not_eq_false', decide_eq_true_eq] at e1 e2
        exact ⟨by omega, by omega, h2.1, h2.2, e1, e2⟩
    · omega
theorem all_rev {α : Type} (p : α → Bool) (l : List α) : l.reverse.all p = l.all p := List.all_reverse
theorem tw_rev (l : List Int) : twB l.reverse = twB l := by
  unfold twB
  have : l.reverse.Nodup ↔ l.Nodup := by
    unfold List.Nodup
    rw [List.pairwise_reverse]
    exact ⟨fun h => h.imp fun h e => h e.symm, fun h => h.imp fun h e => h e.symm⟩
  rw [decide_eq_decide.2 this]
theorem world_rev (N : Int) (os : List O) (ts : List T) : worldE N os.reverse ts.reverse = worldE N os ts := by
  unfold worldE
  rw [List.length_reverse, List.length_reverse, all_rev, all_rev, List.map_reverse, List.map_reverse, tw_rev, tw_rev]
theorem tw_nodup {l : List Int} (h : l.Nodup) : twB l = false := by unfold twB; rw [Bool.not_eq_false', decide_eq_true_eq]; exact h
theorem nodup_of_tw {l : List Int} (h : twB l = false) : l.Nodup := by unfold twB at h; rwa [Bool.not_eq_false', decide_eq_true_eq] at h

/-- a world that may be may be without its last order -/
theorem world_less {N : Int} {os : List O} {ts : List T} (h : worldE N os ts = 0) : worldE N (os.reverse.drop 1) ts.reverse = 0 := by
  obtain ⟨h1, h2, h3, h4, h5, h6⟩ := world_is h
  refine world_ok (by rw [List.length_drop, List.length_reverse]; omega) (by rw [List.length_reverse]; omega) ?_ (by rw [all_rev]; exact h4) ?_ (by rw [List.map_reverse, tw_rev]; exact tw_nodup h6)
  · refine List.all_eq_true.2 fun o ho => List.all_eq_true.1 h3 o ?_
    exact List.mem_reverse.1 (List.mem_of_mem_drop ho)
  · refine tw_nodup ?_
    rw [List.map_drop]
    have : (os.map O.id).reverse.Nodup := nodup_of_tw (by rw [tw_rev]; exact tw_nodup h5)
    rw [List.map_reverse]
    exact this.sublist (List.drop_sublist _ _)
theorem last_find {os : List O} {o : O} {n : Nat} (hn : os.length = n + 1) (h : (os.map O.id).Nodup) (ho : os[n]? = some o) : findI (os.map O.id) o.id = (n : Int) ∧ findI ((os.reverse.drop 1).map O.id) o.id = -1 := by
  have hid : (os.map O.id)[n]? = some o.id := by rw [List.getElem?_map, ho]; rfl
  have key : ∀ j : Nat, j < n → (os.map O.id)[j]? ≠ some o.id := fun j hj e => by
    obtain ⟨a1, b1⟩ := List.getElem?_eq_some_iff.1 e
    obtain ⟨a2, b2⟩ := List.getElem?_eq_some_iff.1 hid
    exact (List.pairwise_iff_getElem.1 h) j n a1 a2 hj (b1.trans b2.symm)
  refine ⟨find_at hid key, find_none fun j hj e => ?_⟩
  rw [List.map_drop, List.map_reverse, List.getElem?_drop] at e
  rw [List.length_map, List.length_drop, List.length_reverse] at hj
  rw [List.getElem?_reverse (by rw [List.length_map]; omega), List.length_map] at e
  exact key _ (by omega) e

def sumE (l : List O) : Int × Int × Int :=
  if (Grp.sumS (l.map O.weight)).2 = 0 then (if (Grp.sumS (l.map O.volume)).2 = 0 then ((Grp.sumS (l.map O.weight)).1, (Grp.sumS (l.map O.volume)).1, 0) else (0, 0, (Grp.sumS (l.map O.volume)).2)) else (0, 0, (Grp.sumS (l.map O.weight)).2)
theorem sum_w {l : List O} {a e : Int} (h : Grp.sumS (l.map O.weight) = (a, e)) (he : ¬ e = 0) : sumE l = (0, 0, e) := by unfold sumE; rw [h, if_neg he]
theorem sum_v {l : List O} {a b e : Int} (h : Grp.sumS (l.map O.weight) = (a, 0)) (h2 : Grp.sumS (l.map O.volume) = (b, e)) (he : ¬ e = 0) : sumE l = (0, 0, e) := by unfold sumE; rw [h, h2, if_pos rfl, if_neg he]
theorem sum_ok {l : List O} {a b : Int} (h : Grp.sumS (l.map O.weight) = (a, 0)) (h2 : Grp.sumS (l.map O.volume) = (b, 0)) : sumE l = (a, b, 0) := by unfold sumE; rw [h, h2, if_pos rfl, if_pos rfl]
def carE (t : T) (l : List O) : Int := if (sumE l).2.2 = 0 then (if t.weight < (sumE l).1 ∨ t.volume < (sumE l).2.1 then 9 else 0) else (sumE l).2.2
theorem car_err {t : T} {l : List O} {a b e : Int} (h : sumE l = (a, b, e)) (he : ¬ e = 0) : carE t l = e := by unfold carE; rw [h, if_neg he]
theorem car_more {t : T} {l : List O} {a b : Int} (h : sumE l = (a, b, 0)) (he : t.weight < a ∨ t.volume < b) : carE t l = 9 := by unfold carE; rw [h, if_pos rfl, if_pos he]
theorem car_ok {t : T} {l : List O} {a b : Int} (h : sumE l = (a, b, 0)) (h1 : a ≤ t.weight) (h2 : b ≤ t.volume) : carE t l = 0 := by unfold carE; rw [h, if_pos rfl, if_neg (by show ¬ (t.weight < a ∨ t.volume < b); omega)]

/-- a sum of small numbers -/
def plus : List Int → Int
  | [] => 0
  | x :: r => x + plus r
theorem plus_app (a b : List Int) : plus (a ++ b) = plus a + plus b := by
  induction a with
  | nil => simp [plus]
  | cons x r ih => simp only [List.cons_append, plus, ih]; omega
theorem plus_ge {l : List Int} (h : ∀ x ∈ l, 1 ≤ x ∧ x ≤ 1000000) : 0 ≤ plus l ∧ plus l ≤ 1000000 * l.length := by
  induction l with
  | nil => simp [plus]
  | cons x r ih =>
    have h1 := h x (List.mem_cons_self ..)
    have h2 := ih fun y hy => h y (List.mem_cons_of_mem _ hy)
    simp only [plus, List.length_cons]
    omega
theorem sum_plus {l : List Int} (h : ∀ x ∈ l, 1 ≤ x ∧ x ≤ 1000000) (hl : l.length ≤ 200) : Grp.sumS l = (plus l, 0) := by
  have key : ∀ (r : List Int) (n : Int), (∀ x ∈ r, 1 ≤ x ∧ x ≤ 1000000) → 0 ≤ n → n + 1000000 * r.length ≤ 200000000 → Grp.sumFrom n r = (n + plus r, 0) := by
    intro r
    induction r with
    | nil => intro n _ _ _; simp [Grp.sumFrom, plus]
    | cons x r ih =>
      intro n hr hn hs
      have h1 := hr x (List.mem_cons_self ..)
      simp only [List.length_cons] at hs
      have hm : Grp.mayB (n + x) = true := (Grp.mayB_iff _).2 (by omega)
      have := ih (n + x) (fun y hy => hr y (List.mem_cons_of_mem _ hy)) (by omega) (by omega)
      simp only [Grp.sumFrom, plus, if_pos hm, this, Prod.mk.injEq, and_true]
      omega
  have hall : l.all Grp.mayB = true := List.all_eq_true.2 fun x hx => (Grp.mayB_iff x).2 (by have := h x hx; omega)
  unfold Grp.sumS
  rw [if_pos hall, key l 0 h (by omega) (by omega)]
  simp
structure Fine (l : List O) : Prop where
  w : ∀ x ∈ l.map O.weight, 1 ≤ x ∧ x ≤ 1000000
  v : ∀ x ∈ l.map O.volume, 1 ≤ x ∧ x ≤ 1000000
  len : l.length ≤ 200
theorem fine_of {l : List O} {n : Int} (h : ∀ o ∈ l, OOk o n) (hl : l.length ≤ 200) : Fine l :=
  ⟨fun x hx => by obtain ⟨o, ho, rfl⟩ := List.mem_map.1 hx; exact ⟨(h o ho).we0, (h o ho).we1⟩, fun x hx => by obtain ⟨o, ho, rfl⟩ := List.mem_map.1 hx; exact ⟨(h o ho).vo0, (h o ho).vo1⟩, hl⟩
theorem Fine.sum {l : List O} (h : Fine l) : sumE l = (plus (l.map O.weight), plus (l.map O.volume), 0) :=
  sum_ok (sum_plus h.w (by rw [List.length_map]; exact h.len)) (sum_plus h.v (by rw [List.length_map]; exact h.len))
theorem Fine.take {l : List O} (h : Fine l) (k : Nat) : Fine (l.take k) :=
  ⟨fun x hx => h.w x (by rw [List.map_take] at hx; exact List.mem_of_mem_take hx), fun x hx => h.v x (by rw [List.map_take] at hx; exact List.mem_of_mem_take hx), by have := h.len; rw [List.length_take]; omega⟩
theorem Fine.drop {l : List O} (h : Fine l) (k : Nat) : Fine (l.drop k) :=
  ⟨fun x hx => h.w x (by rw [List.map_drop] at hx; exact List.mem_of_mem_drop hx), fun x hx => h.v x (by rw [List.map_drop] at hx; exact List.mem_of_mem_drop hx), by have := h.len; rw [List.length_drop]; omega⟩

/-- what LoadLess asks of plain numbers -/
structure Less (l : List O) (k : Nat) (w v a b c d : Int) : Prop where
  s0 : sumE l = (w, v, 0)
  s1 : sumE (l.take k) = (a, b, 0)
  s2 : sumE (l.drop k) = (c, d, 0)
  w : w = a + c
  v : v = b + d
  a0 : 0 ≤ a
  a1 : a ≤ 200000000
  b0 : 0 ≤ b
  b1 : b ≤ 200000000
  c0 : 0 ≤ c
  c1 : c ≤ 200000000
  d0 : 0 ≤ d
  d1 : d ≤ 200000000
theorem less_of {l : List O} (h : Fine l) (k : Nat) : ∃ w v a b c d, Less l k w v a b c d := by
  have ht := h.take k
  have hd := h.drop k
  have g1 := plus_ge ht.w
  have g2 := plus_ge ht.v
  have g3 := plus_ge hd.w
  have g4 := plus_ge hd.v
  have l1 := ht.len
  have l2 := hd.len
  rw [List.length_map] at g1 g2 g3 g4
  refine ⟨_, _, _, _, _, _, h.sum, ht.sum, hd.sum, ?_, ?_, g1.1, by omega, g2.1, by omega, g3.1, by omega, g4.1, by omega⟩
  · rw [← plus_app, ← List.map_append, List.take_append_drop]
  · rw [← plus_app, ← List.map_append, List.take_append_drop]

theorem all_snoc {α : Type} {p : α → Bool} {l : List α} {k : Nat} {x : α} (h : l[k]? = some x) (ha : (l.take k).all p = true) (hx : p x = true) : (l.take (k + 1)).all p = true := by
  rw [List.take_add_one, h, List.all_append, ha]
  simp [hx]
theorem all_stop {α : Type} {p : α → Bool} {l : List α} {k : Nat} {x : α} (h : l[k]? = some x) (hx : p x = false) : l.all p = false := List.all_eq_false.2 ⟨x, List.mem_of_getElem? h, by rw [hx]; simp⟩
theorem all_full {α : Type} {p : α → Bool} {l : List α} {k : Nat} (h : l.length ≤ k) (ha : (l.take k).all p = true) : l.all p = true := by rwa [List.take_of_length_le h] at ha

theorem flat_len {α : Type} (f : α → List Int) (c : Nat) (hf : ∀ x, (f x).length = c) (l : List α) : (l.flatMap f).length = l.length * c := by
  induction l with
  | nil => simp
  | cons x r ih => rw [List.flatMap_cons, List.length_append, ih, hf, List.length_cons, Nat.succ_mul, Nat.add_comm]
theorem flat_at {α : Type} (f : α → List Int) (c : Nat) (hf : ∀ x, (f x).length = c) (l : List α) (k : Nat) (x : α) (j : Nat) (hj : j < c) (h : l[k]? = some x) : (l.flatMap f)[k * c + j]? = (f x)[j]? := by
  induction l generalizing k with
  | nil => simp at h
  | cons y r ih =>
    rw [List.flatMap_cons]
    cases k with
    | zero =>
      simp at h
      subst h
      rw [Nat.zero_mul, Nat.zero_add, List.getElem?_append_left (by rw [hf]; exact hj)]
    | succ k =>
      simp at h
      have e : (k + 1) * c + j = c + (k * c + j) := by rw [Nat.succ_mul]; omega
      rw [e, List.getElem?_append_right (by rw [hf]; omega), hf, Nat.add_sub_cancel_left]
      exact ih k h
end Ld
