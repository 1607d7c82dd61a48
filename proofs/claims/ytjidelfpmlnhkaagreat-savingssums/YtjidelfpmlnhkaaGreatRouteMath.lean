/- Plain mathematics behind package route: visits, trips, which route can be run. No program is named here. -/
import Derived.Test.YtjidelfpmlnhkaaGreatAreaMath
import Derived.Test.YtjidelfpmlnhkaaGreatLoadMath
set_option linter.unusedVariables false
namespace Rt
open Ld

structure V where
  order : Int
  arrive : Int
  start : Int
  leave : Int
def V.ints (v : V) : List Int := [v.order, v.arrive, v.start, v.leave]
theorem vints_len (v : V) : v.ints.length = 4 := rfl

/-- where a truck is -/
structure S where
  node : Int
  time : Int
  dist : Int

def visit (N : Int) (T : List Int) (s : S) (o : O) : V :=
  ⟨o.id, s.time + Ar.at2 N T s.node o.node, max (s.time + Ar.at2 N T s.node o.node) o.frm, max (s.time + Ar.at2 N T s.node o.node) o.frm + o.service⟩
def step (N : Int) (D T : List Int) (s : S) (o : O) : S := ⟨o.node, (visit N T s o).leave, s.dist + Ar.at2 N D s.node o.node⟩
def visits (N : Int) (D T : List Int) (s : S) : List O → List V
  | [] => []
  | o :: r => visit N T s o :: visits N D T (step N D T s o) r
def fin (N : Int) (D T : List Int) (s : S) (l : List O) : S := l.foldl (step N D T) s
def inTime (N : Int) (D T : List Int) (s : S) : List O → Bool
  | [] => true
  | o :: r => decide ((visit N T s o).start ≤ o.to) && inTime N D T (step N D T s o) r

section
variable {N : Int} {D T : List Int}
theorem fin_nil (s : S) : fin N D T s [] = s := rfl
theorem fin_snoc (s : S) (l : List O) (o : O) : fin N D T s (l ++ [o]) = step N D T (fin N D T s l) o := by unfold fin; rw [List.foldl_append]; rfl
theorem visits_len (l : List O) : ∀ s : S, (visits N D T s l).length = l.length := by
  induction l with
  | nil => intro s; rfl
  | cons o r ih => intro s; simp [visits, ih]
theorem visits_snoc (l : List O) (o : O) : ∀ s : S, visits N D T s (l ++ [o]) = visits N D T s l ++ [visit N T (fin N D T s l) o] := by
  induction l with
  | nil => intro s; rfl
  | cons x r ih => intro s; simp only [List.cons_append, visits, ih]; rfl
theorem inTime_snoc (l : List O) (o : O) : ∀ s : S, inTime N D T s (l ++ [o]) = (inTime N D T s l && decide ((visit N T (fin N D T s l) o).start ≤ o.to)) := by
  induction l with
  | nil => intro s; show (decide _ && true) = (true && decide _); rw [Bool.and_true, Bool.true_and]; rfl
  | cons x r ih => intro s; simp only [List.cons_append, inTime, ih, Bool.and_assoc]; rfl
theorem visits_take (l : List O) (k : Nat) : ∀ s : S, visits N D T s (l.take k) = (visits N D T s l).take k := by
  induction l generalizing k with
  | nil => intro s; simp [visits]
  | cons o r ih =>
    intro s
    cases k with
    | zero => rfl
    | succ k => simp only [List.take_succ_cons, visits, ih]
theorem visits_at (l : List O) (k : Nat) (o : O) : ∀ s : S, l[k]? = some o → (visits N D T s l)[k]? = some (visit N T (fin N D T s (l.take k)) o) := by
  induction l generalizing k with
  | nil => intro s h; simp at h
  | cons x r ih =>
    intro s h
    cases k with
    | zero => simp at h; subst h; rfl
    | succ k => simp at h; simpa [visits, fin] using ih k (step N D T s x) h
theorem inTime_take (l : List O) (k : Nat) : ∀ s : S, inTime N D T s l = true → inTime N D T s (l.take k) = true := by
  induction l generalizing k with
  | nil => intro s _; simp [inTime]
  | cons o r ih =>
    intro s h
    cases k with
    | zero => rfl
    | succ k =>
      simp only [inTime, Bool.and_eq_true] at h
      simp only [List.take_succ_cons, inTime, Bool.and_eq_true]
      exact ⟨h.1, ih k _ h.2⟩
theorem late_from {l : List O} {k : Nat} {s : S} (h : inTime N D T s (l.take k) = false) : inTime N D T s l = false := by
  rw [Bool.eq_false_iff]
  intro e
  have := inTime_take (N := N) (D := D) (T := T) l k s e
  rw [h] at this
  cases this
theorem inTime_at {l : List O} {k : Nat} {o : O} {s : S} (h : inTime N D T s l = true) (ho : l[k]? = some o) : (visit N T (fin N D T s (l.take k)) o).start ≤ o.to := by
  have := inTime_take (N := N) (D := D) (T := T) l (k + 1) s h
  rw [List.take_add_one, ho] at this
  simp only [Option.toList_some] at this
  rw [inTime_snoc, Bool.and_eq_true] at this
  exact of_decide_eq_true this.2

/-- back at the depot -/
def home (N : Int) (D T : List Int) (s : S) : S := ⟨0, s.time + Ar.at2 N T s.node 0, s.dist + Ar.at2 N D s.node 0⟩
end

/-- a trip, or why there is none -/
structure R where
  vs : List V
  back : Int
  dist : Int
  cost : Int
  e : Int
def err (e : Int) : R := ⟨[], 0, 0, 0, e⟩
def out (t : T) (l : List O) (N : Int) (D T : List Int) : S := fin N D T ⟨0, t.start, 0⟩ l
def driveS (N : Int) (D T : List Int) (t : Ld.T) (l : List O) : R :=
  if inTime N D T ⟨0, t.start, 0⟩ l = true ∧ (home N D T (fin N D T ⟨0, t.start, 0⟩ l)).time ≤ t.fin then
    ⟨visits N D T ⟨0, t.start, 0⟩ l, (home N D T (fin N D T ⟨0, t.start, 0⟩ l)).time, (home N D T (fin N D T ⟨0, t.start, 0⟩ l)).dist, t.fixed + t.rate * (home N D T (fin N D T ⟨0, t.start, 0⟩ l)).dist, 0⟩
  else err 10
theorem drive_ok {N : Int} {D T : List Int} {t : Ld.T} {l : List O} {s : S} (hs : fin N D T ⟨0, t.start, 0⟩ l = s) (h1 : inTime N D T ⟨0, t.start, 0⟩ l = true) (h2 : s.time + Ar.at2 N T s.node 0 ≤ t.fin) :
    driveS N D T t l = ⟨visits N D T ⟨0, t.start, 0⟩ l, s.time + Ar.at2 N T s.node 0, s.dist + Ar.at2 N D s.node 0, t.fixed + t.rate * (s.dist + Ar.at2 N D s.node 0), 0⟩ := by
  subst hs
  unfold driveS
  rw [if_pos ⟨h1, h2⟩]
  rfl
theorem drive_late {N : Int} {D T : List Int} {t : Ld.T} {l : List O} (h : inTime N D T ⟨0, t.start, 0⟩ l = false) : driveS N D T t l = err 10 := by
  unfold driveS
  rw [if_neg]
  rintro ⟨h1, _⟩
  rw [h] at h1
  cases h1
theorem drive_back {N : Int} {D T : List Int} {t : Ld.T} {l : List O} {s : S} (hs : fin N D T ⟨0, t.start, 0⟩ l = s) (h2 : ¬ s.time + Ar.at2 N T s.node 0 ≤ t.fin) : driveS N D T t l = err 10 := by
  subst hs
  unfold driveS
  rw [if_neg]
  exact fun h => h2 h.2

/-- whether a world may be -/
def worldE (N : Int) (D T : List Int) (os : List O) (ts : List Ld.T) : Int := if Ar.checkE N D T = 0 then Ld.worldE N os ts else Ar.checkE N D T
theorem check_01 (N : Int) (D T : List Int) : Ar.checkE N D T = 0 ∧ Ar.okB N D T = true ∨ Ar.checkE N D T = 1 ∧ Ar.okB N D T = false := by
  cases h : Ar.okB N D T
  · exact .inr ⟨Ar.check_no h, rfl⟩
  · exact .inl ⟨Ar.check_yes h, rfl⟩
theorem world_bad {N : Int} {D T : List Int} {os : List O} {ts : List Ld.T} (h : Ar.checkE N D T = 1) : worldE N D T os ts = 1 := by unfold worldE; rw [if_neg (by omega), h]
theorem world_rest {N : Int} {D T : List Int} {os : List O} {ts : List Ld.T} (h : Ar.checkE N D T = 0) : worldE N D T os ts = Ld.worldE N os ts := by unfold worldE; rw [if_pos h]

/-- the order of that Id -/
def ordAt (os : List O) (id : Int) : O := (os[(findI (os.map O.id) id).toNat]?).getD ⟨0, 0, 0, 0, 0, 0, 0, 0⟩
def allIn (os : List O) (ids : List Int) : Bool := ids.all fun id => !(decide (findI (os.map O.id) id = -1))
def ordersOf (os : List O) (ids : List Int) : List O := ids.map (ordAt os)
def truckAt (ts : List Ld.T) (id : Int) : Ld.T := (ts[(findI (ts.map Ld.T.id) id).toNat]?).getD ⟨0, 0, 0, 0, 0, 0, 0⟩

def runS (N : Int) (D T : List Int) (os : List O) (ts : List Ld.T) (tr : Int) (st : List Int) : R :=
  if worldE N D T os ts = 0 then
    (if st.length < 1 ∨ 12 < st.length then err 2
    else if findI (ts.map Ld.T.id) tr = -1 ∨ allIn os st = false then err 5
    else if twB st = true then err 6
    else if carE (truckAt ts tr) (ordersOf os st) = 0 then driveS N D T (truckAt ts tr) (ordersOf os st)
    else err (carE (truckAt ts tr) (ordersOf os st)))
  else err (worldE N D T os ts)

section
variable {N : Int} {D T : List Int} {os : List O} {ts : List Ld.T} {tr : Int} {st : List Int}
theorem run_world {e : Int} (h : worldE N D T os ts = e) (he : ¬ e = 0) : runS N D T os ts tr st = err e := by unfold runS; rw [h, if_neg he]
theorem run_form (h : worldE N D T os ts = 0) (h2 : st.length < 1 ∨ 12 < st.length) : runS N D T os ts tr st = err 2 := by unfold runS; rw [if_pos h, if_pos h2]
theorem run_name (h : worldE N D T os ts = 0) (h2 : ¬ (st.length < 1 ∨ 12 < st.length)) (h3 : findI (ts.map Ld.T.id) tr = -1 ∨ allIn os st = false) : runS N D T os ts tr st = err 5 := by unfold runS; rw [if_pos h, if_neg h2, if_pos h3]
theorem run_twice (h : worldE N D T os ts = 0) (h2 : ¬ (st.length < 1 ∨ 12 < st.length)) (h3 : ¬ findI (ts.map Ld.T.id) tr = -1) (h4 : allIn os st = true) (h5 : twB st = true) : runS N D T os ts tr st = err 6 := by
  unfold runS; rw [if_pos h, if_neg h2, if_neg (by rintro (h | h); exact h3 h; rw [h4] at h; cases h), if_pos h5]
theorem run_load (h : worldE N D T os ts = 0) (h2 : ¬ (st.length < 1 ∨ 12 < st.length)) (h3 : ¬ findI (ts.map Ld.T.id) tr = -1) (h4 : allIn os st = true) (h5 : twB st = false) {e : Int} (h6 : carE (truckAt ts tr) (ordersOf os st) = e) (he : ¬ e = 0) : runS N D T os ts tr st = err e := by
  unfold runS; rw [if_pos h, if_neg h2, if_neg (by rintro (h | h); exact h3 h; rw [h4] at h; cases h), if_neg (by rw [h5]; simp), if_neg (by rw [h6]; exact he), h6]
theorem run_go (h : worldE N D T os ts = 0) (h2 : ¬ (st.length < 1 ∨ 12 < st.length)) (h3 : ¬ findI (ts.map Ld.T.id) tr = -1) (h4 : allIn os st = true) (h5 : twB st = false) (h6 : carE (truckAt ts tr) (ordersOf os st) = 0) : runS N D T os ts tr st = driveS N D T (truckAt ts tr) (ordersOf os st) := by
  unfold runS; rw [if_pos h, if_neg h2, if_neg (by rintro (h | h); exact h3 h; rw [h4] at h; cases h), if_neg (by rw [h5]; simp), if_pos h6]

/-- what a world that may be holds -/
structure Ok (N : Int) (D T : List Int) (os : List O) (ts : List Ld.T) (n : Nat) : Prop where
  ar : Ar.Ok N D T n
  ol : os.length ≤ 12
  tl : ts.length ≤ 6
  oo : ∀ o ∈ os, OOk o N
  tt : ∀ t ∈ ts, TOk t
  ou : (os.map O.id).Nodup
  tu : (ts.map Ld.T.id).Nodup
theorem ok_of (h : worldE N D T os ts = 0) : Ok N D T os ts N.toNat := by
  rcases check_01 N D T with ⟨h1, h2⟩ | ⟨h1, h2⟩
  · rw [world_rest h1] at h
    obtain ⟨a, b, c, d, e, f⟩ := world_is h
    exact ⟨Ar.ok_of h2, a, b, fun o ho => (oB_iff o N).1 (List.all_eq_true.1 c o ho), fun t ht => (tB_iff t).1 (List.all_eq_true.1 d t ht), e, f⟩
  · rw [world_bad h1] at h
    cases h
theorem ok_area (h : worldE N D T os ts = 0) : Ar.okB N D T = true := by
  rcases check_01 N D T with ⟨h1, h2⟩ | ⟨h1, h2⟩
  · exact h2
  · rw [world_bad h1] at h
    cases h
theorem OOk.has {o : O} (h : OOk o N) : Ar.hasB N o.node = true := (Ar.has_iff N o.node).2 (by have := h.no0; have := h.no1; omega)

/-- where one of an Id is, if it is -/
theorem find_mem {α : Type} (f : α → Int) (l : List α) (id : Int) (h : ¬ findI (l.map f) id = -1) : ∃ (k : Nat) (x : α), findI (l.map f) id = (k : Int) ∧ k < l.length ∧ l[k]? = some x ∧ f x = id := by
  have hg := findI_ge (l.map f) id
  have hk := find_is (l := l.map f) (id := id) (k := (findI (l.map f) id).toNat) (by omega)
  have h1 := hk.1
  rw [List.getElem?_map] at h1
  cases hx : l[(findI (l.map f) id).toNat]? with
  | none => rw [hx] at h1; cases h1
  | some x =>
    rw [hx] at h1
    exact ⟨_, x, by omega, (List.getElem?_eq_some_iff.1 hx).1, hx, by simpa using h1⟩
theorem ordAt_eq {id : Int} {k : Nat} {o : O} (h : findI (os.map O.id) id = (k : Int)) (ho : os[k]? = some o) : ordAt os id = o := by
  unfold ordAt
  rw [h]
  simp [ho]
theorem truckAt_eq {id : Int} {k : Nat} {t : Ld.T} (h : findI (ts.map Ld.T.id) id = (k : Int)) (ho : ts[k]? = some t) : truckAt ts id = t := by
  unfold truckAt
  rw [h]
  simp [ho]
theorem allIn_at {k : Nat} {id : Int} (h : allIn os st = true) (hk : st[k]? = some id) : ¬ findI (os.map O.id) id = -1 := by
  have := List.all_eq_true.1 h id (List.mem_of_getElem? hk)
  simpa using this
theorem allIn_no {k : Nat} {id : Int} (hk : st[k]? = some id) (h : findI (os.map O.id) id = -1) : allIn os st = false := by
  rw [Bool.eq_false_iff]
  exact fun e => allIn_at e hk h
theorem allIn_all (h : ∀ (k : Nat) (id : Int), st[k]? = some id → ¬ findI (os.map O.id) id = -1) : allIn os st = true := by
  refine List.all_eq_true.2 fun id hid => ?_
  obtain ⟨k, hk⟩ := List.getElem?_of_mem hid
  simpa using h k id hk
theorem orders_mem (h : allIn os st = true) : ∀ o ∈ ordersOf os st, o ∈ os := by
  intro o ho
  obtain ⟨id, hid, rfl⟩ := List.mem_map.1 ho
  obtain ⟨k, hk⟩ := List.getElem?_of_mem hid
  obtain ⟨j, x, h1, _, h2, _⟩ := find_mem O.id os id (allIn_at h hk)
  rw [ordAt_eq h1 h2]
  exact List.mem_of_getElem? h2
theorem ordAt_id {id : Int} (h : ¬ findI (os.map O.id) id = -1) : (ordAt os id).id = id := by
  obtain ⟨j, x, h1, _, h2, h3⟩ := find_mem O.id os id h
  rw [ordAt_eq h1 h2, h3]

/-- how great all gets -/
structure Bd (N : Int) (s : S) (k : Nat) : Prop where
  nd : Ar.hasB N s.node = true
  t0 : 0 ≤ s.time
  t1 : s.time ≤ 1000000 + (k : Int) * 1010000
  d0 : 0 ≤ s.dist
  d1 : s.dist ≤ (k : Int) * 1000000
theorem Bd.step {n k : Nat} {s : S} {o : O} (ho : Ar.Ok N D T n) (h : Bd N s k) (hoo : OOk o N) : Bd N (step N D T s o) (k + 1) := by
  have h1 := ho.at_d h.nd (OOk.has hoo)
  have h2 := ho.at_t h.nd (OOk.has hoo)
  have := h.t0; have := h.t1; have := h.d0; have := h.d1
  have := hoo.fr0; have := hoo.fr1; have := hoo.to1; have := hoo.se0; have := hoo.se1
  refine ⟨OOk.has hoo, ?_, ?_, ?_, ?_⟩
  · show 0 ≤ max (s.time + Ar.at2 N T s.node o.node) o.frm + o.service
    omega
  · show max (s.time + Ar.at2 N T s.node o.node) o.frm + o.service ≤ 1000000 + ((k + 1 : Nat) : Int) * 1010000
    omega
  · show 0 ≤ s.dist + Ar.at2 N D s.node o.node
    omega
  · show s.dist + Ar.at2 N D s.node o.node ≤ ((k + 1 : Nat) : Int) * 1000000
    omega
theorem Bd.fin {n : Nat} (ho : Ar.Ok N D T n) {l : List O} (hl : ∀ o ∈ l, OOk o N) {st : Int} (h0 : 0 ≤ st) (h1 : st ≤ 1000000) : Bd N (fin N D T ⟨0, st, 0⟩ l) l.length := by
  induction l using Ar.snoc_ind with
  | h0 => exact ⟨ho.has0, h0, by show st ≤ 1000000 + ((0 : Nat) : Int) * 1010000; omega, Int.le_refl _, by simp [Rt.fin]⟩
  | h1 l o ih =>
    rw [fin_snoc, List.length_append]
    exact (ih fun x hx => hl x (by simp [hx])).step ho (hl o (by simp))
end

/-- one order more -/
theorem next_of {N : Int} {D T : List Int} {st : S} {l : List O} {k : Nat} {nd tim dis a0 a1 a2 a3 a4 a5 a6 a7 dd tt y : Int} (hf : fin N D T st (l.take k) = ⟨nd, tim, dis⟩) (ho : l[k]? = some ⟨a0, a1, a2, a3, a4, a5, a6, a7⟩)
    (hd : Ar.at2 N D nd a2 = dd) (ht : Ar.at2 N T nd a2 = tt) (hy : max (tim + tt) a5 = y) :
    fin N D T st (l.take (k + 1)) = ⟨a2, y + a7, dis + dd⟩ ∧ visits N D T st (l.take k) ++ [⟨a0, tim + tt, y, y + a7⟩] = visits N D T st (l.take (k + 1)) ∧ inTime N D T st (l.take (k + 1)) = (inTime N D T st (l.take k) && decide (y ≤ a6)) := by
  subst hd ht hy
  rw [List.take_add_one, ho]
  simp only [Option.toList_some]
  rw [fin_snoc, visits_snoc, inTime_snoc, hf]
  exact ⟨rfl, rfl, rfl⟩
/-- of a route within its limits, at any of its orders -/
theorem Bd.at_ {N : Int} {D T : List Int} {n : Nat} (ho : Ar.Ok N D T n) {l : List O} (hl : ∀ o ∈ l, OOk o N) (h12 : l.length ≤ 12) {st : Int} (h0 : 0 ≤ st) (h1 : st ≤ 1000000) {k : Nat} {nd tim dis : Int} (hf : Rt.fin N D T ⟨0, st, 0⟩ (l.take k) = ⟨nd, tim, dis⟩) :
    Ar.hasB N nd = true ∧ 0 ≤ tim ∧ tim ≤ 20000000 ∧ 0 ≤ dis ∧ dis ≤ 20000000 := by
  have h := Bd.fin ho (l := l.take k) (fun o hm => hl o (List.mem_of_mem_take hm)) h0 h1
  rw [hf] at h
  have hlen : (l.take k).length ≤ 12 := by rw [List.length_take]; omega
  have := h.t0; have := h.t1; have := h.d0; have := h.d1
  simp only at *
  exact ⟨h.nd, by omega, by omega, by omega, by omega⟩
end Rt
