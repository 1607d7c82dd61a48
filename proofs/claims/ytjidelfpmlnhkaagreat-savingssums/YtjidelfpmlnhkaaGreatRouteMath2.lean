/- Plain mathematics behind the laws of package route: what a run holds, its first stops, an earlier start. No program is named here. -/
import Derived.Test.YtjidelfpmlnhkaaGreatRouteMath
set_option linter.unusedVariables false
namespace Rt
open Ld

/-- what a run that has no error holds -/
structure Runs (N : Int) (D T : List Int) (os : List O) (ts : List Ld.T) (tr : Int) (st : List Int) : Prop where
  w : worldE N D T os ts = 0
  l1 : 1 ≤ st.length
  l2 : st.length ≤ 12
  tk : ¬ findI (ts.map Ld.T.id) tr = -1
  al : allIn os st = true
  tw : twB st = false
  ca : carE (truckAt ts tr) (ordersOf os st) = 0
  it : inTime N D T ⟨0, (truckAt ts tr).start, 0⟩ (ordersOf os st) = true
  hm : (home N D T (fin N D T ⟨0, (truckAt ts tr).start, 0⟩ (ordersOf os st))).time ≤ (truckAt ts tr).fin
section
variable {N : Int} {D T : List Int} {os : List O} {ts : List Ld.T} {tr : Int} {st : List Int}
/-- the trip of a run -/
def tripOf (N : Int) (D T : List Int) (t : Ld.T) (l : List O) : R :=
  ⟨visits N D T ⟨0, t.start, 0⟩ l, (home N D T (fin N D T ⟨0, t.start, 0⟩ l)).time, (home N D T (fin N D T ⟨0, t.start, 0⟩ l)).dist, t.fixed + t.rate * (home N D T (fin N D T ⟨0, t.start, 0⟩ l)).dist, 0⟩
theorem drive_cases (t : Ld.T) (l : List O) : (driveS N D T t l = tripOf N D T t l ∧ inTime N D T ⟨0, t.start, 0⟩ l = true ∧ (home N D T (fin N D T ⟨0, t.start, 0⟩ l)).time ≤ t.fin) ∨ driveS N D T t l = err 10 := by
  unfold driveS
  split
  · rename_i h
    exact .inl ⟨rfl, h.1, h.2⟩
  · exact .inr rfl
theorem runs_of (h : (runS N D T os ts tr st).e = 0) : Runs N D T os ts tr st ∧ runS N D T os ts tr st = tripOf N D T (truckAt ts tr) (ordersOf os st) := by
  by_cases h1 : worldE N D T os ts = 0
  · by_cases h2 : st.length < 1 ∨ 12 < st.length
    · rw [run_form h1 h2] at h
      cases h
    · by_cases h3 : findI (ts.map Ld.T.id) tr = -1 ∨ allIn os st = false
      · rw [run_name h1 h2 h3] at h
        cases h
      · have h4 : ¬ findI (ts.map Ld.T.id) tr = -1 := fun e => h3 (.inl e)
        have h5 : allIn os st = true := by
          cases e : allIn os st
          · exact absurd (.inr e) h3
          · rfl
        cases h6 : twB st
        · by_cases h7 : carE (truckAt ts tr) (ordersOf os st) = 0
          · rw [run_go h1 h2 h4 h5 h6 h7] at h ⊢
            rcases drive_cases (N := N) (D := D) (T := T) (truckAt ts tr) (ordersOf os st) with ⟨a, b, c⟩ | a
            · exact ⟨⟨h1, by omega, by omega, h4, h5, h6, h7, b, c⟩, a⟩
            · rw [a] at h
              cases h
          · rw [run_load h1 h2 h4 h5 h6 rfl h7] at h
            exact absurd h h7
        · rw [run_twice h1 h2 h4 h5 h6] at h
          cases h
  · rw [run_world rfl h1] at h
    exact absurd h h1
theorem Runs.go (h : Runs N D T os ts tr st) : runS N D T os ts tr st = driveS N D T (truckAt ts tr) (ordersOf os st) := run_go h.w (by have := h.l1; have := h.l2; omega) h.tk h.al h.tw h.ca
theorem Runs.run (h : Runs N D T os ts tr st) : runS N D T os ts tr st = tripOf N D T (truckAt ts tr) (ordersOf os st) := by
  rw [h.go]
  unfold driveS
  rw [if_pos ⟨h.it, h.hm⟩]
  rfl
theorem ordersOf_len : (ordersOf os st).length = st.length := by unfold ordersOf; rw [List.length_map]
theorem trip_len (t : Ld.T) (l : List O) : (tripOf N D T t l).vs.length = l.length := visits_len l _
theorem run_err (h : ¬ (runS N D T os ts tr st).e = 0) : (runS N D T os ts tr st).vs = [] ∧ (runS N D T os ts tr st).cost = 0 := by
  unfold runS at h ⊢
  split at h
  · split at h
    · rename_i h1 h2
      rw [if_pos h1, if_pos h2]
      exact ⟨rfl, rfl⟩
    · split at h
      · rename_i h1 h2 h3
        rw [if_pos h1, if_neg h2, if_pos h3]
        exact ⟨rfl, rfl⟩
      · split at h
        · rename_i h1 h2 h3 h4
          rw [if_pos h1, if_neg h2, if_neg h3, if_pos h4]
          exact ⟨rfl, rfl⟩
        · split at h
          · rename_i h1 h2 h3 h4 h5
            rw [if_pos h1, if_neg h2, if_neg h3, if_neg h4, if_pos h5]
            rcases drive_cases (N := N) (D := D) (T := T) (truckAt ts tr) (ordersOf os st) with ⟨a, _, _⟩ | a
            · rw [a] at h
              exact absurd rfl h
            · rw [a]
              exact ⟨rfl, rfl⟩
          · rename_i h1 h2 h3 h4 h5
            rw [if_pos h1, if_neg h2, if_neg h3, if_neg h4, if_neg h5]
            exact ⟨rfl, rfl⟩
  · rename_i h1
    rw [if_neg h1]
    exact ⟨rfl, rfl⟩

/-- a truck that carries some carries the first of them -/
theorem car_take {n : Int} {t : Ld.T} {l : List O} (hl : ∀ o ∈ l, OOk o n) (h2 : l.length ≤ 200) (h : carE t l = 0) (k : Nat) : carE t (l.take k) = 0 := by
  obtain ⟨w, v, a, b, c, d, hs⟩ := less_of (fine_of hl h2) k
  have hn : ¬ (t.weight < w ∨ t.volume < v) := fun e => by
    rw [car_more hs.s0 e] at h
    cases h
  have := hs.w; have := hs.v; have := hs.c0; have := hs.d0
  exact car_ok hs.s1 (by omega) (by omega)
theorem tw_take {l : List Int} (h : twB l = false) (k : Nat) : twB (l.take k) = false := tw_nodup ((nodup_of_tw h).sublist (List.take_sublist k l))
theorem allIn_take (h : allIn os st = true) (k : Nat) : allIn os (st.take k) = true := List.all_eq_true.2 fun x hx => List.all_eq_true.1 h x (List.mem_of_mem_take hx)
theorem ordersOf_take (k : Nat) : ordersOf os (st.take k) = (ordersOf os st).take k := by unfold ordersOf; rw [List.map_take]
theorem Runs.oo (h : Runs N D T os ts tr st) : ∀ o ∈ ordersOf os st, OOk o N := fun o ho => (ok_of h.w).oo o (orders_mem h.al o ho)
/-- the first stops of a route that can be run: they can, too, or are late on the way back -/
theorem first_of (h : Runs N D T os ts tr st) (k : Nat) (h1 : 1 ≤ k) (h2 : k ≤ st.length) :
    runS N D T os ts tr (st.take k) = err 10 ∨ ((runS N D T os ts tr (st.take k)).e = 0 ∧ (runS N D T os ts tr (st.take k)).vs = (visits N D T ⟨0, (truckAt ts tr).start, 0⟩ (ordersOf os st)).take k) := by
  have hg : runS N D T os ts tr (st.take k) = driveS N D T (truckAt ts tr) (ordersOf os (st.take k)) :=
    run_go h.w (by have := h.l2; rw [List.length_take]; omega) h.tk (allIn_take h.al k) (tw_take h.tw k) (by rw [ordersOf_take]; exact car_take h.oo (by rw [ordersOf_len]; have := h.l2; omega) h.ca k)
  rw [hg]
  rcases drive_cases (N := N) (D := D) (T := T) (truckAt ts tr) (ordersOf os (st.take k)) with ⟨a, _, _⟩ | a
  · right
    rw [a]
    refine ⟨rfl, ?_⟩
    show visits N D T _ (ordersOf os (st.take k)) = _
    rw [ordersOf_take, visits_take]
  · exact .inl a

/-- a truck that starts earlier is nowhere later -/
structure Le (a b : S) : Prop where
  n : a.node = b.node
  t : a.time ≤ b.time
  d : a.dist = b.dist
structure VLe (a b : V) : Prop where
  ar : a.arrive ≤ b.arrive
  be : a.start ≤ b.start
  le : a.leave ≤ b.leave
theorem Le.visit {a b : S} (h : Le a b) (o : O) : VLe (visit N T a o) (visit N T b o) := by
  have h1 := h.n; have h2 := h.t
  refine ⟨?_, ?_, ?_⟩
  · show a.time + Ar.at2 N T a.node o.node ≤ b.time + Ar.at2 N T b.node o.node
    rw [h1]; omega
  · show max (a.time + Ar.at2 N T a.node o.node) o.frm ≤ max (b.time + Ar.at2 N T b.node o.node) o.frm
    rw [h1]; omega
  · show max (a.time + Ar.at2 N T a.node o.node) o.frm + o.service ≤ max (b.time + Ar.at2 N T b.node o.node) o.frm + o.service
    rw [h1]; omega
theorem Le.step {a b : S} (h : Le a b) (o : O) : Le (step N D T a o) (step N D T b o) :=
  ⟨rfl, (h.visit o).le, by show a.dist + Ar.at2 N D a.node o.node = b.dist + Ar.at2 N D b.node o.node; rw [h.n, h.d]⟩
theorem Le.fin {l : List O} : ∀ {a b : S}, Le a b → Le (fin N D T a l) (fin N D T b l) := by
  induction l with
  | nil => intro a b h; exact h
  | cons o r ih => intro a b h; exact ih (h.step o)
theorem Le.inTime {l : List O} : ∀ {a b : S}, Le a b → inTime N D T b l = true → inTime N D T a l = true := by
  induction l with
  | nil => intro a b h _; rfl
  | cons o r ih =>
    intro a b h hb
    simp only [Rt.inTime, Bool.and_eq_true] at hb ⊢
    have := of_decide_eq_true hb.1
    have := (h.visit (N := N) (T := T) o).be
    exact ⟨decide_eq_true (by omega), ih (h.step o) hb.2⟩
theorem Le.visits {l : List O} : ∀ {a b : S}, Le a b → ∀ (k : Nat) (u v : V), (visits N D T a l)[k]? = some u → (visits N D T b l)[k]? = some v → VLe u v := by
  induction l with
  | nil => intro a b h k u v hu; simp [Rt.visits] at hu
  | cons o r ih =>
    intro a b h k u v hu hv
    cases k with
    | zero => simp [Rt.visits] at hu hv; subst hu hv; exact h.visit o
    | succ k => simp [Rt.visits] at hu hv; exact ih (h.step o) k u v hu hv

/-- a list with one of it in another's place -/
theorem find_of_ids {l m : List Int} (h : l = m) (x : Int) : findI l x = findI m x := by rw [h]
theorem set_ids {k : Nat} {t t' : Ld.T} (h : ts[k]? = some t) (hid : t'.id = t.id) : (ts.set k t').map Ld.T.id = ts.map Ld.T.id := by
  apply List.ext_getElem?
  intro i
  rw [List.getElem?_map, List.getElem?_map, List.getElem?_set]
  split
  · rename_i e
    subst e
    rw [h]
    split
    · simp [hid]
    · rename_i h2
      have := (List.getElem?_eq_some_iff.1 h).1
      exact absurd this h2
  · rfl
theorem early_of (h : Runs N D T os ts tr st) {k : Nat} {t t' : Ld.T} (hk : findI (ts.map Ld.T.id) tr = (k : Int)) (ht : ts[k]? = some t) (h1 : t'.id = t.id) (h2 : t'.weight = t.weight) (h3 : t'.volume = t.volume) (h4 : t'.fixed = t.fixed) (h5 : t'.rate = t.rate)
    (h6 : 0 ≤ t'.start) (h7 : t'.start ≤ t.start) (h8 : t.fin ≤ t'.fin) (h9 : t'.fin ≤ 1000000) :
    (runS N D T os (ts.set k t') tr st).e = 0 ∧ (runS N D T os (ts.set k t') tr st).back ≤ (runS N D T os ts tr st).back ∧ (runS N D T os (ts.set k t') tr st).dist = (runS N D T os ts tr st).dist ∧ (runS N D T os (ts.set k t') tr st).cost = (runS N D T os ts tr st).cost ∧
    (runS N D T os (ts.set k t') tr st).vs = visits N D T ⟨0, t'.start, 0⟩ (ordersOf os st) ∧ (runS N D T os ts tr st).vs = visits N D T ⟨0, t.start, 0⟩ (ordersOf os st) ∧ Le ⟨0, t'.start, 0⟩ ⟨0, t.start, 0⟩ := by
  have hok := ok_of h.w
  have htok := hok.tt t (List.mem_of_getElem? ht)
  have hids := set_ids (t' := t') ht h1
  have hta := truckAt_eq hk ht
  have hkl : k < ts.length := (List.getElem?_eq_some_iff.1 ht).1
  have hta' : truckAt (ts.set k t') tr = t' := truckAt_eq (by rw [hids]; exact hk) (by rw [List.getElem?_set]; simp [hkl])
  have hL : Le ⟨0, t'.start, 0⟩ ⟨0, t.start, 0⟩ := ⟨rfl, h7, rfl⟩
  have htok' : TOk t' := ⟨by rw [h1]; exact htok.id0, by rw [h1]; exact htok.id1, by rw [h2]; exact htok.we0, by rw [h2]; exact htok.we1, by rw [h3]; exact htok.vo0, by rw [h3]; exact htok.vo1, h6, by have := htok.st1; omega, h9, by rw [h4]; exact htok.fx0, by rw [h4]; exact htok.fx1, by rw [h5]; exact htok.ra0, by rw [h5]; exact htok.ra1⟩
  have hw : worldE N D T os (ts.set k t') = 0 := by
    have hw0 := h.w
    rcases check_01 N D T with ⟨c1, c2⟩ | ⟨c1, c2⟩
    · rw [world_rest c1] at hw0 ⊢
      obtain ⟨a, b, c, d, e, f⟩ := world_is hw0
      refine world_ok a (by rw [List.length_set]; exact b) c ?_ (tw_nodup e) (by rw [hids]; exact tw_nodup f)
      refine List.all_eq_true.2 fun y hy => ?_
      rcases List.mem_or_eq_of_mem_set hy with hy | rfl
      · exact List.all_eq_true.1 d y hy
      · exact (tB_iff y).2 htok'
    · rw [world_bad c1] at hw0
      cases hw0
  have hca : carE t' (ordersOf os st) = 0 := by
    have := h.ca
    rw [hta] at this
    unfold carE at this ⊢
    rw [h2, h3]
    exact this
  have hit := h.it
  have hhm := h.hm
  rw [hta] at hit hhm
  have hF := Le.fin (N := N) (D := D) (T := T) (l := ordersOf os st) hL
  have htime : (home N D T (fin N D T ⟨0, t'.start, 0⟩ (ordersOf os st))).time ≤ (home N D T (fin N D T ⟨0, t.start, 0⟩ (ordersOf os st))).time := by
    show (fin N D T ⟨0, t'.start, 0⟩ (ordersOf os st)).time + Ar.at2 N T (fin N D T ⟨0, t'.start, 0⟩ (ordersOf os st)).node 0 ≤ _ + Ar.at2 N T (fin N D T ⟨0, t.start, 0⟩ (ordersOf os st)).node 0
    have := hF.t
    rw [hF.n]
    omega
  have hdist : (home N D T (fin N D T ⟨0, t'.start, 0⟩ (ordersOf os st))).dist = (home N D T (fin N D T ⟨0, t.start, 0⟩ (ordersOf os st))).dist := by
    show (fin N D T ⟨0, t'.start, 0⟩ (ordersOf os st)).dist + Ar.at2 N D (fin N D T ⟨0, t'.start, 0⟩ (ordersOf os st)).node 0 = _ + Ar.at2 N D (fin N D T ⟨0, t.start, 0⟩ (ordersOf os st)).node 0
    rw [hF.n, hF.d]
  have hr' : Runs N D T os (ts.set k t') tr st := ⟨hw, h.l1, h.l2, by rw [hids]; exact h.tk, h.al, h.tw, by rw [hta']; exact hca, by rw [hta']; exact hL.inTime hit, by rw [hta']; omega⟩
  rw [hr'.run, h.run, hta, hta']
  exact ⟨rfl, htime, hdist, by show t'.fixed + t'.rate * _ = t.fixed + t.rate * _; rw [h4, h5, hdist], rfl, rfl, hL⟩
end
end Rt
