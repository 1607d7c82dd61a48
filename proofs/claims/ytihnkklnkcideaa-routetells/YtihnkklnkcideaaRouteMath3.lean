/- Plain mathematics behind the laws of package route: a trip, visit by visit, with what it carries so far. No program is named here. -/
import Derived.Test.YtihnkklnkcideaaRouteMath2
set_option linter.unusedVariables false
namespace Rt
open Ld

/-- behind k stops -/
structure St (N : Int) (D T : List Int) (st : Int) (l : List O) (k : Nat) (nd tim dis we vo : Int) : Prop where
  f : fin N D T ⟨0, st, 0⟩ (l.take k) = ⟨nd, tim, dis⟩
  w : we = plus ((l.take k).map O.weight)
  v : vo = plus ((l.take k).map O.volume)
theorem St.zero (N : Int) (D T : List Int) (st : Int) (l : List O) : St N D T st l 0 0 st 0 0 0 := ⟨rfl, rfl, rfl⟩
theorem plus_one (x : Int) : plus [x] = x := by simp [plus]
/-- what the next stop asks of plain numbers -/
structure Nx (N : Int) (D T : List Int) (st : Int) (l : List O) (k : Nat) (nd tim dis we vo a0 a2 a3 a4 a5 a6 a7 dd tt z y e : Int) : Prop where
  hd : Ar.at2 N D nd a2 = dd
  ht : Ar.at2 N T nd a2 = tt
  hz : z = tim + tt
  hy : max z a5 = y
  he : e = y + a7
  hh : y ≤ a6
  hv : (visits N D T ⟨0, st, 0⟩ l)[k]? = some ⟨a0, z, y, e⟩
  hs : St N D T st l (k + 1) a2 e (dis + dd) (we + a3) (vo + a4)
section
variable {N : Int} {D T : List Int} {st : Int} {l : List O} {k : Nat} {nd tim dis we vo : Int}
theorem St.next (h : St N D T st l k nd tim dis we vo) {a0 a1 a2 a3 a4 a5 a6 a7 : Int} (ho : l[k]? = some ⟨a0, a1, a2, a3, a4, a5, a6, a7⟩) (hi : inTime N D T ⟨0, st, 0⟩ l = true) :
    ∃ dd tt z y e, Nx N D T st l k nd tim dis we vo a0 a2 a3 a4 a5 a6 a7 dd tt z y e := by
  obtain ⟨n1, n2, n3⟩ := next_of h.f ho rfl rfl rfl
  have hv := visits_at (N := N) (D := D) (T := T) l k _ ⟨0, st, 0⟩ ho
  have ht := inTime_at hi ho
  rw [h.f] at hv ht
  refine ⟨_, _, _, _, _, rfl, rfl, rfl, rfl, rfl, ht, hv, n1, ?_, ?_⟩
  · rw [h.w, List.take_add_one, ho, List.map_append, plus_app]
    show _ = plus _ + plus [a3]
    rw [plus_one]
  · rw [h.v, List.take_add_one, ho, List.map_append, plus_app]
    show _ = plus _ + plus [a4]
    rw [plus_one]
theorem St.bd {n : Nat} (h : St N D T st l k nd tim dis we vo) (ho : Ar.Ok N D T n) (hl : ∀ o ∈ l, OOk o N) (h12 : l.length ≤ 12) (h0 : 0 ≤ st) (h1 : st ≤ 1000000) :
    Ar.hasB N nd = true ∧ (0 ≤ tim ∧ tim ≤ 20000000) ∧ (0 ≤ dis ∧ dis ≤ 20000000) ∧ (0 ≤ we ∧ we ≤ 20000000) ∧ (0 ≤ vo ∧ vo ≤ 20000000) := by
  obtain ⟨a, b, c, d, e⟩ := Bd.at_ ho hl h12 h0 h1 h.f
  have hf := (fine_of (n := N) hl (by omega)).take k
  have g1 := plus_ge hf.w
  have g2 := plus_ge hf.v
  rw [List.length_map, List.length_take] at g1 g2
  rw [← h.w] at g1
  rw [← h.v] at g2
  exact ⟨a, ⟨b, c⟩, ⟨d, e⟩, ⟨g1.1, by omega⟩, g2.1, by omega⟩
end
section
variable {N : Int} {D T : List Int} {os : List O} {ts : List Ld.T} {tr : Int} {st : List Int}
/-- the one order of a stop -/
theorem Runs.order (h : Runs N D T os ts tr st) {i : Nat} {id : Int} (hi : st[i]? = some id) : ∃ (p : Nat) (o : O), os[p]? = some o ∧ (ordersOf os st)[i]? = some o ∧ o.id = id ∧ ∀ (j : Nat) (u : O), os[j]? = some u → u.id = id → j = p := by
  obtain ⟨p, o, h1, h2, h3, h4⟩ := find_mem O.id os id (allIn_at h.al hi)
  refine ⟨p, o, h3, ?_, h4, fun j u hj hu => ?_⟩
  · unfold ordersOf
    rw [List.getElem?_map, hi]
    show some (ordAt os id) = some o
    rw [ordAt_eq h1 h3]
  · have hn := (ok_of h.w).ou
    obtain ⟨l1, e1⟩ := List.getElem?_eq_some_iff.1 hj
    obtain ⟨l2, e2⟩ := List.getElem?_eq_some_iff.1 h3
    have hp := List.pairwise_iff_getElem.1 hn
    rcases Nat.lt_trichotomy j p with g | g | g
    · have := hp j p (by rw [List.length_map]; exact l1) (by rw [List.length_map]; exact l2) g
      rw [List.getElem_map, List.getElem_map, e1, e2] at this
      exact absurd (hu.trans h4.symm) this
    · exact g
    · have := hp p j (by rw [List.length_map]; exact l2) (by rw [List.length_map]; exact l1) g
      rw [List.getElem_map, List.getElem_map, e1, e2] at this
      exact absurd (h4.trans hu.symm) this
/-- what all stops weigh, and where the truck is behind them -/
theorem Runs.last {t0 t1 t2 t3 t4 t5 t6 nd tim dis we vo : Int} (h : Runs N D T os ts tr st) (ht : truckAt ts tr = ⟨t0, t1, t2, t3, t4, t5, t6⟩) (hs : St N D T t3 (ordersOf os st) st.length nd tim dis we vo) :
    we ≤ t1 ∧ vo ≤ t2 ∧ tim + Ar.at2 N T nd 0 ≤ t4 ∧ (runS N D T os ts tr st).back = tim + Ar.at2 N T nd 0 ∧ (runS N D T os ts tr st).dist = dis + Ar.at2 N D nd 0 ∧ (runS N D T os ts tr st).cost = t5 + t6 * (dis + Ar.at2 N D nd 0) := by
  have hl : (ordersOf os st).take st.length = ordersOf os st := List.take_of_length_le (by rw [ordersOf_len]; exact Nat.le_refl _)
  have hf := hs.f; have hw := hs.w; have hv := hs.v
  rw [hl] at hf hw hv
  have hfine := fine_of (n := N) h.oo (by rw [ordersOf_len]; have := h.l2; omega)
  have hca := h.ca
  have hhm := h.hm
  rw [h.run]
  rw [ht] at hca hhm ⊢
  have hsum := hfine.sum
  have hn : ¬ (t1 < plus ((ordersOf os st).map O.weight) ∨ t2 < plus ((ordersOf os st).map O.volume)) := fun e => by
    rw [car_more hsum e] at hca
    cases hca
  have hh : home N D T (fin N D T ⟨0, t3, 0⟩ (ordersOf os st)) = ⟨0, tim + Ar.at2 N T nd 0, dis + Ar.at2 N D nd 0⟩ := by rw [hf]; rfl
  have hhm2 : (home N D T (fin N D T ⟨0, t3, 0⟩ (ordersOf os st))).time ≤ t4 := hhm
  rw [hh] at hhm2
  refine ⟨by omega, by omega, hhm2, ?_, ?_, ?_⟩
  · show (home N D T (fin N D T ⟨0, t3, 0⟩ (ordersOf os st))).time = _
    rw [hh]
  · show (home N D T (fin N D T ⟨0, t3, 0⟩ (ordersOf os st))).dist = _
    rw [hh]
  · show t5 + t6 * (home N D T (fin N D T ⟨0, t3, 0⟩ (ordersOf os st))).dist = _
    rw [hh]
end
end Rt
