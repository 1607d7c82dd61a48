/- Plain mathematics behind the laws of package plan: whom a plan that may be serves, a plan without one of its routes, one turned about. No program is named here. -/
import Derived.Test.YtjidelfpmlnhkaaGreatPlanMath
set_option linter.unusedVariables false
namespace Pl
open Ld

section
variable {N : Int} {D T : List Int} {os : List O} {ts : List Ld.T} {rs : List Ro} {us : List Int}
theorem run_mem {r : Ro} (h : (run N D T os ts r).e = 0) : ∀ x ∈ r.st, x ∈ os.map O.id := by
  intro x hx
  obtain ⟨hr, _⟩ := Rt.runs_of h
  obtain ⟨k, hk⟩ := List.getElem?_of_mem hx
  obtain ⟨j, o, _, _, h2, h3⟩ := Rt.find_mem O.id os x (Rt.allIn_at hr.al hk)
  exact List.mem_map.2 ⟨o, List.mem_of_getElem? h2, h3⟩
theorem run_truck {r : Ro} (h : (run N D T os ts r).e = 0) : r.tr ∈ ts.map Ld.T.id := by
  obtain ⟨hr, _⟩ := Rt.runs_of h
  obtain ⟨j, t, _, _, h2, h3⟩ := Rt.find_mem Ld.T.id ts r.tr hr.tk
  exact List.mem_map.2 ⟨t, List.mem_of_getElem? h2, h3⟩
theorem May.stops (h : May N D T os ts rs us) : ∀ x ∈ stops rs, x ∈ os.map O.id := by
  intro x hx
  obtain ⟨r, hr, hx⟩ := List.mem_flatMap.1 hx
  exact run_mem (h.tp r hr) x hx
theorem mem_rest {os : List O} {rs : List Ro} {x : Int} : x ∈ restS os rs ↔ x ∈ os.map O.id ∧ x ∉ Pl.stops rs := by
  unfold restS restL
  rw [mem_srt, List.mem_filter, out_iff]
  unfold servedS
  rw [mem_srt]
theorem rest_nodup {os : List O} (h : (os.map O.id).Nodup) (rs : List Ro) : (restS os rs).Nodup := by
  unfold restS restL
  rw [srt_nodup]
  exact h.filter _
/-- whom it serves, and all others, are all -/
theorem May.perm (h : May N D T os ts rs us) : (Pl.stops rs ++ us).Perm (os.map O.id) := by
  have hu := (Rt.ok_of h.w).ou
  refine (List.perm_ext_iff_of_nodup ?_ hu).2 fun x => ?_
  · rw [List.nodup_append]
    refine ⟨h.sn, by rw [h.us]; exact rest_nodup hu rs, fun a ha b hb e => ?_⟩
    subst e
    rw [h.us] at hb
    exact (mem_rest.1 hb).2 ha
  · rw [List.mem_append, h.us, mem_rest]
    constructor
    · rintro (hx | hx)
      · exact h.stops x hx
      · exact hx.1
    · intro hx
      by_cases hs : x ∈ Pl.stops rs
      · exact .inl hs
      · exact .inr ⟨hx, hs⟩
theorem May.all_nodup (h : May N D T os ts rs us) : (Pl.stops rs ++ us).Nodup := h.perm.nodup_iff.2 (Rt.ok_of h.w).ou
theorem May.all_len (h : May N D T os ts rs us) : (Pl.stops rs ++ us).length = os.length := by rw [h.perm.length_eq, List.length_map]
theorem May.has (h : May N D T os ts rs us) {o : O} (ho : o ∈ os) : o.id ∈ Pl.stops rs ++ us := h.perm.mem_iff.2 (List.mem_map.2 ⟨o, ho, rfl⟩)
theorem May.fits (h : May N D T os ts rs us) {x : Int} (hx : x ∈ Pl.stops rs ++ us) : -9223372036854775808 ≤ x ∧ x ≤ 9223372036854775807 := by
  obtain ⟨o, ho, rfl⟩ := List.mem_map.1 (h.perm.mem_iff.1 hx)
  have := (Rt.ok_of h.w).oo o ho
  have h1 := this.id0
  have h2 := this.id1
  omega
theorem May.truck_fits (h : May N D T os ts rs us) {x : Int} (hx : x ∈ trs rs) : -9223372036854775808 ≤ x ∧ x ≤ 9223372036854775807 := by
  obtain ⟨r, hr, rfl⟩ := List.mem_map.1 hx
  obtain ⟨t, ht, e⟩ := List.mem_map.1 (run_truck (h.tp r hr))
  have := (Rt.ok_of h.w).tt t ht
  have h1 := this.id0
  have h2 := this.id1
  rw [← e]
  omega
theorem trs_take {rs : List Ro} {k : Nat} {r : Ro} (h : rs[k]? = some r) : trs (rs.take (k + 1)) = trs (rs.take k) ++ [r.tr] := by
  unfold trs
  rw [List.take_add_one, h, List.map_append]
  rfl
/-- a new one -/
theorem new_of {l : List Int} (h : l.Nodup) {k : Nat} {x : Int} (hx : l[k]? = some x) : x ∉ l.take k := by
  intro hm
  obtain ⟨j, hj⟩ := List.getElem?_of_mem hm
  have hjk : j < k := by
    have h1 := (List.getElem?_eq_some_iff.1 hj).1
    have h2 := List.length_take_le k l
    omega
  rw [List.getElem?_take_of_lt hjk] at hj
  obtain ⟨hk1, hk2⟩ := List.getElem?_eq_some_iff.1 hx
  obtain ⟨hj1, hj2⟩ := List.getElem?_eq_some_iff.1 hj
  have := List.pairwise_iff_getElem.1 h j k hj1 hk1 hjk
  exact this (by rw [hj2, hk2])
theorem May.stop_new (h : May N D T os ts rs us) {k j : Nat} {r : Ro} {x : Int} (hr : rs[k]? = some r) (hx : r.st[j]? = some x) : x ∉ Pl.stops (rs.take k) ++ r.st.take j := by
  have h1 : Pl.stops rs = Pl.stops (rs.take k) ++ (r.st ++ Pl.stops (rs.drop (k + 1))) := by
    have h2 : rs = rs.take k ++ (r :: rs.drop (k + 1)) := by
      obtain ⟨hk, e⟩ := List.getElem?_eq_some_iff.1 hr
      rw [← e, List.getElem_cons_drop, List.take_append_drop]
    conv => lhs; rw [h2]
    unfold Pl.stops
    rw [List.flatMap_append, List.flatMap_cons]
  have hn := h.sn
  rw [h1] at hn
  have h3 : (Pl.stops (rs.take k) ++ (r.st ++ Pl.stops (rs.drop (k + 1))))[(Pl.stops (rs.take k)).length + j]? = some x := by
    rw [List.getElem?_append_right (by omega), Nat.add_sub_cancel_left, List.getElem?_append_left (List.getElem?_eq_some_iff.1 hx).1]
    exact hx
  have h4 := new_of hn h3
  have h5 : (Pl.stops (rs.take k) ++ (r.st ++ Pl.stops (rs.drop (k + 1)))).take ((Pl.stops (rs.take k)).length + j) = Pl.stops (rs.take k) ++ r.st.take j := by
    rw [List.take_length_add_append, List.take_append_of_le_length (Nat.le_of_lt (List.getElem?_eq_some_iff.1 hx).1)]
  rw [h5] at h4
  exact h4
theorem May.un_new (h : May N D T os ts rs us) {j : Nat} {x : Int} (hx : us[j]? = some x) : x ∉ Pl.stops rs ++ us.take j := by
  have h3 : (Pl.stops rs ++ us)[(Pl.stops rs).length + j]? = some x := by
    rw [List.getElem?_append_right (by omega), Nat.add_sub_cancel_left]
    exact hx
  have h4 := new_of h.all_nodup h3
  rw [List.take_length_add_append] at h4
  exact h4
theorem mem_stops_at {rs : List Ro} {k j : Nat} {r : Ro} {x : Int} (hr : rs[k]? = some r) (hx : r.st[j]? = some x) : x ∈ Pl.stops rs := List.mem_flatMap.2 ⟨r, List.mem_of_getElem? hr, List.mem_of_getElem? hx⟩

/-- a plan turned about -/
theorem stops_perm {a b : List Ro} (h : a.Perm b) : (Pl.stops a).Perm (Pl.stops b) := h.flatMap_right _
theorem rest_perm {a b : List Ro} (h : a.Perm b) (os : List O) : restS os a = restS os b := by
  unfold restS restL servedS
  rw [srt_congr (stops_perm h)]
theorem May.turn (h : May N D T os ts rs us) {b : List Ro} (hp : rs.Perm b) : May N D T os ts b us :=
  ⟨h.w, by rw [← hp.length_eq]; exact h.l6, fun r hr => h.tp r (hp.mem_iff.2 hr), (hp.map _).nodup_iff.1 h.tn, (stops_perm hp).nodup_iff.1 h.sn, by rw [← rest_perm hp]; exact h.us⟩
theorem sum_perm {a b : List Int} (h : a.Perm b) : a.sum = b.sum := by
  induction h with
  | nil => rfl
  | cons x _ ih => simp only [List.sum_cons, ih]
  | swap x y l => simp only [List.sum_cons]; omega
  | trans _ _ h1 h2 => exact h1.trans h2
theorem costs_perm {f : Ro → Rt.R} {a b : List Ro} (h : a.Perm b) : (costs f a).sum = (costs f b).sum := sum_perm (h.map _)

theorem sum_bound {f : List Ro} (h6 : f.length ≤ 6) (h : ∀ r ∈ f, (run N D T os ts r).e = 0) : 0 ≤ (costs (run N D T os ts) f).sum ∧ (costs (run N D T os ts) f).sum ≤ 200000000000 := by
  have h2 : 0 ≤ (costs (run N D T os ts) f).sum ∧ (costs (run N D T os ts) f).sum ≤ 20000000000 * (f.length : Int) := by
    clear h6
    induction f with
    | nil => exact ⟨Int.le_refl _, by simp [costs]⟩
    | cons a l ih =>
      have h1 := cost_fits (h a (by simp))
      have h2 := ih fun r hr => h r (by simp [hr])
      show 0 ≤ ((run N D T os ts a).cost :: costs (run N D T os ts) l).sum ∧ _ ≤ _
      have h3 : (costs (run N D T os ts) (a :: l)).sum = (run N D T os ts a).cost + (costs (run N D T os ts) l).sum := by simp [costs]
      rw [h3]
      simp only [List.sum_cons, List.length_cons]
      omega
  omega
/-- a plan without one of its routes -/
theorem erase_perm {rs : List Ro} {k : Nat} {r : Ro} (h : rs[k]? = some r) : rs.Perm (r :: (rs.take k ++ rs.drop (k + 1))) := by
  have h2 : rs = rs.take k ++ (r :: rs.drop (k + 1)) := by
    obtain ⟨hk, e⟩ := List.getElem?_eq_some_iff.1 h
    rw [← e, List.getElem_cons_drop, List.take_append_drop]
  conv => lhs; rw [h2]
  exact List.perm_middle
theorem May.without (h : May N D T os ts rs us) {k : Nat} {r : Ro} (hr : rs[k]? = some r) : May N D T os ts (rs.take k ++ rs.drop (k + 1)) (restS os (rs.take k ++ rs.drop (k + 1))) := by
  have hp := erase_perm hr
  have ht : (r.tr :: trs (rs.take k ++ rs.drop (k + 1))).Nodup := (hp.map Ro.tr).nodup_iff.1 h.tn
  have hs : (r.st ++ Pl.stops (rs.take k ++ rs.drop (k + 1))).Nodup := (stops_perm hp).nodup_iff.1 h.sn
  refine ⟨h.w, ?_, fun x hx => h.tp x (hp.mem_iff.2 (List.mem_cons_of_mem _ hx)), (List.nodup_cons.1 ht).2, (List.nodup_append.1 hs).2.1, rfl⟩
  have := hp.length_eq
  have := h.l6
  simp only [List.length_cons] at *
  omega
theorem without_cost {f : Ro → Rt.R} {rs : List Ro} {k : Nat} {r : Ro} (hr : rs[k]? = some r) : (costs f rs).sum = (f r).cost + (costs f (rs.take k ++ rs.drop (k + 1))).sum := costs_perm (erase_perm hr)
theorem May.without_len (h : May N D T os ts rs us) {k : Nat} {r : Ro} (hr : rs[k]? = some r) : (restS os (rs.take k ++ rs.drop (k + 1))).length = us.length + r.st.length := by
  have h1 := h.all_len
  have h2 := (h.without hr).all_len
  have h3 := (stops_perm (erase_perm hr)).length_eq
  have h4 : (Pl.stops (r :: (rs.take k ++ rs.drop (k + 1)))).length = r.st.length + (Pl.stops (rs.take k ++ rs.drop (k + 1))).length := by
    show (r.st ++ _).length = _
    rw [List.length_append]
    rfl
  rw [List.length_append] at h1 h2
  omega
theorem run_visits {r : Ro} (h : (run N D T os ts r).e = 0) : (run N D T os ts r).vs.length = r.st.length := by
  obtain ⟨hr, e⟩ := Rt.runs_of h
  show (Rt.runS N D T os ts r.tr r.st).vs.length = _
  rw [e, Rt.trip_len, Rt.ordersOf_len]
end
end Pl
