/- Plain mathematics behind package plan: lists that rise, whom a plan serves, what it costs, which is better. No program is named here. -/
import Derived.Test.YtjidelfpmlnhkaaGreatRouteMath2
set_option linter.unusedVariables false
namespace Pl
open Ld

/-- a list, rising -/
def ins (x : Int) : List Int → List Int
  | [] => [x]
  | y :: r => if y ≤ x then y :: ins x r else x :: y :: r
def srt (l : List Int) : List Int := l.foldl (fun a x => ins x a) []
theorem ins_perm (x : Int) (l : List Int) : (ins x l).Perm (x :: l) := by
  induction l with
  | nil => exact List.Perm.refl _
  | cons y r ih =>
    unfold ins
    split
    · exact (List.Perm.cons y ih).trans (List.Perm.swap x y r)
    · exact List.Perm.refl _
theorem ins_sorted (x : Int) (l : List Int) (h : l.Pairwise (· ≤ ·)) : (ins x l).Pairwise (· ≤ ·) := by
  induction l with
  | nil => simp [ins]
  | cons y r ih =>
    rw [List.pairwise_cons] at h
    unfold ins
    split
    · rename_i hy
      rw [List.pairwise_cons]
      refine ⟨fun z hz => ?_, ih h.2⟩
      rcases List.mem_cons.1 ((ins_perm x r).mem_iff.1 hz) with rfl | hz
      · exact hy
      · exact h.1 z hz
    · rename_i hy
      rw [List.pairwise_cons, List.pairwise_cons]
      refine ⟨fun z hz => ?_, h.1, h.2⟩
      rcases List.mem_cons.1 hz with rfl | hz
      · omega
      · have := h.1 z hz
        omega
theorem srt_nil : srt [] = [] := rfl
theorem srt_snoc (l : List Int) (x : Int) : srt (l ++ [x]) = ins x (srt l) := by unfold srt; rw [List.foldl_append]; rfl
theorem srt_perm (l : List Int) : (srt l).Perm l := by
  induction l using Ar.snoc_ind with
  | h0 => exact List.Perm.refl _
  | h1 l x ih =>
    rw [srt_snoc]
    exact (ins_perm x _).trans ((List.Perm.cons x ih).trans (List.perm_append_comm (l₁ := [x])))
theorem srt_sorted (l : List Int) : (srt l).Pairwise (· ≤ ·) := by
  induction l using Ar.snoc_ind with
  | h0 => exact List.Pairwise.nil
  | h1 l x ih => rw [srt_snoc]; exact ins_sorted x _ ih
theorem srt_of {l m : List Int} (h : m.Perm l) (hs : m.Pairwise (· ≤ ·)) : m = srt l :=
  List.Perm.eq_of_pairwise (fun a b _ _ h1 h2 => Int.le_antisymm h1 h2) hs (srt_sorted l) (h.trans (srt_perm l).symm)
theorem srt_congr {l m : List Int} (h : l.Perm m) : srt l = srt m := srt_of ((srt_perm l).trans h) (srt_sorted l)
theorem srt_idem (l : List Int) : srt (srt l) = srt l := srt_congr (srt_perm l)
theorem merge_srt (l : List Int) : (l.mergeSort fun x y => decide (x ≤ y)) = srt l := by
  refine srt_of (List.mergeSort_perm l _) ?_
  have := List.pairwise_mergeSort (le := fun x y : Int => decide (x ≤ y)) (fun a b c h1 h2 => by
    have := of_decide_eq_true h1; have := of_decide_eq_true h2
    exact decide_eq_true (by omega)) (fun a b => by
    rw [Bool.or_eq_true, decide_eq_true_iff, decide_eq_true_iff]; omega) l
  exact this.imp fun h => of_decide_eq_true h
theorem mem_srt {l : List Int} {x : Int} : x ∈ srt l ↔ x ∈ l := (srt_perm l).mem_iff
theorem srt_len (l : List Int) : (srt l).length = l.length := (srt_perm l).length_eq
theorem srt_nodup {l : List Int} : (srt l).Nodup ↔ l.Nodup := (srt_perm l).nodup_iff

/-- two of a rising list's the same -/
def dupB : List Int → Bool
  | [] => false
  | x :: r => (match r with | [] => false | y :: _ => x == y) || dupB r
theorem dup_one (x : Int) : dupB [x] = false := rfl
theorem dup_two (x y : Int) (r : List Int) : dupB (x :: y :: r) = ((x == y) || dupB (y :: r)) := rfl
theorem dup_nodup {l : List Int} (hs : l.Pairwise (· ≤ ·)) : dupB l = false ↔ l.Nodup := by
  induction l with
  | nil => simp [dupB]
  | cons x r ih =>
    cases r with
    | nil => simp [dupB]
    | cons y r =>
      rw [List.pairwise_cons] at hs
      rw [dup_two, Bool.or_eq_false_iff, ih hs.2, List.nodup_cons (a := x), beq_eq_false_iff_ne]
      constructor
      · rintro ⟨h1, h2⟩
        refine ⟨fun hm => ?_, h2⟩
        have h3 := hs.1 y (by simp)
        rcases List.mem_cons.1 hm with h | h
        · exact h1 h
        · have h4 := (List.pairwise_cons.1 hs.2).1 x h
          exact h1 (by omega)
      · rintro ⟨h1, h2⟩
        exact ⟨fun e => h1 (by rw [e]; simp), h2⟩
theorem dup_srt {l : List Int} : dupB (srt l) = false ↔ l.Nodup := (dup_nodup (srt_sorted l)).trans srt_nodup
theorem dup_tw (l : List Int) : dupB (srt l) = twB l := by
  cases h : twB l
  · exact dup_srt.2 (nodup_of_tw h)
  · cases h2 : dupB (srt l)
    · rw [tw_nodup (dup_srt.1 h2)] at h
      exact h
    · rfl
theorem dup_at {l : List Int} {k : Nat} {x : Int} (h1 : l[k]? = some x) (h2 : l[k + 1]? = some x) : dupB l = true := by
  induction l generalizing k with
  | nil => simp at h1
  | cons a r ih =>
    cases r with
    | nil => simp at h2
    | cons b r =>
      rw [dup_two]
      cases k with
      | zero => simp at h1 h2; subst h1 h2; simp
      | succ k => rw [Bool.or_eq_true]; exact .inr (ih (by simpa using h1) (by simpa using h2))
theorem dup_none {l : List Int} (h : ∀ (k : Nat) (x y : Int), l[k]? = some x → l[k + 1]? = some y → x ≠ y) : dupB l = false := by
  induction l with
  | nil => rfl
  | cons a r ih =>
    cases r with
    | nil => rfl
    | cons b r =>
      rw [dup_two, Bool.or_eq_false_iff]
      exact ⟨beq_eq_false_iff_ne.2 (h 0 a b rfl rfl), ih fun k x y h1 h2 => h (k + 1) x y (by simpa using h1) (by simpa using h2)⟩

/-- a route, plain -/
structure Ro where
  tr : Int
  st : List Int
def stops (rs : List Ro) : List Int := rs.flatMap Ro.st
def trs (rs : List Ro) : List Int := rs.map Ro.tr
def servedS (rs : List Ro) : List Int := srt (stops rs)
def outB (l : List Int) (i : Int) : Bool := !(l.contains i)
def restL (os : List O) (rs : List Ro) : List Int := (os.map O.id).filter (outB (servedS rs))
def restS (os : List O) (rs : List Ro) : List Int := srt (restL os rs)
theorem stops_snoc (rs : List Ro) (r : Ro) : stops (rs ++ [r]) = stops rs ++ r.st := by unfold stops; simp
theorem stops_take {rs : List Ro} {k : Nat} {r : Ro} (h : rs[k]? = some r) : stops (rs.take (k + 1)) = stops (rs.take k) ++ r.st := by
  rw [List.take_add_one, h]
  exact stops_snoc _ _
theorem stops_le (rs : List Ro) (k : Nat) : (stops (rs.take k)).length ≤ (stops rs).length := by
  have h : stops rs = stops (rs.take k) ++ stops (rs.drop k) := by unfold stops; rw [← List.flatMap_append, List.take_append_drop]
  rw [h, List.length_append]
  omega
theorem out_iff (l : List Int) (i : Int) : outB l i = true ↔ i ∉ l := by unfold outB; simp
theorem restL_take_in {os : List O} {rs : List Ro} {k : Nat} {o : O} (h : os[k]? = some o) (ho : outB (servedS rs) o.id = true) : restL (os.take (k + 1)) rs = restL (os.take k) rs ++ [o.id] := by
  unfold restL
  rw [List.take_add_one, h, List.map_append, List.filter_append]
  simp [ho]
theorem restL_take_out {os : List O} {rs : List Ro} {k : Nat} {o : O} (h : os[k]? = some o) (ho : outB (servedS rs) o.id = false) : restL (os.take (k + 1)) rs = restL (os.take k) rs := by
  unfold restL
  rw [List.take_add_one, h, List.map_append, List.filter_append]
  simp [ho]
theorem restL_len (os : List O) (rs : List Ro) : (restL os rs).length ≤ os.length := by
  unfold restL
  refine Nat.le_trans (List.length_filter_le _ _) ?_
  rw [List.length_map]
  exact Nat.le_refl _
theorem restS_len (os : List O) (rs : List Ro) : (restS os rs).length ≤ os.length := by unfold restS; rw [srt_len]; exact restL_len os rs

/-- route by route, the first error -/
def tripE (f : Ro → Rt.R) : List Ro → Int
  | [] => 0
  | r :: l => if (f r).e = 0 then tripE f l else (f r).e
def costs (f : Ro → Rt.R) (rs : List Ro) : List Int := rs.map fun r => (f r).cost
theorem trip_zero {f : Ro → Rt.R} {rs : List Ro} : tripE f rs = 0 ↔ ∀ r ∈ rs, (f r).e = 0 := by
  induction rs with
  | nil => simp [tripE]
  | cons r l ih =>
    unfold tripE
    split
    · rename_i h
      rw [ih]
      simp [h]
    · rename_i h
      constructor
      · intro e; exact absurd e h
      · intro e; exact absurd (e r (by simp)) h
theorem trip_first {f : Ro → Rt.R} {rs : List Ro} {k : Nat} {r : Ro} (hr : rs[k]? = some r) (h0 : ∀ (j : Nat) (s : Ro), j < k → rs[j]? = some s → (f s).e = 0) (h1 : ¬ (f r).e = 0) : tripE f rs = (f r).e := by
  induction rs generalizing k with
  | nil => simp at hr
  | cons a l ih =>
    cases k with
    | zero =>
      simp at hr
      subst hr
      unfold tripE
      rw [if_neg h1]
    | succ k =>
      unfold tripE
      rw [if_pos (h0 0 a (by omega) rfl)]
      exact ih (by simpa using hr) (fun j s hj hs => h0 (j + 1) s (by omega) (by simpa using hs))
theorem trip_all {f : Ro → Rt.R} {rs : List Ro} (h : ∀ (j : Nat) (s : Ro), rs[j]? = some s → (f s).e = 0) : tripE f rs = 0 :=
  trip_zero.2 fun r hr => by obtain ⟨j, hj⟩ := List.getElem?_of_mem hr; exact h j r hj

section
variable (N : Int) (D T : List Int) (os : List O) (ts : List Ld.T)
def run (r : Ro) : Rt.R := Rt.runS N D T os ts r.tr r.st
def checkS (rs : List Ro) (us : List Int) : Int × Int :=
  if Rt.worldE N D T os ts = 0 then
    (if 6 < rs.length then (0, 4)
    else if tripE (run N D T os ts) rs = 0 then
      (if dupB (srt (trs rs)) = true ∨ dupB (servedS rs) = true then (0, 6)
      else if us = restS os rs then ((costs (run N D T os ts) rs).sum, 0)
      else (0, 2))
    else (0, tripE (run N D T os ts) rs))
  else (0, Rt.worldE N D T os ts)
end
section
variable {N : Int} {D T : List Int} {os : List O} {ts : List Ld.T} {rs : List Ro} {us : List Int}
theorem ck_world {e : Int} (h : Rt.worldE N D T os ts = e) (he : ¬ e = 0) : checkS N D T os ts rs us = (0, e) := by unfold checkS; rw [h, if_neg he]
theorem ck_full (h : Rt.worldE N D T os ts = 0) (h2 : 6 < rs.length) : checkS N D T os ts rs us = (0, 4) := by unfold checkS; rw [if_pos h, if_pos h2]
theorem ck_trip {e : Int} (h : Rt.worldE N D T os ts = 0) (h2 : ¬ 6 < rs.length) (h3 : tripE (run N D T os ts) rs = e) (he : ¬ e = 0) : checkS N D T os ts rs us = (0, e) := by unfold checkS; rw [if_pos h, if_neg h2, h3, if_neg he]
theorem ck_twice (h : Rt.worldE N D T os ts = 0) (h2 : ¬ 6 < rs.length) (h3 : tripE (run N D T os ts) rs = 0) (h4 : dupB (srt (trs rs)) = true ∨ dupB (servedS rs) = true) : checkS N D T os ts rs us = (0, 6) := by unfold checkS; rw [if_pos h, if_neg h2, if_pos h3, if_pos h4]
theorem ck_form (h : Rt.worldE N D T os ts = 0) (h2 : ¬ 6 < rs.length) (h3 : tripE (run N D T os ts) rs = 0) (h4 : dupB (srt (trs rs)) = false) (h5 : dupB (servedS rs) = false) (h6 : ¬ us = restS os rs) : checkS N D T os ts rs us = (0, 2) := by
  unfold checkS; rw [if_pos h, if_neg h2, if_pos h3, if_neg (by rw [h4, h5]; simp), if_neg h6]
theorem ck_ok (h : Rt.worldE N D T os ts = 0) (h2 : ¬ 6 < rs.length) (h3 : tripE (run N D T os ts) rs = 0) (h4 : dupB (srt (trs rs)) = false) (h5 : dupB (servedS rs) = false) (h6 : us = restS os rs) : checkS N D T os ts rs us = ((costs (run N D T os ts) rs).sum, 0) := by
  unfold checkS; rw [if_pos h, if_neg h2, if_pos h3, if_neg (by rw [h4, h5]; simp), if_pos h6]

/-- what a plan that may be holds -/
structure May (N : Int) (D T : List Int) (os : List O) (ts : List Ld.T) (rs : List Ro) (us : List Int) : Prop where
  w : Rt.worldE N D T os ts = 0
  l6 : rs.length ≤ 6
  tp : ∀ r ∈ rs, (run N D T os ts r).e = 0
  tn : (trs rs).Nodup
  sn : (stops rs).Nodup
  us : us = restS os rs
theorem may_of (h : (checkS N D T os ts rs us).2 = 0) : May N D T os ts rs us ∧ checkS N D T os ts rs us = ((costs (run N D T os ts) rs).sum, 0) := by
  by_cases h1 : Rt.worldE N D T os ts = 0
  · by_cases h2 : 6 < rs.length
    · rw [ck_full h1 h2] at h; cases h
    · by_cases h3 : tripE (run N D T os ts) rs = 0
      · cases h4 : dupB (srt (trs rs))
        · cases h5 : dupB (servedS rs)
          · by_cases h6 : us = restS os rs
            · exact ⟨⟨h1, by omega, trip_zero.1 h3, dup_srt.1 h4, dup_srt.1 h5, h6⟩, ck_ok h1 h2 h3 h4 h5 h6⟩
            · rw [ck_form h1 h2 h3 h4 h5 h6] at h; cases h
          · rw [ck_twice h1 h2 h3 (.inr h5)] at h; cases h
        · rw [ck_twice h1 h2 h3 (.inl h4)] at h; cases h
      · rw [ck_trip h1 h2 rfl h3] at h; exact absurd h h3
  · rw [ck_world rfl h1] at h; exact absurd h h1
theorem May.check (h : May N D T os ts rs us) : checkS N D T os ts rs us = ((costs (run N D T os ts) rs).sum, 0) :=
  ck_ok h.w (by have := h.l6; omega) (trip_zero.2 h.tp) (dup_srt.2 h.tn) (dup_srt.2 h.sn) h.us
theorem check_zero (h : ¬ (checkS N D T os ts rs us).2 = 0) : (checkS N D T os ts rs us).1 = 0 := by
  unfold checkS at h ⊢
  split
  · rename_i h1
    rw [if_pos h1] at h
    split
    · rfl
    · rename_i h2
      rw [if_neg h2] at h
      split
      · rename_i h3
        rw [if_pos h3] at h
        split
        · rfl
        · rename_i h4
          rw [if_neg h4] at h
          split
          · rename_i h5
            rw [if_pos h5] at h
            exact absurd rfl h
          · rfl
      · rfl
  · rfl
theorem check_e : (checkS N D T os ts rs us).2 = 0 ∨ (checkS N D T os ts rs us).1 = 0 := by
  by_cases h : (checkS N D T os ts rs us).2 = 0
  · exact .inl h
  · exact .inr (check_zero h)

/-- how much a trip costs -/
theorem cost_fits {r : Ro} (h : (run N D T os ts r).e = 0) : 0 ≤ (run N D T os ts r).cost ∧ (run N D T os ts r).cost ≤ 20000000000 := by
  obtain ⟨hr, e⟩ := Rt.runs_of h
  have hw := hr.w
  have hok := Rt.ok_of hw
  obtain ⟨k, t, hk, _, ht, _⟩ := Rt.find_mem Ld.T.id ts r.tr hr.tk
  have hta := Rt.truckAt_eq hk ht
  have htok := hok.tt t (List.mem_of_getElem? ht)
  have hb := Rt.Bd.fin (N := N) (D := D) (T := T) hok.ar (l := Rt.ordersOf os r.st) hr.oo (st := (Rt.truckAt ts r.tr).start) (by rw [hta]; exact htok.st0) (by rw [hta]; exact Int.le_trans htok.st1 htok.fi1)
  have hl : (Rt.ordersOf os r.st).length ≤ 12 := by rw [Rt.ordersOf_len]; exact hr.l2
  have h1 := hok.ar.at_d hb.nd hok.ar.has0
  have hc : (run N D T os ts r).cost = (Rt.truckAt ts r.tr).fixed + (Rt.truckAt ts r.tr).rate * ((Rt.fin N D T ⟨0, (Rt.truckAt ts r.tr).start, 0⟩ (Rt.ordersOf os r.st)).dist + Ar.at2 N D (Rt.fin N D T ⟨0, (Rt.truckAt ts r.tr).start, 0⟩ (Rt.ordersOf os r.st)).node 0) := by
    show (Rt.runS N D T os ts r.tr r.st).cost = _
    rw [e]; rfl
  have h2 := hb.d0; have h3 := hb.d1
  have hd0 : 0 ≤ (Rt.fin N D T ⟨0, (Rt.truckAt ts r.tr).start, 0⟩ (Rt.ordersOf os r.st)).dist + Ar.at2 N D (Rt.fin N D T ⟨0, (Rt.truckAt ts r.tr).start, 0⟩ (Rt.ordersOf os r.st)).node 0 := by omega
  have hd1 : (Rt.fin N D T ⟨0, (Rt.truckAt ts r.tr).start, 0⟩ (Rt.ordersOf os r.st)).dist + Ar.at2 N D (Rt.fin N D T ⟨0, (Rt.truckAt ts r.tr).start, 0⟩ (Rt.ordersOf os r.st)).node 0 ≤ 13000000 := by omega
  generalize (Rt.fin N D T ⟨0, (Rt.truckAt ts r.tr).start, 0⟩ (Rt.ordersOf os r.st)).dist + Ar.at2 N D (Rt.fin N D T ⟨0, (Rt.truckAt ts r.tr).start, 0⟩ (Rt.ordersOf os r.st)).node 0 = d at *
  rw [hc, hta]
  have f0 := htok.fx0; have f1 := htok.fx1; have r0 := htok.ra0; have r1 := htok.ra1
  have m0 : 0 ≤ t.rate * d := Int.mul_nonneg r0 hd0
  have m1 : t.rate * d ≤ 1000 * 13000000 := Int.mul_le_mul r1 hd1 hd0 (by omega)
  omega
theorem sum_fits {l : List Int} (h : ∀ x ∈ l, 0 ≤ x ∧ x ≤ 20000000000) (n : Int) (h0 : 0 ≤ n) (h1 : n + 20000000000 * (l.length : Int) ≤ 4000000000000000000) : Grp.sumFrom n l = (n + l.sum, 0) := by
  induction l generalizing n with
  | nil => simp [Grp.sumFrom]
  | cons a r ih =>
    have ha := h a (by simp)
    have hst := Grp.sumFrom_step n (a :: r) 0 a rfl
    simp only [List.length_cons] at h1
    have hm : Grp.mayB (n + a) = true := (Grp.mayB_iff _).2 (by omega)
    rw [hm] at hst
    simp only [List.drop_zero, List.drop_succ_cons, Nat.zero_add] at hst
    rw [hst]
    show Grp.sumFrom (n + a) r = _
    rw [ih (fun x hx => h x (by simp [hx])) (n + a) (by omega) (by omega)]
    simp only [List.sum_cons]
    rw [Int.add_assoc]
theorem costs_sum (h6 : rs.length ≤ 6) (h : ∀ r ∈ rs, (run N D T os ts r).e = 0) : Grp.sumS (costs (run N D T os ts) rs) = ((costs (run N D T os ts) rs).sum, 0) := by
  have hx : ∀ x ∈ costs (run N D T os ts) rs, 0 ≤ x ∧ x ≤ 20000000000 := by
    intro x hx
    obtain ⟨r, hr, rfl⟩ := List.mem_map.1 hx
    exact cost_fits (h r hr)
  have hl : (costs (run N D T os ts) rs).length = rs.length := List.length_map _
  have ha : (costs (run N D T os ts) rs).all Grp.mayB = true := List.all_eq_true.2 fun x h1 => by
    have := hx x h1
    exact (Grp.mayB_iff x).2 (by omega)
  have := sum_fits hx 0 (Int.le_refl _) (by rw [hl]; omega)
  unfold Grp.sumS
  rw [ha]
  simp only [if_true]
  rw [this, Int.zero_add]
end

/-- which plan is better -/
def lessB (a b : Int × Int) (m n : Nat) : Bool := decide (a.2 = 0 ∧ b.2 = 0 ∧ (m < n ∨ m = n ∧ a.1 < b.1))
theorem less_no1 {a b : Int × Int} {m n : Nat} (h : ¬ a.2 = 0) : lessB a b m n = false := decide_eq_false fun e => h e.1
theorem less_no2 {a b : Int × Int} {m n : Nat} (h : ¬ b.2 = 0) : lessB a b m n = false := decide_eq_false fun e => h e.2.1
theorem less_self (a : Int × Int) (m : Nat) : lessB a a m m = false := decide_eq_false fun e => by omega
theorem less_asym {a b : Int × Int} {m n : Nat} (h : lessB a b m n = true) : lessB b a n m = false := by
  have := of_decide_eq_true h
  exact decide_eq_false fun e => by omega
theorem less_trans {a b c : Int × Int} {m n k : Nat} (h : lessB a b m n = true) (h2 : lessB b c n k = true) : lessB a c m k = true := by
  have := of_decide_eq_true h
  have := of_decide_eq_true h2
  exact decide_eq_true (by omega)
end Pl
