/- Plain mathematics behind package savings: row by row the cheapest truck that is free. No program is named here. -/
import Derived.Test.YtjidelfpmlnhkaaGreatSavMath
set_option linter.unusedVariables false
namespace Sv
open Ld

inductive BF (f : Int → List Int → Rt.R) (ids : List Int) : List (List Int) → List Pl.Ro → Prop
  | nil : BF f ids [] []
  | skip {L l : List (List Int)} {st : List Int} {p : List Pl.Ro} (hL : L = l ++ [st]) (h : BF f ids l p) (hn : ∀ u ∈ ids, u ∉ Pl.trs p → ¬ (f u st).e = 0) : BF f ids L p
  | take {L l : List (List Int)} {st : List Int} {P p : List Pl.Ro} {u : Int} (hL : L = l ++ [st]) (hP : P = p ++ [⟨u, st⟩]) (h : BF f ids l p) (hu : u ∈ ids) (hf : u ∉ Pl.trs p) (he : (f u st).e = 0)
      (hm : ∀ v ∈ ids, v ∉ Pl.trs p → (f v st).e = 0 → (f u st).cost < (f v st).cost ∨ (f u st).cost = (f v st).cost ∧ u ≤ v) : BF f ids L P
section
variable {f : Int → List Int → Rt.R} {ids : List Int}
theorem snoc_inj {α : Type} {l m : List α} {a b : α} (h : l ++ [a] = m ++ [b]) : l = m ∧ a = b := by
  have h1 := List.append_inj' h rfl
  exact ⟨h1.1, by simpa using h1.2⟩
theorem BF.uniq {L : List (List Int)} {p : List Pl.Ro} (h : BF f ids L p) : ∀ {q : List Pl.Ro}, BF f ids L q → p = q := by
  induction h with
  | nil =>
    intro q k
    cases k with
    | nil => rfl
    | skip hL h hn => simp at hL
    | take hL hP h hu hf he hm => simp at hL
  | @skip L0 l0 st0 p0 hL h hn ih =>
    intro q k
    generalize hM : L0 = M at k
    subst hL
    cases k with
    | nil => simp at hM
    | skip hL2 h2 hn2 =>
      obtain ⟨rfl, rfl⟩ := snoc_inj (hM.trans hL2)
      exact ih h2
    | take hL2 hP2 h2 hu hf he hm =>
      obtain ⟨rfl, rfl⟩ := snoc_inj (hM.trans hL2)
      obtain rfl := ih h2
      exact absurd he (hn _ hu hf)
  | @take L l st P p u hL hP h hu hf he hm ih =>
    subst hL hP
    intro q k
    generalize hM : l ++ [st] = M at k
    cases k with
    | nil => simp at hM
    | skip hL2 h2 hn2 =>
      obtain ⟨rfl, rfl⟩ := snoc_inj (hM.trans hL2)
      obtain rfl := ih h2
      exact absurd he (hn2 _ hu hf)
    | @take _ l2 st2 _ p2 u2 hL2 hP2 h2 hu2 hf2 he2 hm2 =>
      obtain ⟨rfl, rfl⟩ := snoc_inj (hM.trans hL2)
      obtain rfl := ih h2
      subst hP2
      have h3 := hm u2 hu2 hf2 he2
      have h4 := hm2 u hu hf he
      have : u = u2 := by omega
      rw [this]
theorem nodup_le {l : List Int} : ∀ {m : List Int}, l.Nodup → (∀ x ∈ l, x ∈ m) → l.length ≤ m.length := by
  induction l with
  | nil => intro m _ _; simp
  | cons a l ih =>
    intro m hn hs
    rw [List.nodup_cons] at hn
    have h1 := ih (m := m.erase a) hn.2 (fun x hx => (List.mem_erase_of_ne (fun e => hn.1 (by rw [← e]; exact hx))).2 (hs x (by simp [hx])))
    have ha := hs a (by simp)
    rw [List.length_erase_of_mem ha] at h1
    have := List.length_pos_of_mem ha
    simp only [List.length_cons]
    omega
/-- what such a plan holds -/
structure Bp (f : Int → List Int → Rt.R) (ids : List Int) (L : List (List Int)) (p : List Pl.Ro) : Prop where
  ok : ∀ r ∈ p, (f r.tr r.st).e = 0
  nd : (Pl.trs p).Nodup
  sub : ∀ u ∈ Pl.trs p, u ∈ ids
  st : (Pl.stops p).Sublist L.flatten
theorem trs_snoc (p : List Pl.Ro) (r : Pl.Ro) : Pl.trs (p ++ [r]) = Pl.trs p ++ [r.tr] := by unfold Pl.trs; simp
theorem BF.holds {L : List (List Int)} {p : List Pl.Ro} (h : BF f ids L p) : Bp f ids L p := by
  induction h with
  | nil => exact ⟨fun r hr => (by cases hr), List.nodup_nil, fun u hu => (by cases hu), List.Sublist.refl _⟩
  | skip hL h hn ih =>
    subst hL
    refine ⟨ih.ok, ih.nd, ih.sub, ?_⟩
    rw [List.flatten_append]
    exact ih.st.trans (List.sublist_append_left _ _)
  | @take L l st P p u hL hP h hu hf he hm ih =>
    subst hL hP
    refine ⟨fun r hr => ?_, ?_, fun v hv => ?_, ?_⟩
    · rcases List.mem_append.1 hr with hr | hr
      · exact ih.ok r hr
      · obtain rfl := List.mem_singleton.1 hr
        exact he
    · rw [trs_snoc, List.nodup_append]
      refine ⟨ih.nd, by simp, fun a ha b hb e => ?_⟩
      obtain rfl := List.mem_singleton.1 hb
      subst e
      exact hf ha
    · rw [trs_snoc] at hv
      rcases List.mem_append.1 hv with hv | hv
      · exact ih.sub v hv
      · obtain rfl := List.mem_singleton.1 hv
        exact hu
    · rw [Pl.stops_snoc, List.flatten_append]
      exact ih.st.append (by simp)

/-- the trucks that are free, rising -/
def fr (ids : List Int) (p : List Pl.Ro) : List Int := (Pl.srt ids).filter fun u => !((Pl.trs p).contains u)
theorem fr_nil (ids : List Int) : fr ids [] = Pl.srt ids := by unfold fr Pl.trs; simp
theorem mem_fr {p : List Pl.Ro} {u : Int} : u ∈ fr ids p ↔ u ∈ ids ∧ u ∉ Pl.trs p := by
  unfold fr
  rw [List.mem_filter, Pl.mem_srt]
  simp
theorem fr_sorted (ids : List Int) (p : List Pl.Ro) : (fr ids p).Pairwise (· ≤ ·) := (Pl.srt_sorted ids).filter _
theorem fr_nodup (h : ids.Nodup) (p : List Pl.Ro) : (fr ids p).Nodup := (Pl.srt_nodup.2 h).filter _
theorem filter_erase {l : List Int} (h : l.Nodup) {q : Nat} {u : Int} (hq : l[q]? = some u) : l.filter (fun v => !(v == u)) = l.eraseIdx q := by
  induction l generalizing q with
  | nil => simp at hq
  | cons a l ih =>
    rw [List.nodup_cons] at h
    cases q with
    | zero =>
      simp at hq
      subst hq
      rw [List.eraseIdx_cons_zero, List.filter_cons]
      simp only [beq_self_eq_true, Bool.not_true]
      rw [if_neg (by simp)]
      refine List.filter_eq_self.2 fun v hv => ?_
      simp only [Bool.not_eq_true', beq_eq_false_iff_ne]
      exact fun e => h.1 (by rw [← e]; exact hv)
    | succ q =>
      have hq' : l[q]? = some u := by simpa using hq
      rw [List.eraseIdx_cons_succ, List.filter_cons, ih h.2 hq', if_pos]
      simp only [Bool.not_eq_true', beq_eq_false_iff_ne]
      exact fun e => h.1 (by rw [e]; exact List.mem_of_getElem? hq')
theorem fr_next (h : ids.Nodup) {p : List Pl.Ro} {q : Nat} {u : Int} {st : List Int} (hq : (fr ids p)[q]? = some u) : fr ids (p ++ [⟨u, st⟩]) = (fr ids p).eraseIdx q := by
  rw [← filter_erase (fr_nodup h p) hq]
  unfold fr
  rw [List.filter_filter, trs_snoc]
  congr 1
  funext v
  simp only [List.contains_append, Bool.not_or, List.contains_cons, List.contains_nil, Bool.or_false]
  rw [Bool.and_comm]
theorem BF.step (hn : ids.Nodup) {l : List (List Int)} {p : List Pl.Ro} (h : BF f ids l p) {st : List Int} {pl z : Int} (hc : Ch (fun u => f u st) (fr ids p) (fr ids p).length pl z) :
    pl = -1 ∧ BF f ids (l ++ [st]) p ∨ ∃ (q : Nat) (u : Int), pl = (q : Int) ∧ (fr ids p)[q]? = some u ∧ BF f ids (l ++ [st]) (p ++ [⟨u, st⟩]) ∧ fr ids (p ++ [⟨u, st⟩]) = (fr ids p).eraseIdx q := by
  rcases hc with ⟨h1, h2⟩ | ⟨q, u, h1, h2, h3, h4, h5, h6⟩
  · refine .inl ⟨h1, .skip rfl h fun u hu hf => ?_⟩
    obtain ⟨j, hj⟩ := List.getElem?_of_mem (mem_fr.2 ⟨hu, hf⟩)
    exact h2 j u (List.getElem?_eq_some_iff.1 hj).1 hj
  · refine .inr ⟨q, u, h1, h3, ?_, fr_next hn h3⟩
    have hm := mem_fr.1 (List.mem_of_getElem? h3)
    refine .take rfl rfl h hm.1 hm.2 h4 fun v hv hvf hve => ?_
    obtain ⟨j, hj⟩ := List.getElem?_of_mem (mem_fr.2 ⟨hv, hvf⟩)
    rcases h6 j v (List.getElem?_eq_some_iff.1 hj).1 hj hve with h7 | ⟨h7, h8⟩
    · exact .inl h7
    · refine .inr ⟨h7, ?_⟩
      rcases Nat.lt_or_eq_of_le h8 with h9 | rfl
      · have := List.pairwise_iff_getElem.1 (fr_sorted ids p) q j (List.getElem?_eq_some_iff.1 h3).1 (List.getElem?_eq_some_iff.1 hj).1 h9
        rw [(List.getElem?_eq_some_iff.1 h3).2, (List.getElem?_eq_some_iff.1 hj).2] at this
        exact this
      · rw [h3] at hj
        obtain rfl := Option.some.inj hj
        exact Int.le_refl _
end
section
variable {N : Int} {D T : List Int} {os : List O} {ts : List Ld.T}
/-- the plan of a world -/
structure IsPlan (N : Int) (D T : List Int) (os : List O) (ts : List Ld.T) (p : List Pl.Ro) : Prop where
  ex : ∃ L, IsRows N D T os ts L ∧ BF (fun u st => Rt.runS N D T os ts u st) (ts.map Ld.T.id) L p
theorem IsPlan.uniq (hw : Rt.worldE N D T os ts = 0) {p q : List Pl.Ro} (h : IsPlan N D T os ts p) (k : IsPlan N D T os ts q) : p = q := by
  obtain ⟨L, h1, h2⟩ := h.ex
  obtain ⟨M, k1, k2⟩ := k.ex
  obtain rfl := h1.uniq hw k1
  exact h2.uniq k2
theorem IsPlan.may (hw : Rt.worldE N D T os ts = 0) {p : List Pl.Ro} (h : IsPlan N D T os ts p) : Pl.May N D T os ts p (Pl.restS os p) := by
  obtain ⟨L, h1, h2⟩ := h.ex
  have hb := h2.holds
  have hj := h1.joined hw
  refine ⟨hw, ?_, fun r hr => hb.ok r hr, hb.nd, hj.rw.nd.sublist hb.st, rfl⟩
  have h3 := nodup_le hb.nd hb.sub
  rw [List.length_map] at h3
  have h4 := (Rt.ok_of hw).tl
  have h5 : (Pl.trs p).length = p.length := List.length_map _
  omega
end
end Sv
