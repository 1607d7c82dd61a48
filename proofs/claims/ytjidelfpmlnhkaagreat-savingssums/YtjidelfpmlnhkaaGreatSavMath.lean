/- Plain mathematics behind package savings: rows, what is saved by joining two, the rows when all are joined, a first plan. No program is named here. -/
import Derived.Test.YtjidelfpmlnhkaaGreatPlanMath2
set_option linter.unusedVariables false
namespace Sv
open Ld

/-- two of some distinct things, taken out -/
theorem get_perm {α : Type} {l : List α} {k : Nat} {x : α} (h : l[k]? = some x) : l.Perm (x :: l.eraseIdx k) := by
  induction l generalizing k with
  | nil => simp at h
  | cons y l ih =>
    cases k with
    | zero => simp at h; subst h; exact List.Perm.refl _
    | succ k => exact (List.Perm.cons y (ih (by simpa using h))).trans (List.Perm.swap x y _)
theorem set_perm {α : Type} {l : List α} {k : Nat} (hk : k < l.length) (z : α) : (l.set k z).Perm (z :: l.eraseIdx k) := by
  induction l generalizing k with
  | nil => simp at hk
  | cons y l ih =>
    cases k with
    | zero => exact List.Perm.refl _
    | succ k => exact (List.Perm.cons y (ih (by simpa using hk))).trans (List.Perm.swap z y _)
theorem two_out {α : Type} {l : List α} {a b : Nat} {x y : α} (ha : l[a]? = some x) (hb : l[b]? = some y) (hne : a ≠ b) (z : α) :
    ∃ rest, l.Perm (x :: y :: rest) ∧ ((l.set a z).eraseIdx b).Perm (z :: rest) := by
  have hal := (List.getElem?_eq_some_iff.1 ha).1
  have h1 : (l.set a z)[b]? = some y := by rw [List.getElem?_set_ne hne]; exact hb
  have h2 := get_perm h1
  have h3 := set_perm hal z
  have h4 : y ∈ l.eraseIdx a := by
    have : y ∈ (l.set a y).eraseIdx a ∨ True := .inr trivial
    rw [List.mem_eraseIdx_iff_getElem?]
    exact ⟨b, fun e => hne e.symm, hb⟩
  obtain ⟨j, hj⟩ := List.getElem?_of_mem h4
  refine ⟨(l.eraseIdx a).eraseIdx j, (get_perm ha).trans (List.Perm.cons x (get_perm hj)), ?_⟩
  have h5 : (y :: (l.set a z).eraseIdx b).Perm (y :: z :: (l.eraseIdx a).eraseIdx j) :=
    (h2.symm.trans h3).trans ((List.Perm.cons z (get_perm hj)).trans (List.Perm.swap y z _))
  exact h5.cons_inv

def hd (l : List Int) : Int := l.headD 0
def lst (l : List Int) : Int := l.getLastD 0
theorem hd_app {a : List Int} (h : a ≠ []) (b : List Int) : hd (a ++ b) = hd a := by
  cases a with
  | nil => exact absurd rfl h
  | cons x a => rfl
theorem hd_mem {a : List Int} (h : a ≠ []) : hd a ∈ a := by
  cases a with
  | nil => exact absurd rfl h
  | cons x a => exact List.mem_cons_self
theorem lst_mem {a : List Int} (h : a ≠ []) : lst a ∈ a := by
  unfold lst
  rw [List.getLastD_eq_getLast?, List.getLast?_eq_some_getLast h]
  exact List.getLast_mem h
theorem hd_at {a : List Int} {x : Int} (h : a[0]? = some x) : hd a = x := by
  cases a with
  | nil => cases h
  | cons y a => exact Option.some.inj h
theorem lst_at {a : List Int} {x : Int} (h : a[a.length - 1]? = some x) : lst a = x := by
  unfold lst
  rw [List.getLastD_eq_getLast?, List.getLast?_eq_getElem?, h]
  rfl

/-- rows that hold no order twice, and none of no orders -/
structure Rws (l : List (List Int)) : Prop where
  ne : ∀ a ∈ l, a ≠ []
  nd : l.flatten.Nodup
theorem Rws.perm {l m : List (List Int)} (h : Rws l) (hp : l.Perm m) : Rws m := ⟨fun a ha => h.ne a (hp.mem_iff.2 ha), hp.flatten.nodup_iff.1 h.nd⟩
theorem Rws.hd_inj {l : List (List Int)} (h : Rws l) {a b : List Int} (ha : a ∈ l) (hb : b ∈ l) (e : hd a = hd b) : a = b := by
  obtain ⟨i, hi⟩ := List.getElem?_of_mem ha
  obtain ⟨k, hk⟩ := List.getElem?_of_mem hb
  by_cases hik : i = k
  · subst hik
    rw [hi] at hk
    exact Option.some.inj hk
  · exfalso
    obtain ⟨rest, hp, _⟩ := two_out hi hk hik []
    have hn := hp.flatten.nodup_iff.1 h.nd
    simp only [List.flatten_cons] at hn
    rw [List.nodup_append] at hn
    have h1 := hn.2.2 (hd a) (hd_mem (h.ne a ha)) (hd b) (List.mem_append_left _ (hd_mem (h.ne b hb)))
    exact h1 e
theorem Rws.join {a b : List Int} {rest : List (List Int)} (h : Rws (a :: b :: rest)) : Rws ((a ++ b) :: rest) := by
  refine ⟨fun c hc => ?_, ?_⟩
  · rcases List.mem_cons.1 hc with rfl | hc
    · have := h.ne a (by simp)
      simp [this]
    · exact h.ne c (by simp [hc])
  · have := h.nd
    simpa using this

section
variable (N : Int) (D T : List Int) (os : List O) (ts : List Ld.T)
def canB (st : List Int) : Bool := ts.any fun t => decide ((Rt.runS N D T os ts t.id st).e = 0)
def nodeOf (id : Int) : Int := (Rt.ordAt os id).node
def savV (a b : List Int) : Int := Ar.at2 N D (nodeOf os (lst a)) 0 + Ar.at2 N D 0 (nodeOf os (hd b)) - Ar.at2 N D (nodeOf os (lst a)) (nodeOf os (hd b))
def savS (a b : List Int) : Int × Int :=
  if Rt.worldE N D T os ts = 0 then
    (if a.length < 1 ∨ b.length < 1 then (0, 2)
    else if findI (os.map O.id) (lst a) = -1 ∨ findI (os.map O.id) (hd b) = -1 then (0, 5)
    else (savV N D os a b, 0))
  else (0, Rt.worldE N D T os ts)
/-- what is won by joining two rows, if they can be -/
def gain (a b : List Int) : Int := if 0 < (savS N D T os ts a b).1 ∧ canB N D T os ts (a ++ b) = true then (savS N D T os ts a b).1 else 0
end
section
variable {N : Int} {D T : List Int} {os : List O} {ts : List Ld.T}
theorem sav_world {a b : List Int} {e : Int} (h : Rt.worldE N D T os ts = e) (he : ¬ e = 0) : savS N D T os ts a b = (0, e) := by unfold savS; rw [h, if_neg he]
theorem sav_form {a b : List Int} (h : Rt.worldE N D T os ts = 0) (h2 : a.length < 1 ∨ b.length < 1) : savS N D T os ts a b = (0, 2) := by unfold savS; rw [if_pos h, if_pos h2]
theorem sav_name {a b : List Int} (h : Rt.worldE N D T os ts = 0) (h2 : ¬ (a.length < 1 ∨ b.length < 1)) (h3 : findI (os.map O.id) (lst a) = -1 ∨ findI (os.map O.id) (hd b) = -1) : savS N D T os ts a b = (0, 5) := by unfold savS; rw [if_pos h, if_neg h2, if_pos h3]
theorem sav_ok {a b : List Int} (h : Rt.worldE N D T os ts = 0) (h2 : ¬ (a.length < 1 ∨ b.length < 1)) (h3 : ¬ findI (os.map O.id) (lst a) = -1) (h4 : ¬ findI (os.map O.id) (hd b) = -1) : savS N D T os ts a b = (savV N D os a b, 0) := by
  unfold savS; rw [if_pos h, if_neg h2, if_neg (by rintro (e | e); exact h3 e; exact h4 e)]
theorem gain_nonneg (a b : List Int) : 0 ≤ gain N D T os ts a b := by
  unfold gain
  split
  · rename_i h; omega
  · exact Int.le_refl _
theorem gain_yes {a b : List Int} (h : 0 < (savS N D T os ts a b).1) (h2 : canB N D T os ts (a ++ b) = true) : gain N D T os ts a b = (savS N D T os ts a b).1 := by unfold gain; rw [if_pos ⟨h, h2⟩]
theorem gain_no1 {a b : List Int} (h : ¬ 0 < (savS N D T os ts a b).1) : gain N D T os ts a b = 0 := by unfold gain; rw [if_neg fun e => h e.1]
theorem gain_no2 {a b : List Int} (h : canB N D T os ts (a ++ b) = false) : gain N D T os ts a b = 0 := by unfold gain; rw [if_neg fun e => by rw [h] at e; exact absurd e.2 (by simp)]
theorem gain_le (a b : List Int) : gain N D T os ts a b ≤ (savS N D T os ts a b).1 ∨ gain N D T os ts a b = 0 := by
  unfold gain
  split
  · exact .inl (Int.le_refl _)
  · exact .inr rfl
theorem gain_pos {a b : List Int} (h : 0 < gain N D T os ts a b) : 0 < (savS N D T os ts a b).1 ∧ canB N D T os ts (a ++ b) = true ∧ gain N D T os ts a b = (savS N D T os ts a b).1 := by
  unfold gain at h ⊢
  split at h
  · rename_i h1
    rw [if_pos h1]
    exact ⟨h1.1, h1.2, rfl⟩
  · exact absurd h (by omega)
theorem gain_none1 (b : List Int) : gain N D T os ts [] b = 0 := by
  refine gain_no1 ?_
  unfold savS
  split
  · rw [if_pos (.inl (by simp))]; simp
  · simp
theorem gain_none2 (a : List Int) : gain N D T os ts a [] = 0 := by
  refine gain_no1 ?_
  unfold savS
  split
  · rw [if_pos (.inr (by simp))]; simp
  · simp
/-- how much it is at most -/
theorem sav_fits (a b : List Int) (h : Rt.worldE N D T os ts = 0) : -3000000 ≤ (savS N D T os ts a b).1 ∧ (savS N D T os ts a b).1 ≤ 3000000 := by
  by_cases h2 : a.length < 1 ∨ b.length < 1
  · rw [sav_form h h2]; simp
  · by_cases h3 : findI (os.map O.id) (lst a) = -1
    · rw [sav_name h h2 (.inl h3)]; simp
    · by_cases h4 : findI (os.map O.id) (hd b) = -1
      · rw [sav_name h h2 (.inr h4)]; simp
      · rw [sav_ok h h2 h3 h4]
        have hok := Rt.ok_of h
        have h5 : Ar.hasB N (nodeOf os (lst a)) = true := by
          obtain ⟨k, o, e, _, ho, _⟩ := Rt.find_mem O.id os _ h3
          unfold nodeOf
          rw [Rt.ordAt_eq e ho]
          exact Rt.OOk.has (hok.oo o (List.mem_of_getElem? ho))
        have h6 : Ar.hasB N (nodeOf os (hd b)) = true := by
          obtain ⟨k, o, e, _, ho, _⟩ := Rt.find_mem O.id os _ h4
          unfold nodeOf
          rw [Rt.ordAt_eq e ho]
          exact Rt.OOk.has (hok.oo o (List.mem_of_getElem? ho))
        have h7 := hok.ar.at_d h5 hok.ar.has0
        have h8 := hok.ar.at_d hok.ar.has0 h6
        have h9 := hok.ar.at_d h5 h6
        unfold savV
        simp only
        omega
theorem sav_err {a b : List Int} (h : ¬ (savS N D T os ts a b).2 = 0) : (savS N D T os ts a b).1 = 0 := by
  by_cases h1 : Rt.worldE N D T os ts = 0
  · by_cases h2 : a.length < 1 ∨ b.length < 1
    · rw [sav_form h1 h2]
    · by_cases h3 : findI (os.map O.id) (lst a) = -1
      · rw [sav_name h1 h2 (.inl h3)]
      · by_cases h4 : findI (os.map O.id) (hd b) = -1
        · rw [sav_name h1 h2 (.inr h4)]
        · rw [sav_ok h1 h2 h3 h4] at h
          exact absurd rfl h
  · rw [sav_world rfl h1]
theorem can_of {st : List Int} {k : Nat} {t : Ld.T} (hk : ts[k]? = some t) (h : (Rt.runS N D T os ts t.id st).e = 0) : canB N D T os ts st = true := List.any_eq_true.2 ⟨t, List.mem_of_getElem? hk, by simp [h]⟩
theorem can_no {st : List Int} (h : ∀ (k : Nat) (t : Ld.T), ts[k]? = some t → ¬ (Rt.runS N D T os ts t.id st).e = 0) : canB N D T os ts st = false := by
  rw [Bool.eq_false_iff]
  intro e
  obtain ⟨t, ht, h1⟩ := List.any_eq_true.1 e
  obtain ⟨k, hk⟩ := List.getElem?_of_mem ht
  exact h k t hk (of_decide_eq_true h1)
theorem can_has {st : List Int} (h : canB N D T os ts st = true) : ∃ (t : Ld.T), t ∈ ts ∧ (Rt.runS N D T os ts t.id st).e = 0 := by
  obtain ⟨t, ht, h1⟩ := List.any_eq_true.1 h
  exact ⟨t, ht, of_decide_eq_true h1⟩

/-- the best two of some rows, by their places, as far as one has looked -/
structure Bst (g : Nat → Nat → Int) (x y a b : Nat) (m : Int) : Prop where
  m0 : 0 ≤ m
  le : ∀ i k, (i < x ∨ i = x ∧ k < y) → g i k ≤ m
  fst : 0 < m → ∀ i k, (i < x ∨ i = x ∧ k < y) → g i k = m → a < i ∨ a = i ∧ b ≤ k
  at_ : 0 < m → g a b = m ∧ (a < x ∨ a = x ∧ b < y)
theorem Bst.zero (g : Nat → Nat → Int) : Bst g 0 0 0 0 0 := ⟨Int.le_refl _, fun i k h => by omega, fun h => by omega, fun h => by omega⟩
theorem Bst.skip {g : Nat → Nat → Int} {x y a b : Nat} {m : Int} (h : Bst g x y a b m) (h1 : g x y ≤ m) : Bst g x (y + 1) a b m := by
  refine ⟨h.m0, fun i k hi => ?_, fun hm i k hi e => ?_, fun hm => ⟨(h.at_ hm).1, by have := (h.at_ hm).2; omega⟩⟩
  · by_cases hik : i = x ∧ k = y
    · obtain ⟨rfl, rfl⟩ := hik; exact h1
    · exact h.le i k (by omega)
  · by_cases hik : i = x ∧ k = y
    · obtain ⟨rfl, rfl⟩ := hik
      have := (h.at_ hm).2
      omega
    · exact h.fst hm i k (by omega) e
theorem Bst.take {g : Nat → Nat → Int} {x y a b : Nat} {m : Int} (h : Bst g x y a b m) {z : Int} (hz : g x y = z) (h1 : m < z) : Bst g x (y + 1) x y z := by
  have := h.m0
  refine ⟨by omega, fun i k hi => ?_, fun hm i k hi e => ?_, fun hm => ⟨hz, by omega⟩⟩
  · by_cases hik : i = x ∧ k = y
    · obtain ⟨rfl, rfl⟩ := hik; omega
    · have := h.le i k (by omega); omega
  · by_cases hik : i = x ∧ k = y
    · omega
    · have := h.le i k (by omega); omega
theorem Bst.row {g : Nat → Nat → Int} {x y a b : Nat} {m : Int} (h : Bst g x y a b m) (h1 : ∀ k, y ≤ k → g x k = 0) : Bst g (x + 1) 0 a b m := by
  have := h.m0
  refine ⟨h.m0, fun i k hi => ?_, fun hm i k hi e => ?_, fun hm => ⟨(h.at_ hm).1, by have := (h.at_ hm).2; omega⟩⟩
  · by_cases hik : i = x ∧ y ≤ k
    · rw [hik.1, h1 k hik.2]; omega
    · exact h.le i k (by omega)
  · by_cases hik : i = x ∧ y ≤ k
    · rw [hik.1, h1 k hik.2] at e; omega
    · exact h.fst hm i k (by omega) e
/-- what is won by the rows at two places -/
def rowAt (l : List (List Int)) (i : Nat) : List Int := (l[i]?).getD []
theorem rowAt_eq {l : List (List Int)} {i : Nat} {a : List Int} (h : l[i]? = some a) : rowAt l i = a := by unfold rowAt; rw [h]; rfl
theorem rowAt_none {l : List (List Int)} {i : Nat} (h : l.length ≤ i) : rowAt l i = [] := by unfold rowAt; rw [List.getElem?_eq_none h]; rfl
end
section
variable (N : Int) (D T : List Int) (os : List O) (ts : List Ld.T)
def gainAt (l : List (List Int)) (i k : Nat) : Int := if i = k then 0 else gain N D T os ts (rowAt l i) (rowAt l k)
/-- the best two, by what they are -/
structure BestP (l : List (List Int)) (a b : List Int) : Prop where
  ha : a ∈ l
  hb : b ∈ l
  ne : a ≠ b
  gd : 0 < gain N D T os ts a b
  mx : ∀ c ∈ l, ∀ d ∈ l, c ≠ d → 0 < gain N D T os ts c d → gain N D T os ts c d < gain N D T os ts a b ∨ gain N D T os ts c d = gain N D T os ts a b ∧ (hd a < hd c ∨ hd a = hd c ∧ hd b ≤ hd d)
/-- rows are joined, till no two can be -/
inductive J : List (List Int) → List (List Int) → Prop
  | done {l out : List (List Int)} (h : l.Perm out) (h2 : ∀ a ∈ l, ∀ b ∈ l, a ≠ b → gain N D T os ts a b = 0) : J l out
  | step {l l' out rest : List (List Int)} {a b : List Int} (h : l.Perm (a :: b :: rest)) (hb : BestP N D T os ts l a b) (h2 : l'.Perm ((a ++ b) :: rest)) (hj : J l' out) : J l out
def aloneL : List (List Int) := (os.map fun o => [o.id]).filter (canB N D T os ts)
/-- rows of more orders first, of as many by their first -/
def le2 (a b : List Int) : Prop := b.length < a.length ∨ b.length = a.length ∧ hd a ≤ hd b
structure IsRows (l : List (List Int)) : Prop where
  jn : ∃ out, J N D T os ts (aloneL N D T os ts) out ∧ l.Perm out
  so : l.Pairwise le2
end
section
variable {N : Int} {D T : List Int} {os : List O} {ts : List Ld.T}
theorem BestP.perm {l m : List (List Int)} {a b : List Int} (h : BestP N D T os ts l a b) (hp : l.Perm m) : BestP N D T os ts m a b :=
  ⟨hp.mem_iff.1 h.ha, hp.mem_iff.1 h.hb, h.ne, h.gd, fun c hc d hd => h.mx c (hp.mem_iff.2 hc) d (hp.mem_iff.2 hd)⟩
theorem BestP.uniq {l : List (List Int)} (hl : Rws l) {a b c d : List Int} (h : BestP N D T os ts l a b) (k : BestP N D T os ts l c d) : a = c ∧ b = d := by
  have h1 := h.mx c k.ha d k.hb k.ne k.gd
  have h2 := k.mx a h.ha b h.hb h.ne h.gd
  exact ⟨hl.hd_inj h.ha k.ha (by omega), hl.hd_inj h.hb k.hb (by omega)⟩
theorem J.perm {l m out : List (List Int)} (h : J N D T os ts l out) (hp : l.Perm m) : J N D T os ts m out := by
  cases h with
  | done h h2 => exact .done (hp.symm.trans h) fun a ha b hb => h2 a (hp.mem_iff.2 ha) b (hp.mem_iff.2 hb)
  | step h hb h2 hj => exact .step (hp.symm.trans h) (hb.perm hp) h2 hj
theorem J.uniq {l o1 : List (List Int)} (h : J N D T os ts l o1) : ∀ {m o2 : List (List Int)}, Rws l → l.Perm m → J N D T os ts m o2 → o1.Perm o2 := by
  induction h with
  | done h h2 =>
    intro m o2 hr hp k
    cases k with
    | done k k2 => exact h.symm.trans (hp.trans k)
    | step k kb k2 kj =>
      have := h2 _ (hp.mem_iff.2 kb.ha) _ (hp.mem_iff.2 kb.hb) kb.ne
      have := kb.gd
      omega
  | @step l l' out rest a b h hb h2 hj ih =>
    intro m o2 hr hp k
    cases k with
    | done k k2 =>
      have := k2 _ (hp.mem_iff.1 hb.ha) _ (hp.mem_iff.1 hb.hb) hb.ne
      have := hb.gd
      omega
    | @step m m' o2' rest2 c d k kb k2 kj =>
      obtain ⟨rfl, rfl⟩ := BestP.uniq hr hb (kb.perm hp.symm)
      have h3 : (a :: b :: rest).Perm (a :: b :: rest2) := h.symm.trans (hp.trans k)
      have h4 := h3.cons_inv.cons_inv
      exact ih ((hr.perm h).join.perm h2.symm) (h2.trans ((List.Perm.cons _ h4).trans k2.symm)) kj
/-- what rows that are joined hold -/
structure Joined (l out : List (List Int)) : Prop where
  rw : Rws out
  fl : out.flatten.Perm l.flatten
  cn : ∀ a ∈ out, canB N D T os ts a = true
  no : ∀ a ∈ out, ∀ b ∈ out, a ≠ b → gain N D T os ts a b = 0
theorem J.joined {l out : List (List Int)} (h : J N D T os ts l out) : Rws l → (∀ a ∈ l, canB N D T os ts a = true) → Joined (N := N) (D := D) (T := T) (os := os) (ts := ts) l out := by
  induction h with
  | done h h2 =>
    intro hr hc
    exact ⟨hr.perm h, h.symm.flatten, fun a ha => hc a (h.mem_iff.2 ha), fun a ha b hb => h2 a (h.mem_iff.2 ha) b (h.mem_iff.2 hb)⟩
  | @step l l' out rest a b h hb h2 hj ih =>
    intro hr hc
    have h5 := ih ((hr.perm h).join.perm h2.symm) (fun c hm => by
      rcases List.mem_cons.1 (h2.mem_iff.1 hm) with rfl | hm
      · exact (gain_pos hb.gd).2.1
      · exact hc c (h.mem_iff.2 (by simp [hm])))
    refine ⟨h5.rw, h5.fl.trans ?_, h5.cn, h5.no⟩
    refine h2.flatten.trans (List.Perm.trans ?_ h.symm.flatten)
    simp
theorem alone_eq (l : List O) : (l.map fun o => [o.id]).filter (canB N D T os ts) = ((l.map O.id).filter fun i => canB N D T os ts [i]).map fun i => [i] := by
  induction l with
  | nil => rfl
  | cons o l ih =>
    simp only [List.map_cons, List.filter_cons]
    split
    · simp [ih]
    · simp [ih]
theorem flat_one (l : List Int) : (l.map fun i => [i]).flatten = l := by
  induction l with
  | nil => rfl
  | cons x l ih => simp [ih]
theorem alone_flat : (aloneL N D T os ts).flatten = (os.map O.id).filter fun i => canB N D T os ts [i] := by
  unfold aloneL
  rw [alone_eq, flat_one]
theorem alone_rws (h : (os.map O.id).Nodup) : Rws (aloneL N D T os ts) := by
  refine ⟨fun a ha => ?_, ?_⟩
  · unfold aloneL at ha
    obtain ⟨o, _, rfl⟩ := List.mem_map.1 (List.mem_filter.1 ha).1
    simp
  · rw [alone_flat]
    exact h.filter _
theorem alone_can : ∀ a ∈ aloneL N D T os ts, canB N D T os ts a = true := fun a ha => (List.mem_filter.1 ha).2
/-- rows are told in one way -/
theorem IsRows.uniq (hw : Rt.worldE N D T os ts = 0) {l m : List (List Int)} (h : IsRows N D T os ts l) (k : IsRows N D T os ts m) : l = m := by
  obtain ⟨o1, j1, p1⟩ := h.jn
  obtain ⟨o2, j2, p2⟩ := k.jn
  have hr := alone_rws (N := N) (D := D) (T := T) (os := os) (ts := ts) (Rt.ok_of hw).ou
  have h1 := (j1.joined hr alone_can).rw.perm p1.symm
  have h2 := j1.uniq hr (List.Perm.refl _) j2
  have hp : l.Perm m := p1.trans (h2.trans p2.symm)
  refine List.Perm.eq_of_pairwise (fun a b ha hb e1 e2 => ?_) h.so k.so hp
  unfold le2 at e1 e2
  exact h1.hd_inj ha (hp.mem_iff.2 hb) (by omega)
theorem IsRows.joined (hw : Rt.worldE N D T os ts = 0) {l : List (List Int)} (h : IsRows N D T os ts l) : Joined (N := N) (D := D) (T := T) (os := os) (ts := ts) (aloneL N D T os ts) l := by
  obtain ⟨o1, j1, p1⟩ := h.jn
  have hr := alone_rws (N := N) (D := D) (T := T) (os := os) (ts := ts) (Rt.ok_of hw).ou
  have h1 := j1.joined hr alone_can
  exact ⟨h1.rw.perm p1.symm, p1.flatten.trans h1.fl, fun a ha => h1.cn a (p1.mem_iff.1 ha), fun a ha b hb => h1.no a (p1.mem_iff.1 ha) b (p1.mem_iff.1 hb)⟩

/-- from places to rows -/
theorem best_of {l : List (List Int)} (hs : l.Pairwise fun a b => hd a < hd b) {a b : Nat} {m : Int} (h : Bst (gainAt N D T os ts l) l.length 0 a b m) (hm : 0 < m) {x y : List Int} (hx : l[a]? = some x) (hy : l[b]? = some y) : BestP N D T os ts l x y := by
  have hat := h.at_ hm
  have hlt : ∀ {i k : Nat} {c d : List Int}, l[i]? = some c → l[k]? = some d → i < k → hd c < hd d := fun {i k c d} hi hk hik => by
    obtain ⟨h1, rfl⟩ := List.getElem?_eq_some_iff.1 hi
    obtain ⟨h2, rfl⟩ := List.getElem?_eq_some_iff.1 hk
    exact List.pairwise_iff_getElem.1 hs i k h1 h2 hik
  have hab : a ≠ b := fun e => by
    subst e
    have := hat.1
    unfold gainAt at this
    rw [if_pos rfl] at this
    omega
  have hg : ∀ {i k : Nat} {c d : List Int}, l[i]? = some c → l[k]? = some d → i ≠ k → gainAt N D T os ts l i k = gain N D T os ts c d := fun {i k c d} hi hk hik => by
    unfold gainAt
    rw [if_neg hik, rowAt_eq hi, rowAt_eq hk]
  have e1 := hg hx hy hab
  have hne : ∀ {i k : Nat} {c d : List Int}, l[i]? = some c → l[k]? = some d → c ≠ d → i ≠ k := fun {i k c d} hi hk hcd e => by
    subst e
    rw [hi] at hk
    exact hcd (Option.some.inj hk)
  refine ⟨List.mem_of_getElem? hx, List.mem_of_getElem? hy, fun e => ?_, by rw [← e1, hat.1]; exact hm, fun c hc d hd' hcd hgd => ?_⟩
  · rcases Nat.lt_or_gt_of_ne hab with h1 | h1
    · have := hlt hx hy h1; rw [e] at this; omega
    · have := hlt hy hx h1; rw [e] at this; omega
  · obtain ⟨i, hi⟩ := List.getElem?_of_mem hc
    obtain ⟨k, hk⟩ := List.getElem?_of_mem hd'
    have hik := hne hi hk hcd
    have e2 := hg hi hk hik
    have hil := (List.getElem?_eq_some_iff.1 hi).1
    have h3 := h.le i k (.inl hil)
    rw [← e1, ← e2, hat.1]
    by_cases h4 : gainAt N D T os ts l i k = m
    · refine .inr ⟨h4, ?_⟩
      rcases h.fst hm i k (.inl hil) h4 with h5 | ⟨rfl, h5⟩
      · exact .inl (hlt hx hi h5)
      · rw [hx] at hi
        obtain rfl := Option.some.inj hi
        refine .inr ⟨rfl, ?_⟩
        rcases Nat.lt_or_eq_of_le h5 with h6 | rfl
        · have := hlt hy hk h6; omega
        · rw [hy] at hk
          obtain rfl := Option.some.inj hk
          exact Int.le_refl _
    · exact .inl (by omega)
theorem none_of {l : List (List Int)} {a b : Nat} {m : Int} (h : Bst (gainAt N D T os ts l) l.length 0 a b m) (hm : ¬ 0 < m) : ∀ x ∈ l, ∀ y ∈ l, x ≠ y → gain N D T os ts x y = 0 := by
  intro x hx y hy hxy
  obtain ⟨i, hi⟩ := List.getElem?_of_mem hx
  obtain ⟨k, hk⟩ := List.getElem?_of_mem hy
  have h1 := h.le i k (.inl (List.getElem?_eq_some_iff.1 hi).1)
  have hik : i ≠ k := fun e => by
    subst e
    rw [hi] at hk
    exact hxy (Option.some.inj hk)
  unfold gainAt at h1
  rw [if_neg hik, rowAt_eq hi, rowAt_eq hk] at h1
  have := gain_nonneg (N := N) (D := D) (T := T) (os := os) (ts := ts) x y
  omega
/-- the rows when two are joined -/
def nextL (l : List (List Int)) (a b : Nat) : List (List Int) := (l.set a (rowAt l a ++ rowAt l b)).eraseIdx b
theorem next_hds {l : List (List Int)} {a b : Nat} {x y : List Int} (hx : l[a]? = some x) (hne : x ≠ []) (hs : l.Pairwise fun a b => hd a < hd b) : (nextL l a b).Pairwise fun a b => hd a < hd b := by
  unfold nextL
  refine List.Pairwise.sublist (List.eraseIdx_sublist _ _) ?_
  have e : (l.set a (rowAt l a ++ rowAt l b)).map hd = l.map hd := by
    rw [List.map_set, rowAt_eq hx, hd_app hne]
    apply List.ext_getElem?
    intro j
    by_cases hj : a = j
    · subst hj
      have hl := (List.getElem?_eq_some_iff.1 hx).1
      rw [List.getElem?_set_self (by simpa using hl), List.getElem?_map, hx]
      rfl
    · rw [List.getElem?_set_ne hj]
  have h1 : (l.map hd).Pairwise (· < ·) := List.pairwise_map.2 hs
  rw [← e] at h1
  exact List.pairwise_map.1 h1
theorem next_step {l : List (List Int)} (hs : l.Pairwise fun a b => hd a < hd b) {a b : Nat} {m : Int} (h : Bst (gainAt N D T os ts l) l.length 0 a b m) (hm : 0 < m) {x y : List Int} (hx : l[a]? = some x) (hy : l[b]? = some y) {out : List (List Int)} (hj : J N D T os ts (nextL l a b) out) : J N D T os ts l out := by
  have hab : a ≠ b := fun e => by
    subst e
    have := (h.at_ hm).1
    unfold gainAt at this
    rw [if_pos rfl] at this
    omega
  obtain ⟨rest, h1, h2⟩ := two_out hx hy hab (x ++ y)
  refine .step h1 (best_of hs h hm hx hy) ?_ hj
  unfold nextL
  rw [rowAt_eq hx, rowAt_eq hy]
  exact h2

/-- the cheapest of some trucks, by its place, as far as one has looked -/
def Ch (f : Int → Rt.R) (l : List Int) (k : Nat) (p z : Int) : Prop :=
  (p = -1 ∧ ∀ (j : Nat) (u : Int), j < k → l[j]? = some u → ¬ (f u).e = 0) ∨
  ∃ (q : Nat) (u : Int), p = (q : Int) ∧ q < k ∧ l[q]? = some u ∧ (f u).e = 0 ∧ z = (f u).cost ∧ ∀ (j : Nat) (v : Int), j < k → l[j]? = some v → (f v).e = 0 → (f u).cost < (f v).cost ∨ (f u).cost = (f v).cost ∧ q ≤ j
theorem Ch.zero (f : Int → Rt.R) (l : List Int) (z : Int) : Ch f l 0 (-1) z := .inl ⟨rfl, fun j u h => by omega⟩
theorem Ch.skip {f : Int → Rt.R} {l : List Int} {k : Nat} {p z u : Int} (h : Ch f l k p z) (hu : l[k]? = some u) (he : ¬ (f u).e = 0) : Ch f l (k + 1) p z := by
  rcases h with ⟨h1, h2⟩ | ⟨q, v, h1, h2, h3, h4, h5, h6⟩
  · refine .inl ⟨h1, fun j w hj hw => ?_⟩
    by_cases e : j = k
    · subst e
      rw [hu] at hw
      obtain rfl := Option.some.inj hw
      exact he
    · exact h2 j w (by omega) hw
  · refine .inr ⟨q, v, h1, by omega, h3, h4, h5, fun j w hj hw hz => ?_⟩
    by_cases e : j = k
    · subst e
      rw [hu] at hw
      obtain rfl := Option.some.inj hw
      exact absurd hz he
    · exact h6 j w (by omega) hw hz
theorem Ch.keep {f : Int → Rt.R} {l : List Int} {k : Nat} {p z u : Int} (h : Ch f l k p z) (hp : ¬ p = -1) (hu : l[k]? = some u) (hz : ¬ (f u).cost < z) : Ch f l (k + 1) p z := by
  rcases h with ⟨h1, h2⟩ | ⟨q, v, h1, h2, h3, h4, h5, h6⟩
  · exact absurd h1 hp
  · refine .inr ⟨q, v, h1, by omega, h3, h4, h5, fun j w hj hw hz' => ?_⟩
    by_cases e : j = k
    · subst e
      rw [hu] at hw
      obtain rfl := Option.some.inj hw
      omega
    · exact h6 j w (by omega) hw hz'
theorem Ch.take {f : Int → Rt.R} {l : List Int} {k : Nat} {p z u : Int} (h : Ch f l k p z) (hu : l[k]? = some u) (he : (f u).e = 0) (hz : p = -1 ∨ (f u).cost < z) : Ch f l (k + 1) (k : Int) (f u).cost := by
  refine .inr ⟨k, u, rfl, by omega, hu, he, rfl, fun j w hj hw hw0 => ?_⟩
  by_cases e : j = k
  · subst e
    rw [hu] at hw
    obtain rfl := Option.some.inj hw
    exact .inr ⟨rfl, Nat.le_refl _⟩
  · rcases h with ⟨h1, h2⟩ | ⟨q, v, h1, h2, h3, h4, h5, h6⟩
    · exact absurd hw0 (h2 j w (by omega) hw)
    · have := h6 j w (by omega) hw hw0
      omega
theorem Ch.cases {f : Int → Rt.R} {l : List Int} {k : Nat} {p z : Int} (h : Ch f l k p z) : p = -1 ∨ ∃ q : Nat, p = (q : Int) ∧ q < k := by
  rcases h with ⟨h1, h2⟩ | ⟨q, v, h1, h2, _⟩
  · exact .inl h1
  · exact .inr ⟨q, h1, h2⟩
theorem ch_can {st : List Int} {l : List Int} (hl : l.Perm (ts.map Ld.T.id)) {p z : Int} (h : Ch (fun u => Rt.runS N D T os ts u st) l l.length p z) : canB N D T os ts st = !(decide (p = -1)) := by
  rcases h with ⟨h1, h2⟩ | ⟨q, v, h1, h2, h3, h4, _⟩
  · subst h1
    refine can_no fun k t hk e => ?_
    obtain ⟨j, hj⟩ := List.getElem?_of_mem (hl.mem_iff.2 (List.mem_map.2 ⟨t, List.mem_of_getElem? hk, rfl⟩))
    exact h2 j t.id (List.getElem?_eq_some_iff.1 hj).1 hj e
  · have hm := hl.mem_iff.1 (List.mem_of_getElem? h3)
    obtain ⟨t, ht, rfl⟩ := List.mem_map.1 hm
    obtain ⟨k, hk⟩ := List.getElem?_of_mem ht
    rw [can_of hk h4, decide_eq_false (by omega)]
    rfl
theorem Rws.tail {a : List Int} {l : List (List Int)} (h : Rws (a :: l)) : Rws l := by
  refine ⟨fun b hb => h.ne b (by simp [hb]), ?_⟩
  have := h.nd
  rw [List.flatten_cons, List.nodup_append] at this
  exact this.2.1
theorem Rws.hds {l : List (List Int)} (h : Rws l) : l.Pairwise fun a b => hd a ≠ hd b := by
  induction l with
  | nil => exact List.Pairwise.nil
  | cons a l ih =>
    refine List.Pairwise.cons (fun b hb e => ?_) (ih h.tail)
    have := h.nd
    rw [List.flatten_cons, List.nodup_append] at this
    exact this.2.2 (hd a) (hd_mem (h.ne a (by simp))) (hd b) (List.mem_flatten.2 ⟨b, hb, hd_mem (h.ne b (by simp [hb]))⟩) e
theorem Rws.rise {l : List (List Int)} (h : Rws l) (hs : l.Pairwise fun a b => ¬ hd b < hd a) : l.Pairwise fun a b => hd a < hd b := by
  have h2 := h.hds
  rw [List.pairwise_iff_getElem] at *
  intro i j hi hj hij
  have := hs i j hi hj hij
  have := h2 i j hi hj hij
  omega
/-- rows, of which two are joined -/
theorem next_rws {l : List (List Int)} (h : Rws l) {a b : Nat} {x y : List Int} (hx : l[a]? = some x) (hy : l[b]? = some y) (hab : a ≠ b) :
    Rws (nextL l a b) ∧ (nextL l a b).flatten.length = l.flatten.length ∧ (nextL l a b).length + 1 = l.length := by
  obtain ⟨rest, h1, h2⟩ := two_out hx hy hab (x ++ y)
  have e : nextL l a b = (l.set a (x ++ y)).eraseIdx b := by unfold nextL; rw [rowAt_eq hx, rowAt_eq hy]
  rw [e]
  refine ⟨(h.perm h1).join.perm h2.symm, ?_, ?_⟩
  · rw [h2.flatten.length_eq, h1.flatten.length_eq]
    simp only [List.flatten_cons, List.length_append]
    omega
  · rw [h2.length_eq, h1.length_eq]
    simp
theorem flat_ge {l : List (List Int)} {a : List Int} (h : a ∈ l) : a.length ≤ l.flatten.length := by
  induction l with
  | nil => cases h
  | cons b l ih =>
    rw [List.flatten_cons, List.length_append]
    rcases List.mem_cons.1 h with rfl | h
    · omega
    · have := ih h; omega
theorem alone_len (hw : Rt.worldE N D T os ts = 0) : (aloneL N D T os ts).flatten.length ≤ 12 := by
  rw [alone_flat]
  refine Nat.le_trans (List.length_filter_le _ _) ?_
  rw [List.length_map]
  exact (Rt.ok_of hw).ol
end
end Sv
