/- Rows of routes of a call's own: what an append makes of them, and a store into one. -/
import Derived.Test.YtbacakblboodeaaPlanMem
namespace Go.Proofs.Ytbacakblboodeaa
open Go.RowKit
set_option linter.unusedVariables false
set_option maxRecDepth 100000

def rCells (rs : List Rd) : List Value := rs.flatMap fun r => [.int .i64 r.tr, .slice r.sA r.sm r.sc]
theorem rc_cons (r : Rd) (l : List Rd) : rCells (r :: l) = .int .i64 r.tr :: .slice r.sA r.sm r.sc :: rCells l := rfl
theorem rc_app (a b : List Rd) : rCells (a ++ b) = rCells a ++ rCells b := List.flatMap_append
theorem rc_len (l : List Rd) : (rCells l).length = l.length * 2 := by
  induction l with
  | nil => rfl
  | cons r l ih => rw [rc_cons]; simp only [List.length_cons, ih]; omega
theorem rc_at {l : List Rd} {k : Nat} {r : Rd} (h : l[k]? = some r) : (rCells l)[k * 2]? = some (.int .i64 r.tr) ∧ (rCells l)[k * 2 + 1]? = some (.slice r.sA r.sm r.sc) := by
  induction l generalizing k with
  | nil => simp at h
  | cons a l ih =>
    rw [rc_cons]
    cases k with
    | zero => simp at h; subst h; exact ⟨rfl, rfl⟩
    | succ k =>
      have := ih (k := k) (by simpa using h)
      rw [show (k + 1) * 2 = k * 2 + 1 + 1 by omega]
      simpa using this
theorem rc_inv {l : List Rd} {j : Nat} {u : Value} (h : (rCells l)[j]? = some u) : ∃ (k : Nat) (r : Rd), l[k]? = some r ∧ (j = k * 2 ∧ u = .int .i64 r.tr ∨ j = k * 2 + 1 ∧ u = .slice r.sA r.sm r.sc) := by
  induction l generalizing j with
  | nil => simp [rCells] at h
  | cons a l ih =>
    rw [rc_cons] at h
    match j with
    | 0 => exact ⟨0, a, rfl, .inl ⟨rfl, by simpa using h.symm⟩⟩
    | 1 => exact ⟨0, a, rfl, .inr ⟨rfl, by simpa using h.symm⟩⟩
    | j + 2 =>
      obtain ⟨k, r, h1, h2⟩ := ih (j := j) (by simpa using h)
      refine ⟨k + 1, r, by simpa using h1, ?_⟩
      rcases h2 with ⟨e, h⟩ | ⟨e, h⟩
      · exact .inl ⟨by omega, h⟩
      · exact .inr ⟨by omega, h⟩
theorem rc_one {l : List Rd} : ∀ u ∈ rCells l, u.oneCell' = true := by
  intro u hu
  obtain ⟨j, hj⟩ := List.getElem?_of_mem hu
  obtain ⟨k, r, _, ⟨_, rfl⟩ | ⟨_, rfl⟩⟩ := rc_inv hj <;> rfl
theorem rc_set {l : List Rd} {k : Nat} {r : Rd} (h : l[k]? = some r) (A : Option Addr) (m c : Nat) (st : List Int) : rCells (l.set k ⟨r.tr, A, m, c, st⟩) = (rCells l).set (k * 2 + 1) (.slice A m c) := by
  induction l generalizing k with
  | nil => simp at h
  | cons a l ih =>
    cases k with
    | zero => simp at h; subst h; rfl
    | succ k =>
      rw [rc_cons, List.set_cons_succ, rc_cons, ih (by simpa using h), show (k + 1) * 2 + 1 = k * 2 + 1 + 1 + 1 by omega]
      simp
theorem add_two (ad : Addr) (k : Nat) : (⟨(ad.add (k * 2)).block, (ad.add (k * 2)).off + 1, none⟩ : Addr) = ad.add (k * 2 + 1) := by
  rw [← add_plus, add_field _ 1 (by omega)]
theorem RowsR.cells {W : World} {ad : Addr} {l : List Rd} (h : RowsR W (some ad) l) {j : Nat} {u : Value} (hu : (rCells l)[j]? = some u) : W.cell? (ad.add j) = some u := by
  obtain ⟨k, r, h1, h2⟩ := rc_inv hu
  obtain ⟨ad', e, c0, c1⟩ := h k r h1
  obtain rfl := Option.some.inj e
  rcases h2 with ⟨rfl, rfl⟩ | ⟨rfl, rfl⟩
  · exact c0
  · rw [← add_two]; exact c1
theorem RowsR.of {W : World} {ad : Addr} {l : List Rd} (h : ∀ (j : Nat) (u : Value), (rCells l)[j]? = some u → W.cell? (ad.add j) = some u) : RowsR W (some ad) l := fun k r hr => by
  obtain ⟨h1, h2⟩ := rc_at hr
  exact ⟨ad, rfl, h _ _ h1, by rw [add_two]; exact h _ _ h2⟩
theorem RowsR.take {W : World} {A : Option Addr} {l : List Rd} (h : RowsR W A l) (k : Nat) : RowsR W A (l.take k) := fun j r hr => by
  refine h j r ?_
  by_cases hj : j < k
  · rwa [List.getElem?_take_of_lt hj] at hr
  · rw [List.getElem?_eq_none (by rw [List.length_take]; omega)] at hr; cases hr
theorem RowsR.drop {W : World} {ad : Addr} {l : List Rd} (h : RowsR W (some ad) l) (k : Nat) : RowsR W (some (ad.add (k * 2))) (l.drop k) := fun j r hr => by
  rw [List.getElem?_drop] at hr
  obtain ⟨ad', e, c0, c1⟩ := h (k + j) r hr
  obtain rfl := Option.some.inj e
  have e2 : (ad.add (k * 2)).add (j * 2) = ad.add ((k + j) * 2) := by rw [add_plus]; congr 1; omega
  exact ⟨_, rfl, by rw [e2]; exact c0, by rw [e2]; exact c1⟩

theorem route_info : (Try.prog.info? 78).map (fun i => (i.zero, i.size, i.bytes)) = some (some (.agg #[.int .i64 0, .slice none 0 0]), 2, 32) := by kernel_rfl
def OwnQ (W : World) (base : Nat) (v : Value) (l : List Rd) : Prop := W.ownsRow base 78 2 v l.length (rCells l)
theorem ownQ_nil (W : World) (base : Nat) : OwnQ W base (.slice none 0 0) [] := ⟨by simp [rCells], .inl ⟨rfl, rfl⟩⟩
theorem ownQ_none (W : World) (base : Nat) (h : base ≤ W.heap.size) : OwnQ (W.alloc (.cells #[] 78)) base (.slice (some ⟨W.heap.size, 0, none⟩) 0 0) [] :=
  ⟨by simp [rCells], .inr ⟨W.heap.size, 0, #[], rfl, h, heap_alloc_new W _, Nat.le_refl _, by decide, by simp, by simp [rCells]⟩⟩
theorem OwnQ.row {W : World} {base : Nat} {v : Value} {l : List Rd} (h : OwnQ W base v l) : ∃ A c, v = .slice A l.length c ∧ l.length ≤ c ∧ c ≤ maxLen ∧ RowsR W A l ∧ ∀ ad, A = some ad → base ≤ ad.block ∧ ad.block < W.heap.size ∧ ad.off = 0 ∧ ad.spot = none := by
  have h' := h
  rcases h'.2 with ⟨rfl, h2⟩ | ⟨g, cap, cur, rfl, hbg, hg, hnc, hcm, _⟩
  · have : l = [] := List.eq_nil_of_length_eq_zero h2
    subst this
    exact ⟨none, 0, rfl, Nat.le_refl _, by decide, RowsR.nil _ _, fun ad e => by cases e⟩
  · refine ⟨_, cap, rfl, hnc, hcm, RowsR.of fun j u hu => h.cells (g := g) rfl j _ hu, fun ad e => ?_⟩
    obtain rfl := Option.some.inj e
    exact ⟨hbg, (Array.getElem?_eq_some_iff.1 hg).1, rfl, rfl⟩
theorem OwnQ.put {W W' : World} {base : Nat} {v : Value} {l : List Rd} (h : OwnQ W base v l) (hb : ∀ k, base ≤ k → k < W.heap.size → W'.heap[k]? = W.heap[k]?) : OwnQ W' base v l := by
  obtain ⟨h1, h2⟩ := h
  refine ⟨h1, ?_⟩
  rcases h2 with h2 | ⟨g, cap, cur, hv, hg, hh, r⟩
  · exact .inl h2
  · exact .inr ⟨g, cap, cur, hv, hg, (hb g hg (Array.getElem?_eq_some_iff.1 hh).1).trans hh, r⟩
theorem OwnQ.below {W W' : World} {base : Nat} {v : Value} {l : List Rd} (h : OwnQ W base v l) (hb : Below W.heap.size W W') : OwnQ W' base v l := h.put fun k _ hk => hb.block k hk
/-- its block as it is, whatever else turned -/
theorem OwnQ.at_ {W W' : World} {base g n c : Nat} {l : List Rd} (h : OwnQ W base (.slice (some ⟨g, 0, none⟩) n c) l) (hb : W'.heap[g]? = W.heap[g]?) : OwnQ W' base (.slice (some ⟨g, 0, none⟩) n c) l := by
  obtain ⟨h1, h2⟩ := h
  refine ⟨h1, ?_⟩
  rcases h2 with ⟨e, _⟩ | ⟨g', cap, cur, hv, hg, hh, r⟩
  · cases e
  · have hv' := hv
    injection hv' with hv' _ _
    have e : g = g' := by injection hv' with hv'; injection hv' with hv'
    rw [e] at hb
    exact .inr ⟨g', cap, cur, hv, hg, hb.trans hh, r⟩
theorem OwnQ.set {W : World} {base g n c : Nat} {l : List Rd} (h : OwnQ W base (.slice (some ⟨g, 0, none⟩) n c) l) {k : Nat} {r : Rd} (hr : l[k]? = some r) (A : Option Addr) (m c' : Nat) (st : List Int) :
    OwnQ (W.setCell ⟨g, k * 2 + 1, none⟩ (.slice A m c')) base (.slice (some ⟨g, 0, none⟩) n c) (l.set k ⟨r.tr, A, m, c', st⟩) := by
  obtain ⟨h1, h2⟩ := h
  have hk : k < l.length := (List.getElem?_eq_some_iff.1 hr).1
  have hx := rc_set hr A m c' st
  unfold OwnQ
  rw [hx, List.length_set]
  refine ⟨by rw [List.length_set]; exact h1, ?_⟩
  rcases h2 with ⟨e, _⟩ | ⟨g', cap, cur, hv, hg, hh, hnc, hcm, hcs, hct⟩
  · cases e
  · have hv' := hv
    injection hv with hv e2 e3
    obtain rfl : g = g' := by injection hv with hv; injection hv with hv
    refine .inr ⟨g, cap, cur.setIfInBounds (k * 2 + 1) (.slice A m c'), hv', hg, ?_, hnc, hcm, by simpa using hcs, ?_⟩
    · rw [setCell_eq_setRow W g _ _ _ _ _ hh, setRow_heap W g _ _ _ _ hh]
    · rw [Array.toList_setIfInBounds, List.take_set, hct]
theorem OwnQ.fz {W : World} {base g n c : Nat} {l : List Rd} (h : OwnQ W base (.slice (some ⟨g, 0, none⟩) n c) l) (k : Nat) : W.frozen? ⟨g, k, none⟩ = false := by
  obtain ⟨h1, h2⟩ := h
  rcases h2 with ⟨e, _⟩ | ⟨g', cap, cur, hv, hg, hh, _⟩
  · cases e
  · injection hv with hv _ _
    obtain rfl : g = g' := by injection hv with hv; injection hv with hv
    unfold World.frozen?; rw [hh]; simp

theorem ownq_app {W : World} {base : Nat} {v : Value} {l : List Rd} (h : OwnQ W base v l) (hb : base ≤ W.heap.size) (A : Option Addr) (m c : Nat) (b : List Rd) (hm : b.length = m) (hby : RowsR W A b) (hs : l.length + m ≤ 100000) (M : Nat) (hM : (l ++ b).length = M) :
    ∃ v' w', (Builtin.append_ #[43, 43] 43 #[v, .slice A m c]).run Try.prog W = .ok v' w' ∧ ∃ A' c', v' = .slice A' M c' ∧ Hid (OwnQ w' base (.slice A' M c') (l ++ b) ∧ Below base W w') := by
  obtain ⟨i0, hi0, hz0, hz1, hz2⟩ := info_parts4 route_info
  have hM' : l.length + m = M := by rw [← hM, List.length_append, hm]
  cases A with
  | none =>
    have hl0 : b = [] := by
      cases b with
      | nil => rfl
      | cons z b =>
        obtain ⟨ad, h1, _⟩ := hby 0 z rfl
        cases h1
    subst hl0
    obtain rfl : m = 0 := by simpa using hm.symm
    obtain rfl : l.length = M := by simpa using hM
    rw [List.append_nil]
    obtain ⟨A', c', e, _⟩ := h.row
    refine ⟨v, W, ?_, A', c', e, by rw [← e]; exact h, Below.refl _ _⟩
    rcases h.2 with ⟨rfl, h0⟩ | ⟨g, cap, cur, rfl, _, _, hnc, _⟩
    · simp [Builtin.append_, run_underlying Try.underlying43, sizeOf, typeInfo, hi0, Builtin.lenOf, Builtin.firstCells]
    · simp [Builtin.append_, run_underlying Try.underlying43, sizeOf, typeInfo, hi0, Builtin.lenOf, Builtin.firstCells, hnc, storeCells]
  | some ad =>
    obtain ⟨v', w', h1, h2, h3, _⟩ := run_append_own (P := Try.prog) W base 43 43 78 i0 _ 2 32 Try.underlying43 hi0 hz0 hz1 hz2 rfl (by omega) v l.length (rCells l) h ad m c (rCells b) (by rw [rc_len, hm])
      (fun j u hu => hby.cells hu) rc_one (by unfold maxLen; omega) (by omega) hb
    have ho : OwnQ w' base v' (l ++ b) := by unfold OwnQ; rw [List.length_append, hm, rc_app]; exact h2
    obtain ⟨A', c', e, _⟩ := ho.row
    rw [hM] at e
    refine ⟨v', w', h1, A', c', e, by rw [← e]; exact ho, ?_⟩
    exact ⟨h3.os, h3.tape, h3.output, h3.size, fun k hk => h3.block k (Nat.lt_of_lt_of_le hk hb) (fun e => by have := (h.lt k e.symm).1; omega)⟩
end Go.Proofs.Ytbacakblboodeaa
