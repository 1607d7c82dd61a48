/- append(append([][]byte{}, sure...), b): a row of records made anew, in whatever order its parts are made. -/
import Derived.Test.YtoocifoglhhnmaaLogAw
namespace Go.Proofs.Ytoocifoglhhnmaa
open Go.RowKit
set_option linter.unusedVariables false

theorem vals_app (W : World) (base : Nat) (v : Value) (n : Nat) (vs : List Value) (h : W.ownsRow base 38 1 v n vs) (hbase : base ≤ W.heap.size) (A : Option Addr) (m c : Nat) (news : List Value) (hm : news.length = m) (hn : n + m ≤ 100000) (hc : ∀ j u, news[j]? = some u → ∃ ad, A = some ad ∧ W.cell? (ad.add j) = some u) (h1 : ∀ u ∈ news, u.oneCell' = true) :
    ∃ v' w', (Builtin.append_ #[45, 45] 45 #[v, .slice A m c]).run Try.prog W = .ok v' w' ∧ w'.ownsRow base 38 1 v' (n + m) (vs ++ news) ∧ Kept (fun i => v.ownBlock = some i) W w' := by
  obtain ⟨i0, hi0, hz0, hz1, hz2⟩ := info_parts3 row_info
  cases A with
  | none =>
    have hl0 : news = [] := by
      cases news with
      | nil => rfl
      | cons b l => obtain ⟨ad, e, _⟩ := hc 0 b rfl; cases e
    subst hl0
    obtain rfl : m = 0 := by simpa using hm.symm
    refine ⟨v, W, ?_, by simpa using h, Kept.refl _ _⟩
    rcases h.2 with ⟨rfl, rfl⟩ | ⟨g, cap, cur, rfl, _, _, hnc, _⟩
    · simp [Builtin.append_, run_underlying Try.underlying45, sizeOf, typeInfo, hi0, Builtin.lenOf, Builtin.firstCells]
    · simp [Builtin.append_, run_underlying Try.underlying45, sizeOf, typeInfo, hi0, Builtin.lenOf, Builtin.firstCells, hnc, storeCells]
  | some ad =>
    obtain ⟨v', w', k1, k2, k3, _⟩ := run_append_own (P := Try.prog) W base 45 45 38 i0 _ 1 24 Try.underlying45 hi0 hz0 hz1 hz2 rfl (by omega) v n vs h ad m c news (by rw [hm, Nat.mul_one])
      (fun j u hu => by obtain ⟨ad', e, hh⟩ := hc j u hu; obtain rfl := Option.some.inj e; exact hh) h1 (by unfold maxLen; omega) (by omega) hbase
    exact ⟨v', w', k1, k2, (Kept.refl _ W).grown k3 (fun k hk => .inl hk)⟩

theorem list_of' {α : Type} (P : Nat → α → Prop) : ∀ (n : Nat), (∀ i, i < n → ∃ v, P i v) → ∃ l : List α, l.length = n ∧ ∀ (i : Nat) (v : α), l[i]? = some v → P i v := by
  intro n
  induction n with
  | zero => intro _; exact ⟨[], rfl, fun i v h => by simp at h⟩
  | succ n ih =>
    intro h
    obtain ⟨l, hl, hp⟩ := ih fun i hi => h i (by omega)
    obtain ⟨v, hv⟩ := h n (by omega)
    refine ⟨l ++ [v], by simp [hl], fun i x hx => ?_⟩
    by_cases hi : i < l.length
    · rw [List.getElem?_append_left hi] at hx
      exact hp i x hx
    · rw [List.getElem?_append_right (by omega)] at hx
      have h0 : i - l.length = 0 := by
        rcases Nat.eq_zero_or_pos (i - l.length) with h0 | h0
        · exact h0
        · rw [List.getElem?_eq_none (by simp; omega)] at hx; cases hx
      rw [h0] at hx
      simp at hx
      subst hx
      obtain rfl : i = n := by omega
      exact hv

/-- the values of a row of records -/
theorem row_vals {F : Nat → Prop} {W : World} {A : Option Addr} {rs : List Dk.Bs} (h : RowIn F W A rs) : ∃ vs : List Value, vs.length = rs.length ∧ (∀ (j : Nat) (u : Value), vs[j]? = some u → ∃ ad, A = some ad ∧ ad.block < W.heap.size ∧ W.cell? (ad.add j) = some u) ∧ (∀ (j : Nat) (r : Dk.Bs), rs[j]? = some r → ∃ u, vs[j]? = some u ∧ SlIn F W u r) ∧ (∀ u ∈ vs, u.oneCell' = true) := by
  obtain ⟨vs, hl, hv⟩ := list_of' (fun i v => ∃ r, rs[i]? = some r ∧ SlIn F W v r ∧ ∃ ad, A = some ad ∧ ad.block < W.heap.size ∧ W.cell? (ad.add i) = some v) rs.length (fun i hi => by
    obtain ⟨r, hr⟩ := some_at rs i hi
    obtain ⟨ad, v, e, h1, h2, h3, h4⟩ := h i r hr
    exact ⟨v, r, hr, h4, ad, e, h1, h3⟩)
  refine ⟨vs, hl, fun j u hu => ?_, fun j r hr => ?_, fun u hu => ?_⟩
  · obtain ⟨r, _, _, ad, e, h1, h2⟩ := hv j u hu
    exact ⟨ad, e, h1, h2⟩
  · obtain ⟨u, hu⟩ := some_at vs j (by rw [hl]; exact (List.getElem?_eq_some_iff.1 hr).1)
    obtain ⟨r', hr', hs, _⟩ := hv j u hu
    rw [hr] at hr'
    obtain rfl := Option.some.inj hr'
    exact ⟨u, hu, hs⟩
  · obtain ⟨j, hj⟩ := List.getElem?_of_mem hu
    obtain ⟨r, _, ⟨B, c, e, _⟩, _⟩ := hv j u hj
    subst e
    rfl

/-- what it all leaves -/
def WayR (W : World) (F : Nat → Prop) (rs : List Dk.Bs) (v : Value) (w' : World) : Prop := ∃ A c, v = .slice A rs.length c ∧ Hid (RowIn F w' A rs ∧ Below W.heap.size W w')

/-- the second append's run, at a world -/
def Step2 (W : World) (F : Nat → Prop) (rs : List Dk.Bs) (q : Nat) (v1 : Value) (w1 : World) : Prop :=
  ∃ v2 w2, (Builtin.append_ #[45, 45] 45 #[v1, .slice (some ⟨q, 0, none⟩) 1 1]).run Try.prog w1 = .ok v2 w2 ∧ WayR W F rs v2 w2

theorem way_two {W w1 : World} {F : Nat → Prop} {rs : List Dk.Bs} {vs : List Value} {v1 : Value} {q : Nat} {SA : Option Addr} {Sm Sc : Nat} {b : Dk.Bs} (hF : ∀ i, F i → i < W.heap.size) (hlen : rs.length ≤ 50000) (ho : w1.ownsRow W.heap.size 38 1 v1 rs.length vs) (hk : Kept No W w1)
    (hv : ∀ (j : Nat) (r : Dk.Bs), rs[j]? = some r → ∃ u, vs[j]? = some u ∧ SlIn F W u r) (hb : SlIn F W (.slice SA Sm Sc) b) (hq : w1.cell? ⟨q, 0, none⟩ = some (.slice SA Sm Sc)) : Step2 W F (rs ++ [b]) q v1 w1 := by
  obtain ⟨v2, w2, h1, h2, h3⟩ := vals_app w1 W.heap.size v1 rs.length vs ho hk.size (some ⟨q, 0, none⟩) 1 1 [.slice SA Sm Sc] rfl (by omega) (fun j u hu => by
    match j, hu with
    | 0, hu => obtain rfl := Option.some.inj hu; exact ⟨_, rfl, hq⟩
    | j + 1, hu => simp at hu) (by intro u hu; simp at hu; subst hu; rfl)
  have hk2 : Kept No W w2 := hk.step h3 (fun i hi e => by have := (ho.lt i e).1; omega)
  obtain ⟨A2, c2, e2, _, _, hc2, _⟩ := ownsRow_slice h2
  refine ⟨v2, w2, h1, A2, c2, by rw [e2]; simp, fun k r hr => ?_, hk2.below (Below.refl _ _) (Nat.le_refl _) (fun _ _ => id)⟩
  have hsl : ∀ u r, SlIn F W u r → SlIn F w2 u r := fun u r h => (h.keep (hk2.wide (fun _ _ => False.elim)))
  have hvl : vs.length = rs.length := by simpa using ho.1
  by_cases hkl : k < rs.length
  · rw [List.getElem?_append_left hkl] at hr
    obtain ⟨u, hu, hs⟩ := hv k r hr
    obtain ⟨ad, e3, e4, e5, e6⟩ := hc2 F hF k u (by rw [List.getElem?_append_left (by omega)]; exact hu)
    exact ⟨ad, u, e3, e4, e5, e6, hsl u r hs⟩
  · have hkk : k = rs.length := by have := (List.getElem?_eq_some_iff.1 hr).1; simp at this; omega
    subst hkk
    rw [List.getElem?_append_right (Nat.le_refl _), Nat.sub_self] at hr
    obtain rfl := Option.some.inj hr
    obtain ⟨ad, e3, e4, e5, e6⟩ := hc2 F hF rs.length (.slice SA Sm Sc) (by rw [List.getElem?_append_right (by omega), hvl, Nat.sub_self]; rfl)
    exact ⟨ad, _, e3, e4, e5, e6, hsl _ _ hb⟩

/-- the first append, at a world that holds no more than W and new blocks -/
theorem way_one {W W' : World} {F : Nat → Prop} {A : Option Addr} {rs : List Dk.Bs} {c p : Nat} (hF : ∀ i, F i → i < W.heap.size) (hlen : rs.length ≤ 50000) (hrow : RowIn F W A rs) (hk : Kept No W W') (hp : W'.heap[p]? = some (.cells #[] 38 (0, 0))) (hpl : W.heap.size ≤ p) :
    ∃ vs v1 w1, (Builtin.append_ #[45, 45] 45 #[.slice (some ⟨p, 0, none⟩) 0 0, .slice A rs.length c]).run Try.prog W' = .ok v1 w1 ∧ w1.ownsRow W.heap.size 38 1 v1 rs.length vs ∧ Kept (fun i => i = p) W' w1 ∧ (∀ (j : Nat) (r : Dk.Bs), rs[j]? = some r → ∃ u, vs[j]? = some u ∧ SlIn F W u r) := by
  obtain ⟨vs, hl, hc, hv, h1⟩ := row_vals hrow
  have ho : W'.ownsRow W.heap.size 38 1 (.slice (some ⟨p, 0, none⟩) 0 0) 0 [] := ⟨by simp, .inr ⟨p, 0, #[], rfl, hpl, hp, Nat.le_refl _, by decide, by simp, by simp⟩⟩
  obtain ⟨v1, w1, k1, k2, k3⟩ := vals_app W' W.heap.size _ 0 [] ho hk.size A rs.length c vs hl (by omega) (fun j u hu => by
    obtain ⟨ad, e, hb, hh⟩ := hc j u hu
    exact ⟨ad, e, (hk.cell (by rw [block_add]; exact hb) id).trans hh⟩) h1
  rw [Nat.zero_add, List.nil_append] at k2
  exact ⟨vs, v1, w1, k1, k2, k3.wide (fun i _ e => by simp [Value.ownBlock] at e; exact e.symm), hv⟩

theorem way_all {W : World} {F : Nat → Prop} {A : Option Addr} {rs : List Dk.Bs} {c : Nat} {SA : Option Addr} {Sm Sc : Nat} {b : Dk.Bs} (hF : ∀ i, F i → i < W.heap.size) (hlen : rs.length ≤ 50000) (hrow : RowIn F W A rs) (hb : SlIn F W (.slice SA Sm Sc) b) :
    (∃ v1 w1, (Builtin.append_ #[45, 45] 45 #[.slice (some ⟨W.heap.size, 0, none⟩) 0 0, .slice A rs.length c]).run Try.prog (W.alloc (.cells #[] 38)) = .ok v1 w1 ∧ (Step2 W F (rs ++ [b]) w1.heap.size v1 (w1.alloc (.cells #[.slice SA Sm Sc] 38)) ∧ Hid (Kept No W w1))) ∧
    (∃ v1 w1, (Builtin.append_ #[45, 45] 45 #[.slice (some ⟨W.heap.size, 0, none⟩) 0 0, .slice A rs.length c]).run Try.prog ((W.alloc (.cells #[] 38)).alloc (.cells #[.slice SA Sm Sc] 38)) = .ok v1 w1 ∧ (Step2 W F (rs ++ [b]) (W.heap.size + 1) v1 w1 ∧ Hid (Kept No W w1))) ∧
    (∃ v1 w1, (Builtin.append_ #[45, 45] 45 #[.slice (some ⟨W.heap.size + 1, 0, none⟩) 0 0, .slice A rs.length c]).run Try.prog ((W.alloc (.cells #[.slice SA Sm Sc] 38)).alloc (.cells #[] 38)) = .ok v1 w1 ∧ (Step2 W F (rs ++ [b]) W.heap.size v1 w1 ∧ Hid (Kept No W w1))) := by
  refine ⟨?_, ?_, ?_⟩
  · obtain ⟨vs, v1, w1, k1, k2, k3, k4⟩ := way_one (c := c) hF hlen hrow ((Kept.refl No W).alloc (.cells #[] 38)) (heap_alloc_new W _) (Nat.le_refl _)
    have hk1 : Kept No W w1 := ((Kept.refl No W).alloc _).step k3 (fun i hi e => by omega)
    refine ⟨v1, w1, k1, way_two hF hlen ?_ (hk1.alloc _) k4 hb ?_, hk1⟩
    · exact own_keep k2 ((Kept.refl No w1).alloc _) (fun _ _ => id)
    · rw [cell_of_row _ w1.heap.size 0 _ _ _ (heap_alloc_new w1 _)]; rfl
  · have hbb := heap_alloc_new (W.alloc (.cells #[] 38)) (.cells #[.slice SA Sm Sc] 38)
    rw [show (W.alloc (.cells #[] 38)).heap.size = W.heap.size + 1 by simp] at hbb
    obtain ⟨vs, v1, w1, k1, k2, k3, k4⟩ := way_one (c := c) (p := W.heap.size) hF hlen hrow (((Kept.refl No W).alloc (.cells #[] 38)).alloc (.cells #[.slice SA Sm Sc] 38)) (by rw [Below.heap_alloc _ _ _ (by simp)]; exact heap_alloc_new W _) (Nat.le_refl _)
    have hk1 : Kept No W w1 := (((Kept.refl No W).alloc _).alloc _).step k3 (fun i hi e => by omega)
    refine ⟨v1, w1, k1, way_two hF hlen k2 hk1 k4 hb ?_, hk1⟩
    rw [cell_of_row w1 (W.heap.size + 1) 0 _ _ _ ((k3.block (W.heap.size + 1) (Array.getElem?_eq_some_iff.1 hbb).1 (by omega)).trans hbb)]; rfl
  · have hbb : ((W.alloc (.cells #[.slice SA Sm Sc] 38)).alloc (.cells #[] 38)).heap[W.heap.size]? = some (.cells #[.slice SA Sm Sc] 38 (0, 0)) := by rw [Below.heap_alloc _ _ _ (by simp)]; exact heap_alloc_new W _
    have hpp := heap_alloc_new (W.alloc (.cells #[.slice SA Sm Sc] 38)) (.cells #[] 38)
    rw [show (W.alloc (.cells #[.slice SA Sm Sc] 38)).heap.size = W.heap.size + 1 by simp] at hpp
    obtain ⟨vs, v1, w1, k1, k2, k3, k4⟩ := way_one (c := c) (p := W.heap.size + 1) hF hlen hrow (((Kept.refl No W).alloc (.cells #[.slice SA Sm Sc] 38)).alloc (.cells #[] 38)) hpp (by omega)
    have hk1 : Kept No W w1 := (((Kept.refl No W).alloc _).alloc _).step k3 (fun i hi e => by omega)
    refine ⟨v1, w1, k1, way_two hF hlen k2 hk1 k4 hb ?_, hk1⟩
    rw [cell_of_row w1 W.heap.size 0 _ _ _ ((k3.block W.heap.size (Array.getElem?_eq_some_iff.1 hbb).1 (by omega)).trans hbb)]; rfl

end Go.Proofs.Ytoocifoglhhnmaa
