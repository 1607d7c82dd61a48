/- What is read of an argument that is a plan; more than the statements look at. -/
import Derived.Test.YtbacakblboodeaaPlanRow
import Derived.Test.YtbacakblboodeaaPlanC
import Derived.Test.YtbacakblboodeaaRouteOpen
namespace Go.Proofs.Ytbacakblboodeaa
open Go.ChangeShapes Go.WideShapes Go.ChangeAt Go.RowKit Go.Deep
set_option linter.unusedVariables false
set_option maxRecDepth 100000

theorem cells_route : Try.prog.cellsOf 78 = 2 := by kernel_rfl
theorem bytesIntP : Try.prog.bytesOf 3 = 8 := by kernel_rfl
theorem pweights_mem {H : Type} {P : Program} {e : TypeId} {x : Nat} {d : DataW H} : ∀ {ds : List (DataW H)}, d ∈ ds → x ∈ d.weights P e → x ∈ DataW.weightsAll P e ds := by
  intro ds
  induction ds with
  | nil => intro h; cases h
  | cons y ds ih =>
    intro h hx
    rw [DataW.weightsAll, List.mem_append]
    rcases List.mem_cons.1 h with rfl | h
    · exact .inl hx
    · exact .inr (ih h hx)
theorem ints_field_w {H : Type} {enc : TypeId × Value → H} {W : World} {fuel : Nat} {v : Value} {y : DataW H × List MemPlace}
    (hf : DataW.trod enc Try.prog W 0 (fun _ => true) true fuel 29 [v] = some y) :
    ∃ (A : Option Addr) (m cap : Nat) (l : List Int), v = .slice A m cap ∧ l.length = m ∧ m ≤ cap ∧ cap ≤ maxLen ∧ IntsAt W A l ∧ (cap = 0 ∨ cap * 8 ∈ y.1.weights Try.prog 29) := by
  rcases open_ints Try.underlying29 Try.underlying3 (by kernel_rfl) hf with ⟨hcs, _⟩ | ⟨x, l, c, zs, hcs, _, hl, hm, hz, hy, hcell, hwz⟩
  · obtain rfl : v = .slice none 0 0 := by simpa using hcs
    exact ⟨none, 0, 0, [], rfl, rfl, Nat.le_refl _, by decide, IntsAt.nil _ _, .inl rfl⟩
  · obtain rfl : v = .slice (some x) l c := by simpa using hcs
    have hz' : zs.length = c := by simpa using hz
    refine ⟨some x, l, c, zs.take l, rfl, by rw [List.length_take]; omega, hl, hm, ints_of_open hz' hl hcell, .inr ?_⟩
    rw [hy]
    simp only [DataW.weights, Try.underlying29, bytesIntP]
    simp [lits]
    left
    omega
/-- one of the list -/
structure OneR {H : Type} (W : World) (x : Addr) (D : Nat → DataW H) (i : Nat) (v : Rd) : Prop where
  c0 : W.cell? (x.add (i * 2)) = some (.int .i64 v.tr)
  c1 : W.cell? (x.add (i * 2 + 1)) = some (.slice v.sA v.sm v.sc)
  rt : RouteIn W v
  wt : v.sc = 0 ∨ v.sc * 8 ∈ (D i).weights Try.prog 78

theorem routes_field {H : Type} {enc : TypeId × Value → H} {W : World} {fuel : Nat} {v : Value} {y : DataW H × List MemPlace}
    (hf : DataW.trod enc Try.prog W 0 (fun _ => true) true fuel 43 [v] = some y) :
    ∃ (A : Option Addr) (m c : Nat) (l : List Rd), v = .slice A m c ∧ l.length = m ∧ m ≤ c ∧ c ≤ maxLen ∧ RowsR W A l ∧ (∀ r ∈ l, RouteIn W r) ∧ ∀ r ∈ l, r.sc = 0 ∨ r.sc * 8 ∈ y.1.weights Try.prog 43 := by
  rcases open_slice Try.underlying43 hf with ⟨hcs, _⟩ | ⟨x, l, c, m, n, D, Pl, hcs, _, hl, hm, hmm, hx, hi⟩
  · obtain rfl : v = .slice none 0 0 := by simpa using hcs
    exact ⟨none, 0, 0, [], rfl, rfl, Nat.le_refl _, by decide, RowsR.nil _ _, (fun r hr => by cases hr), fun r hr => by cases hr⟩
  · obtain rfl : v = .slice (some x) l c := by simpa using hcs
    simp at hmm
    subst hmm
    have hone : ∀ i, i < l → ∃ v : Rd, OneR W x D i v := by
      intro i hil
      obtain ⟨cs', hc, ht⟩ := hi i (by omega)
      rw [cells_route] at hc
      obtain ⟨ys, n', _, hy, hlen, hyl, hfs⟩ := DataW.trod_struct Try.underlying78 ht
      obtain ⟨_, hcl, hat⟩ := World.cells?_some hc
      have h0 := hfs 0 _ rfl
      have h1 := hfs 1 _ rfl
      match cs', hcl with
      | [c0, c1], _ =>
        match ys, hyl with
        | [y0, y1], _ =>
          have g0 : DataW.trod enc Try.prog W 0 (fun _ => true) true n' 3 [c0] = some y0 := by simpa [cellsInt, cellsInts] using h0
          have g1 : DataW.trod enc Try.prog W 0 (fun _ => true) true n' 29 [c1] = some y1 := by simpa [cellsInt, cellsInts] using h1
          obtain ⟨z0, e0, _, _⟩ := DataW.trod_int Try.underlying3 g0
          obtain ⟨A, m, cp, st, hs, d1, d2, d3, d4, hwt⟩ := ints_field_w g1
          simp at e0
          subst e0 hs
          refine ⟨⟨z0, A, m, cp, st⟩, ?_, ?_, ⟨d1, d2, d3, d4⟩, ?_⟩
          · have := hat 0 (by omega)
            rw [add_plus, Nat.add_zero] at this
            simpa using this
          · have := hat 1 (by omega)
            rw [add_plus] at this
            simpa using this
          · simp only [Prod.mk.injEq] at hy
            rcases hwt with h | h
            · exact .inl h
            · right
              rw [hy.1]
              simp only [DataW.weights, Try.underlying78]
              simp [DataW.weightsEach]
              exact .inr h
    obtain ⟨vs, hvl, hvs⟩ := list_of (OneR W x D) l hone
    refine ⟨some x, l, _, vs, rfl, hvl, hl, hm, RowsR.of fun j u hu => ?_, fun r hr => ?_, fun r hr => ?_⟩
    · obtain ⟨k, r, h1, ⟨rfl, rfl⟩ | ⟨rfl, rfl⟩⟩ := rc_inv hu
      · exact (hvs k r h1).c0
      · exact (hvs k r h1).c1
    · obtain ⟨k, hk⟩ := List.getElem?_of_mem hr
      exact (hvs k r hk).rt
    · obtain ⟨k, hk⟩ := List.getElem?_of_mem hr
      have o := hvs k r hk
      have hil : k < l := by have := (List.getElem?_eq_some_iff.1 hk).1; omega
      rcases o.wt with h | h
      · exact .inl h
      · right
        rw [hx]
        simp only [DataW.weights, Try.underlying43]
        exact List.mem_cons_of_mem _ (List.mem_append_left _ (pweights_mem (d := D k) (List.mem_map.2 ⟨k, List.mem_range.2 hil, rfl⟩) h))

/-- a plan that came in -/
structure PlanIn (W : World) (p : Pd) : Prop where
  rl : p.rs.length = p.rm
  rx : p.rm ≤ maxLen
  rc : p.rm ≤ p.rc
  rows : RowsR W p.rA p.rs
  ra : ∀ r ∈ p.rs, RouteIn W r
  ul : p.us.length = p.um
  ux : p.um ≤ maxLen
  us : IntsAt W p.uA p.us
/-- its stops are not too many to be counted -/
def Few (p : Pd) : Prop := ∀ r ∈ p.rs, r.sm ≤ 140737488355328

theorem open_plan_in {H : Type} {enc : TypeId × Value → H} {W : World} {v : Value} {d : DataW H} {q : List MemPlace} {b0 : Nat}
    (hv : Value.okWide Try.prog W .any b0 45 v) (h : DataW.Trod enc Try.prog W 0 (fun _ => true) true 45 v d q) :
    ∃ p : Pd, v = .agg #[.slice p.rA p.rm p.rc, .slice p.uA p.um p.uc] ∧ PlanIn W p ∧ ∀ r ∈ p.rs, r.sc = 0 ∨ r.sc * 8 ∈ d.weights Try.prog 45 := by
  obtain ⟨v0, v1, y0, y1, n, rfl, rfl, _, t0, t1⟩ := Go.Joins.open_agg2 Try.underlying45 (by kernel_rfl) (by kernel_rfl) hv h
  obtain ⟨A, m, c, l, rfl, d1, d2, d3, d4, d5, d6⟩ := routes_field t0
  obtain ⟨B, k, c', us, rfl, e1, e2, e3, e4⟩ := ints_field t1
  refine ⟨⟨A, m, c, l, B, k, c', us⟩, rfl, ⟨d1, Nat.le_trans d2 d3, d2, d4, d5, e1, Nat.le_trans e2 e3, e4⟩, fun r hr => ?_⟩
  rcases d6 r hr with h | h
  · exact .inl h
  · right
    simp only [DataW.weights, Try.underlying45]
    simp [DataW.weightsEach]
    exact .inl h

/-- how much a plan is -/
def many : Nat → List Rd → Nat
  | n, [] => n
  | n, r :: l => many (n + r.sm + 1) l
def LargeP (p : Pd) : Prop := 200 < many p.um p.rs
theorem many_le (l : List Rd) : ∀ n, n ≤ many n l := by
  induction l with
  | nil => intro n; exact Nat.le_refl _
  | cons r l ih => intro n; exact Nat.le_trans (by omega) (ih (n + r.sm + 1))
theorem many_eq (l : List Rd) : ∀ n, many n l = n + (l.map fun r => r.sm + 1).sum := by
  induction l with
  | nil => intro n; rfl
  | cons r l ih => intro n; rw [many, ih]; simp only [List.map_cons, List.sum_cons]; omega
theorem many_take {l : List Rd} {k : Nat} {r : Rd} (h : l[k]? = some r) (n : Nat) : many n (l.take (k + 1)) = many n (l.take k) + r.sm + 1 := by
  rw [many_eq, many_eq, List.take_add_one, h]
  simp only [Option.toList_some, List.map_append, List.sum_append, List.map_cons, List.map_nil, List.sum_cons, List.sum_nil]
  omega
theorem many_split (l : List Rd) (k n : Nat) : many n (l.take k) ≤ many n l := by
  rw [many_eq, many_eq]
  have : (l.map fun r => r.sm + 1).sum = ((l.take k).map fun r => r.sm + 1).sum + ((l.drop k).map fun r => r.sm + 1).sum := by rw [← List.sum_append, ← List.map_append, List.take_append_drop]
  omega
theorem many_all {l : List Rd} {r : Rd} (hr : r ∈ l) (n : Nat) : n + r.sm + 1 ≤ many n l := by
  obtain ⟨k, hk⟩ := List.getElem?_of_mem hr
  have h1 := many_take hk n
  have h2 := many_split l (k + 1) n
  have h3 := many_le (l.take k) n
  omega
theorem many_len (l : List Rd) (n : Nat) : n + l.length ≤ many n l := by
  rw [many_eq]
  induction l with
  | nil => simp
  | cons r l ih => simp only [List.map_cons, List.sum_cons, List.length_cons]; omega
theorem many_stops (l : List Rd) (h : ∀ r ∈ l, r.st.length = r.sm) (n : Nat) : (Pl.stops (ros l)).length ≤ many n l := by
  rw [many_eq]
  induction l with
  | nil => simp [ros, Pl.stops]
  | cons r l ih =>
    have h1 := ih fun x hx => h x (by simp [hx])
    have h2 := h r (by simp)
    show (r.st ++ Pl.stops (ros l)).length ≤ _
    rw [List.length_append, h2]
    simp only [List.map_cons, List.sum_cons]
    omega
theorem PlanIn.at_ {W : World} {p : Pd} (h : PlanIn W p) (hs : ¬ LargeP p) : PAt W p := by
  unfold LargeP at hs
  have h1 := many_len p.rs p.um
  have h2 := h.rl
  refine ⟨h.rl, by omega, h.rows, fun r hr => ?_, ?_, h.ul, by omega, h.us⟩
  · have := many_all hr p.um
    exact ⟨(h.ra r hr).sl, by omega, (h.ra r hr).st⟩
  · have := many_stops p.rs (fun r hr => (h.ra r hr).sl) p.um
    omega
end Go.Proofs.Ytbacakblboodeaa
