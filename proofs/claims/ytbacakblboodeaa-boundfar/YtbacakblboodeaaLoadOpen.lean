/- What is read of an argument that is a list of orders or of trucks, a truck, or a world. -/
import Derived.Test.YtbacakblboodeaaLoadS
import Derived.ProofKit
import Derived.OpenShut
import Derived.ShutString
import Derived.ChangeOld
import Derived.SizedLaws
import Derived.Deep.Slices
import Derived.Deep.Fields
namespace Go.Proofs.Ytbacakblboodeaa
open Go.ChangeShapes Go.WideShapes Go.ChangeAt Go.RowKit Go.Deep
set_option maxRecDepth 100000

theorem cellsInt : Try.prog.cellsOf 3 = 1 := by kernel_rfl
theorem cellsInt64 : Try.prog.cellsOf 2 = 1 := by kernel_rfl
theorem cellsArea : Try.prog.cellsOf 24 = 3 := by kernel_rfl
theorem cellsI64s : Try.prog.cellsOf 22 = 1 := by kernel_rfl
theorem cellsWorld : Try.prog.cellsOf 28 = 5 := by kernel_rfl
theorem cellsOs : Try.prog.cellsOf 25 = 1 := by kernel_rfl
theorem cellsTs : Try.prog.cellsOf 26 = 1 := by kernel_rfl

theorem list_of {α : Type} (P : Nat → α → Prop) : ∀ (n : Nat), (∀ i, i < n → ∃ v, P i v) → ∃ l : List α, l.length = n ∧ ∀ (i : Nat) (v : α), l[i]? = some v → P i v := by
  intro n
  induction n with
  | zero => intro _; exact ⟨[], rfl, fun i v h => by simp at h⟩
  | succ n ih =>
    intro h
    obtain ⟨l, hl, hp⟩ := ih fun i hi => h i (by omega)
    obtain ⟨v, hv⟩ := h n (by omega)
    refine ⟨l ++ [v], by simp [hl], fun i x hx => ?_⟩
    by_cases hi : i < l.length
    · rw [List.getElem?_append_left hi] at hx
      exact hp i x hx
    · rw [List.getElem?_append_right (by omega)] at hx
      have h0 : i - l.length = 0 := by
        rcases Nat.eq_zero_or_pos (i - l.length) with h0 | h0
        · exact h0
        · rw [List.getElem?_eq_none (by simp; omega)] at hx; cases hx
      rw [h0] at hx
      simp at hx
      subst hx
      obtain rfl : i = n := by omega
      exact hv
theorem ints_of_rows {α : Type} {W : World} (f : α → List Int) (c : Nat) (hc : 0 < c) (hf : ∀ x, (f x).length = c) (l : List α) (x : Addr) (h : ∀ (q : Nat) (o : α), l[q]? = some o → ∀ (j : Nat) (z : Int), (f o)[j]? = some z → W.cell? (x.add (q * c + j)) = some (.int .i64 z)) : IntsAt W (some x) (l.flatMap f) := by
  intro k z hz
  have hk : k < l.length * c := by have := (List.getElem?_eq_some_iff.1 hz).1; rw [Ld.flat_len f c hf] at this; exact this
  have hq : k / c < l.length := (Nat.div_lt_iff_lt_mul hc).2 hk
  obtain ⟨o, ho⟩ := mlist_at l (k / c) hq
  have e : k / c * c + k % c = k := Nat.div_add_mod' k c
  have hfl := Ld.flat_at f c hf l (k / c) o (k % c) (Nat.mod_lt _ hc) ho
  rw [e, hz] at hfl
  have := h (k / c) o ho (k % c) z hfl.symm
  rw [e] at this
  exact ⟨x, rfl, this⟩

theorem cells_O : Try.prog.cellsOf 57 = 8 := by kernel_rfl
/-- one of the list -/
def OneO (W : World) (x : Addr) (i : Nat) (v : Ld.O) : Prop := ∀ (j : Nat) (z : Int), v.ints[j]? = some z → W.cell? (x.add (i * 8 + j)) = some (.int .i64 z)
theorem orders_field {H : Type} {enc : TypeId × Value → H} {W : World} {fuel : Nat} {v : Value} {y : DataW H × List MemPlace}
    (hf : DataW.trod enc Try.prog W 0 (fun _ => true) true fuel 25 [v] = some y) :
    ∃ (A : Option Addr) (m c : Nat) (l : List Ld.O), v = .slice A m c ∧ l.length = m ∧ m ≤ c ∧ c ≤ maxLen ∧ OrdersAt W A l := by
  rcases open_slice Try.underlying25 hf with ⟨hcs, _⟩ | ⟨x, l, c, m, n, D, Pl, hcs, _, hl, hm, hmm, hx, hi⟩
  · obtain rfl : v = .slice none 0 0 := by simpa using hcs
    exact ⟨none, 0, 0, [], rfl, rfl, Nat.le_refl _, by decide, IntsAt.nil _ _⟩
  · obtain rfl : v = .slice (some x) l c := by simpa using hcs
    simp at hmm
    subst hmm
    have hone : ∀ i, i < l → ∃ v : Ld.O, OneO W x i v := by
      intro i hil
      obtain ⟨cs', hc, ht⟩ := hi i (by omega)
      rw [cells_O] at hc
      obtain ⟨ys, n', _, hy, hlen, hyl, hfs⟩ := DataW.trod_struct Try.underlying57 ht
      obtain ⟨_, hcl, hat⟩ := World.cells?_some hc
      have h0 := hfs 0 _ rfl
      have h1 := hfs 1 _ rfl
      have h2 := hfs 2 _ rfl
      have h3 := hfs 3 _ rfl
      have h4 := hfs 4 _ rfl
      have h5 := hfs 5 _ rfl
      have h6 := hfs 6 _ rfl
      have h7 := hfs 7 _ rfl
      match cs', hcl with
      | [c0, c1, c2, c3, c4, c5, c6, c7], _ =>
        match ys, hyl with
        | [y0, y1, y2, y3, y4, y5, y6, y7], _ =>
          have g0 : DataW.trod enc Try.prog W 0 (fun _ => true) true n' 3 [c0] = some y0 := by simpa [cellsInt, cellsInt64] using h0
          have g1 : DataW.trod enc Try.prog W 0 (fun _ => true) true n' 3 [c1] = some y1 := by simpa [cellsInt, cellsInt64] using h1
          have g2 : DataW.trod enc Try.prog W 0 (fun _ => true) true n' 3 [c2] = some y2 := by simpa [cellsInt, cellsInt64] using h2
          have g3 : DataW.trod enc Try.prog W 0 (fun _ => true) true n' 2 [c3] = some y3 := by simpa [cellsInt, cellsInt64] using h3
          have g4 : DataW.trod enc Try.prog W 0 (fun _ => true) true n' 2 [c4] = some y4 := by simpa [cellsInt, cellsInt64] using h4
          have g5 : DataW.trod enc Try.prog W 0 (fun _ => true) true n' 2 [c5] = some y5 := by simpa [cellsInt, cellsInt64] using h5
          have g6 : DataW.trod enc Try.prog W 0 (fun _ => true) true n' 2 [c6] = some y6 := by simpa [cellsInt, cellsInt64] using h6
          have g7 : DataW.trod enc Try.prog W 0 (fun _ => true) true n' 2 [c7] = some y7 := by simpa [cellsInt, cellsInt64] using h7
          obtain ⟨z0, e0, _, _⟩ := DataW.trod_int Try.underlying3 g0
          obtain ⟨z1, e1, _, _⟩ := DataW.trod_int Try.underlying3 g1
          obtain ⟨z2, e2, _, _⟩ := DataW.trod_int Try.underlying3 g2
          obtain ⟨z3, e3, _, _⟩ := DataW.trod_int Try.underlying2 g3
          obtain ⟨z4, e4, _, _⟩ := DataW.trod_int Try.underlying2 g4
          obtain ⟨z5, e5, _, _⟩ := DataW.trod_int Try.underlying2 g5
          obtain ⟨z6, e6, _, _⟩ := DataW.trod_int Try.underlying2 g6
          obtain ⟨z7, e7, _, _⟩ := DataW.trod_int Try.underlying2 g7
          simp at e0 e1 e2 e3 e4 e5 e6 e7
          subst e0 e1 e2 e3 e4 e5 e6 e7
          refine ⟨⟨z0, z1, z2, z3, z4, z5, z6, z7⟩, fun j z hz => ?_⟩
          have hj : j < 8 := (List.getElem?_eq_some_iff.1 hz).1
          have := hat j hj
          rw [add_plus] at this
          rw [this]
          match j, hj, hz with
          | 0, _, hz => simpa [Ld.O.ints] using hz
          | 1, _, hz => simpa [Ld.O.ints] using hz
          | 2, _, hz => simpa [Ld.O.ints] using hz
          | 3, _, hz => simpa [Ld.O.ints] using hz
          | 4, _, hz => simpa [Ld.O.ints] using hz
          | 5, _, hz => simpa [Ld.O.ints] using hz
          | 6, _, hz => simpa [Ld.O.ints] using hz
          | 7, _, hz => simpa [Ld.O.ints] using hz
    obtain ⟨vs, hvl, hvs⟩ := list_of (OneO W x) l hone
    exact ⟨some x, l, _, vs, rfl, hvl, hl, hm, ints_of_rows Ld.O.ints 8 (by omega) (fun _ => rfl) vs x (fun q o ho j z hz => hvs q o ho j z hz)⟩

/-- a list of them that came in -/
theorem open_orders {H : Type} {enc : TypeId × Value → H} {W : World} {v : Value} {d : DataW H} {p : List MemPlace} {b0 : Nat}
    (hv : Value.okWide Try.prog W .any b0 25 v) (h : DataW.Trod enc Try.prog W 0 (fun _ => true) true 25 v d p) :
    ∃ (A : Option Addr) (m c : Nat) (l : List Ld.O), v = .slice A m c ∧ l.length = m ∧ m ≤ c ∧ c ≤ maxLen ∧ OrdersAt W A l := by
  obtain ⟨A, m, c, rfl⟩ := okWide_slice Try.underlying25 hv
  obtain ⟨fuel, hf⟩ := h
  obtain ⟨A', m', c', l, e, h1, h2, h3, h4⟩ := orders_field (v := .slice A m c) hf
  injection e with e1 e2 e3
  subst e1 e2 e3
  exact ⟨A, m, c, l, rfl, h1, h2, h3, h4⟩

theorem cells_T : Try.prog.cellsOf 59 = 7 := by kernel_rfl
/-- one of the list -/
def OneT (W : World) (x : Addr) (i : Nat) (v : Ld.T) : Prop := ∀ (j : Nat) (z : Int), v.ints[j]? = some z → W.cell? (x.add (i * 7 + j)) = some (.int .i64 z)
theorem trucks_field {H : Type} {enc : TypeId × Value → H} {W : World} {fuel : Nat} {v : Value} {y : DataW H × List MemPlace}
    (hf : DataW.trod enc Try.prog W 0 (fun _ => true) true fuel 26 [v] = some y) :
    ∃ (A : Option Addr) (m c : Nat) (l : List Ld.T), v = .slice A m c ∧ l.length = m ∧ m ≤ c ∧ c ≤ maxLen ∧ TrucksAt W A l := by
  rcases open_slice Try.underlying26 hf with ⟨hcs, _⟩ | ⟨x, l, c, m, n, D, Pl, hcs, _, hl, hm, hmm, hx, hi⟩
  · obtain rfl : v = .slice none 0 0 := by simpa using hcs
    exact ⟨none, 0, 0, [], rfl, rfl, Nat.le_refl _, by decide, IntsAt.nil _ _⟩
  · obtain rfl : v = .slice (some x) l c := by simpa using hcs
    simp at hmm
    subst hmm
    have hone : ∀ i, i < l → ∃ v : Ld.T, OneT W x i v := by
      intro i hil
      obtain ⟨cs', hc, ht⟩ := hi i (by omega)
      rw [cells_T] at hc
      obtain ⟨ys, n', _, hy, hlen, hyl, hfs⟩ := DataW.trod_struct Try.underlying59 ht
      obtain ⟨_, hcl, hat⟩ := World.cells?_some hc
      have h0 := hfs 0 _ rfl
      have h1 := hfs 1 _ rfl
      have h2 := hfs 2 _ rfl
      have h3 := hfs 3 _ rfl
      have h4 := hfs 4 _ rfl
      have h5 := hfs 5 _ rfl
      have h6 := hfs 6 _ rfl
      match cs', hcl with
      | [c0, c1, c2, c3, c4, c5, c6], _ =>
        match ys, hyl with
        | [y0, y1, y2, y3, y4, y5, y6], _ =>
          have g0 : DataW.trod enc Try.prog W 0 (fun _ => true) true n' 3 [c0] = some y0 := by simpa [cellsInt, cellsInt64] using h0
          have g1 : DataW.trod enc Try.prog W 0 (fun _ => true) true n' 2 [c1] = some y1 := by simpa [cellsInt, cellsInt64] using h1
          have g2 : DataW.trod enc Try.prog W 0 (fun _ => true) true n' 2 [c2] = some y2 := by simpa [cellsInt, cellsInt64] using h2
          have g3 : DataW.trod enc Try.prog W 0 (fun _ => true) true n' 2 [c3] = some y3 := by simpa [cellsInt, cellsInt64] using h3
          have g4 : DataW.trod enc Try.prog W 0 (fun _ => true) true n' 2 [c4] = some y4 := by simpa [cellsInt, cellsInt64] using h4
          have g5 : DataW.trod enc Try.prog W 0 (fun _ => true) true n' 2 [c5] = some y5 := by simpa [cellsInt, cellsInt64] using h5
          have g6 : DataW.trod enc Try.prog W 0 (fun _ => true) true n' 2 [c6] = some y6 := by simpa [cellsInt, cellsInt64] using h6
          obtain ⟨z0, e0, _, _⟩ := DataW.trod_int Try.underlying3 g0
          obtain ⟨z1, e1, _, _⟩ := DataW.trod_int Try.underlying2 g1
          obtain ⟨z2, e2, _, _⟩ := DataW.trod_int Try.underlying2 g2
          obtain ⟨z3, e3, _, _⟩ := DataW.trod_int Try.underlying2 g3
          obtain ⟨z4, e4, _, _⟩ := DataW.trod_int Try.underlying2 g4
          obtain ⟨z5, e5, _, _⟩ := DataW.trod_int Try.underlying2 g5
          obtain ⟨z6, e6, _, _⟩ := DataW.trod_int Try.underlying2 g6
          simp at e0 e1 e2 e3 e4 e5 e6
          subst e0 e1 e2 e3 e4 e5 e6
          refine ⟨⟨z0, z1, z2, z3, z4, z5, z6⟩, fun j z hz => ?_⟩
          have hj : j < 7 := (List.getElem?_eq_some_iff.1 hz).1
          have := hat j hj
          rw [add_plus] at this
          rw [this]
          match j, hj, hz with
          | 0, _, hz => simpa [Ld.T.ints] using hz
          | 1, _, hz => simpa [Ld.T.ints] using hz
          | 2, _, hz => simpa [Ld.T.ints] using hz
          | 3, _, hz => simpa [Ld.T.ints] using hz
          | 4, _, hz => simpa [Ld.T.ints] using hz
          | 5, _, hz => simpa [Ld.T.ints] using hz
          | 6, _, hz => simpa [Ld.T.ints] using hz
    obtain ⟨vs, hvl, hvs⟩ := list_of (OneT W x) l hone
    exact ⟨some x, l, _, vs, rfl, hvl, hl, hm, ints_of_rows Ld.T.ints 7 (by omega) (fun _ => rfl) vs x (fun q o ho j z hz => hvs q o ho j z hz)⟩

/-- a list of them that came in -/
theorem open_trucks {H : Type} {enc : TypeId × Value → H} {W : World} {v : Value} {d : DataW H} {p : List MemPlace} {b0 : Nat}
    (hv : Value.okWide Try.prog W .any b0 26 v) (h : DataW.Trod enc Try.prog W 0 (fun _ => true) true 26 v d p) :
    ∃ (A : Option Addr) (m c : Nat) (l : List Ld.T), v = .slice A m c ∧ l.length = m ∧ m ≤ c ∧ c ≤ maxLen ∧ TrucksAt W A l := by
  obtain ⟨A, m, c, rfl⟩ := okWide_slice Try.underlying26 hv
  obtain ⟨fuel, hf⟩ := h
  obtain ⟨A', m', c', l, e, h1, h2, h3, h4⟩ := trucks_field (v := .slice A m c) hf
  injection e with e1 e2 e3
  subst e1 e2 e3
  exact ⟨A, m, c, l, rfl, h1, h2, h3, h4⟩

theorem slice_shape {H : Type} {enc : TypeId × Value → H} {W : World} {fuel : Nat} {v : Value} {y : DataW H × List MemPlace}
    (hf : DataW.trod enc Try.prog W 0 (fun _ => true) true fuel 22 [v] = some y) : ∃ a m c, v = .slice a m c := by
  rcases open_slice Try.underlying22 hf with ⟨hcs, _⟩ | ⟨x, l, c, m, n, D, Pl, hcs, _⟩
  · exact ⟨none, 0, 0, by simpa using hcs⟩
  · exact ⟨some x, l, c, by simpa using hcs⟩

/-- a truck that came in -/
theorem open_truck {H : Type} {enc : TypeId × Value → H} {W : World} {v : Value} {d : DataW H} {p : List MemPlace} {b0 : Nat}
    (hv : Value.okWide Try.prog W .any b0 59 v) (h : DataW.Trod enc Try.prog W 0 (fun _ => true) true 59 v d p) :
    ∃ t : Ld.T, v = .agg #[.int .i64 t.id, .int .i64 t.weight, .int .i64 t.volume, .int .i64 t.start, .int .i64 t.fin, .int .i64 t.fixed, .int .i64 t.rate] := by
  obtain ⟨cs, rfl, hsz⟩ := okWide_struct Try.underlying59 hv
  obtain ⟨l⟩ := cs
  match l, hsz.trans cells_T with
  | [c0, c1, c2, c3, c4, c5, c6], _ =>
    obtain ⟨fuel, hf⟩ := h
    obtain ⟨ys, n', _, hy, hlen, hyl, hfs⟩ := DataW.trod_struct Try.underlying59 hf
    match ys, hyl with
    | [y0, y1, y2, y3, y4, y5, y6], _ =>
      have g0 : DataW.trod enc Try.prog W 0 (fun _ => true) true n' 3 [c0] = some y0 := by simpa [Value.cells, cellsInt, cellsInt64] using hfs 0 _ rfl
      have g1 : DataW.trod enc Try.prog W 0 (fun _ => true) true n' 2 [c1] = some y1 := by simpa [Value.cells, cellsInt, cellsInt64] using hfs 1 _ rfl
      have g2 : DataW.trod enc Try.prog W 0 (fun _ => true) true n' 2 [c2] = some y2 := by simpa [Value.cells, cellsInt, cellsInt64] using hfs 2 _ rfl
      have g3 : DataW.trod enc Try.prog W 0 (fun _ => true) true n' 2 [c3] = some y3 := by simpa [Value.cells, cellsInt, cellsInt64] using hfs 3 _ rfl
      have g4 : DataW.trod enc Try.prog W 0 (fun _ => true) true n' 2 [c4] = some y4 := by simpa [Value.cells, cellsInt, cellsInt64] using hfs 4 _ rfl
      have g5 : DataW.trod enc Try.prog W 0 (fun _ => true) true n' 2 [c5] = some y5 := by simpa [Value.cells, cellsInt, cellsInt64] using hfs 5 _ rfl
      have g6 : DataW.trod enc Try.prog W 0 (fun _ => true) true n' 2 [c6] = some y6 := by simpa [Value.cells, cellsInt, cellsInt64] using hfs 6 _ rfl
      obtain ⟨z0, e0, _, _⟩ := DataW.trod_int Try.underlying3 g0
      obtain ⟨z1, e1, _, _⟩ := DataW.trod_int Try.underlying2 g1
      obtain ⟨z2, e2, _, _⟩ := DataW.trod_int Try.underlying2 g2
      obtain ⟨z3, e3, _, _⟩ := DataW.trod_int Try.underlying2 g3
      obtain ⟨z4, e4, _, _⟩ := DataW.trod_int Try.underlying2 g4
      obtain ⟨z5, e5, _, _⟩ := DataW.trod_int Try.underlying2 g5
      obtain ⟨z6, e6, _, _⟩ := DataW.trod_int Try.underlying2 g6
      simp at e0 e1 e2 e3 e4 e5 e6
      subst e0 e1 e2 e3 e4 e5 e6
      exact ⟨⟨z0, z1, z2, z3, z4, z5, z6⟩, rfl⟩

/-- a world that came in -/
structure WorldCame (W : World) (v : Value) (N : Int) (v1 v2 : Value) (A : Option Addr) (m c : Nat) (os : List Ld.O) (B : Option Addr) (k d : Nat) (ts : List Ld.T) : Prop where
  val : v = .agg #[.int .i64 N, v1, v2, .slice A m c, .slice B k d]
  n : N ≤ 9223372036854775807
  ml : os.length = m
  mx : m ≤ maxLen
  kl : ts.length = k
  kx : k ≤ maxLen
  os : OrdersAt W A os
  ts : TrucksAt W B ts
  s1 : ∃ a m c, v1 = .slice a m c
  s2 : ∃ a m c, v2 = .slice a m c
theorem open_world {H : Type} {enc : TypeId × Value → H} {W : World} {v : Value} {d : DataW H} {p : List MemPlace} {b0 : Nat}
    (hv : Value.okWide Try.prog W .any b0 28 v) (h : DataW.Trod enc Try.prog W 0 (fun _ => true) true 28 v d p) :
    ∃ (N : Int) (v1 v2 : Value) (A : Option Addr) (m c : Nat) (os : List Ld.O) (B : Option Addr) (k d : Nat) (ts : List Ld.T), WorldCame W v N v1 v2 A m c os B k d ts := by
  obtain ⟨cs, rfl, hsz⟩ := okWide_struct Try.underlying28 hv
  obtain ⟨l⟩ := cs
  match l, hsz.trans cellsWorld with
  | [c0, c1, c2, c3, c4], _ =>
    obtain ⟨fuel, hf⟩ := h
    obtain ⟨ys, n', _, hy, hlen, hyl, hfs⟩ := DataW.trod_struct Try.underlying28 hf
    match ys, hyl with
    | [y0, y1, y2], _ =>
      have g0 : DataW.trod enc Try.prog W 0 (fun _ => true) true n' 24 [c0, c1, c2] = some y0 := by simpa [Value.cells, cellsArea] using hfs 0 _ rfl
      have g1 : DataW.trod enc Try.prog W 0 (fun _ => true) true n' 25 [c3] = some y1 := by simpa [Value.cells, cellsArea, cellsOs] using hfs 1 _ rfl
      have g2 : DataW.trod enc Try.prog W 0 (fun _ => true) true n' 26 [c4] = some y2 := by simpa [Value.cells, cellsArea, cellsOs, cellsTs] using hfs 2 _ rfl
      obtain ⟨zs, n2, _, _, _, hzl, hz⟩ := DataW.trod_struct Try.underlying24 g0
      match zs, hzl with
      | [u0, u1, u2], _ =>
        have f0 : DataW.trod enc Try.prog W 0 (fun _ => true) true n2 3 [c0] = some u0 := by simpa [cellsInt] using hz 0 _ rfl
        obtain ⟨N, hN, hyN, hw⟩ := DataW.trod_int Try.underlying3 f0
        simp at hN
        subst hN
        have hr : -9223372036854775808 ≤ N ∧ N ≤ 9223372036854775807 := by simpa [Lit.wf, IntKind.min, IntKind.max, IntKind.bits, IntKind.signed] using hw
        obtain ⟨A, m, c, os, rfl, a1, a2, a3, a4⟩ := orders_field g1
        obtain ⟨B, k, d, ts, rfl, b1, b2, b3, b4⟩ := trucks_field g2
        have f1 : DataW.trod enc Try.prog W 0 (fun _ => true) true n2 22 [c1] = some u1 := by simpa [cellsInt, cellsI64s] using hz 1 _ rfl
        have f2 : DataW.trod enc Try.prog W 0 (fun _ => true) true n2 22 [c2] = some u2 := by simpa [cellsInt, cellsI64s] using hz 2 _ rfl
        exact ⟨N, c1, c2, A, m, c, os, B, k, d, ts, rfl, hr.2, a1, Nat.le_trans a2 a3, b1, Nat.le_trans b2 b3, a4, b4, slice_shape f1, slice_shape f2⟩
end Go.Proofs.Ytbacakblboodeaa
