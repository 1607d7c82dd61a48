/- Texts joined: What is read of an argument that is a list of orders or of trucks, a truck, or a world. A list of orders cut in two. Rows of orders and of trucks of one's own, and a world's box that holds them: what an append makes of them. -/
import Derived.Test.YtgjmlnpfkmpfgaaGreatLoadBDS
import Derived.ProofKit
import Derived.OpenShut
import Derived.ShutString
import Derived.ChangeOld
import Derived.SizedLaws
import Derived.Deep.Slices
import Derived.Deep.Fields
import Derived.Deep.DeepCutAuto
import Derived.Lib.AppendZerosOnto
import Derived.Deep.RegionLaw
import Derived.Deep.Heap
section
/-! What is read of an argument that is a list of orders or of trucks, a truck, or a world. -/
namespace Go.Proofs.YtgjmlnpfkmpfgaaGreat
open Go.ChangeShapes Go.WideShapes Go.ChangeAt Go.RowKit Go.Deep
set_option maxRecDepth 100000

theorem cellsInt : Tryz.prog.cellsOf 3 = 1 := by kernel_rfl
theorem cellsInt64 : Tryz.prog.cellsOf 2 = 1 := by kernel_rfl
theorem cellsArea : Tryz.prog.cellsOf 24 = 3 := by kernel_rfl
theorem cellsI64s : Tryz.prog.cellsOf 22 = 1 := by kernel_rfl
theorem cellsWorld : Tryz.prog.cellsOf 28 = 5 := by kernel_rfl
theorem cellsOs : Tryz.prog.cellsOf 25 = 1 := by kernel_rfl
theorem cellsTs : Tryz.prog.cellsOf 26 = 1 := by kernel_rfl

theorem list_of {α : Type} (P : Nat → α → Prop) : ∀ (n : Nat), (∀ i, i < n → ∃ v, P i v) → ∃ l : List α, l.length = n ∧ ∀ (i : Nat) (v : α), l[i]? = some v → P i v := by
  intro n
  induction n with
  | zero => intro _; exact ⟨[], rfl, fun i v h => by simp at h⟩
  | succ n ih =>
    intro h
    obtain ⟨l, hl, hp⟩ := ih fun i hi => h i (by omega)
    obtain ⟨v, hv⟩ := h n (by omega)
    refine ⟨l ++ [v], by simp [hl], fun i x hx => ?_⟩
    by_cases hi : i < l.length
    · rw [List.getElem?_append_left hi] at hx
      exact hp i x hx
    · rw [List.getElem?_append_right (by omega)] at hx
      have h0 : i - l.length = 0 := by
        rcases Nat.eq_zero_or_pos (i - l.length) with h0 | h0
        · exact h0
        · rw [List.getElem?_eq_none (by simp; omega)] at hx; cases hx
      rw [h0] at hx
      simp at hx
      subst hx
      obtain rfl : i = n := by omega
      exact hv
theorem ints_of_rows {α : Type} {W : World} (f : α → List Int) (c : Nat) (hc : 0 < c) (hf : ∀ x, (f x).length = c) (l : List α) (x : Addr) (h : ∀ (q : Nat) (o : α), l[q]? = some o → ∀ (j : Nat) (z : Int), (f o)[j]? = some z → W.cell? (x.add (q * c + j)) = some (.int .i64 z)) : IntsAt W (some x) (l.flatMap f) := by
  intro k z hz
  have hk : k < l.length * c := by have := (List.getElem?_eq_some_iff.1 hz).1; rw [Ld.flat_len f c hf] at this; exact this
  have hq : k / c < l.length := (Nat.div_lt_iff_lt_mul hc).2 hk
  obtain ⟨o, ho⟩ := mlist_at l (k / c) hq
  have e : k / c * c + k % c = k := Nat.div_add_mod' k c
  have hfl := Ld.flat_at f c hf l (k / c) o (k % c) (Nat.mod_lt _ hc) ho
  rw [e, hz] at hfl
  have := h (k / c) o ho (k % c) z hfl.symm
  rw [e] at this
  exact ⟨x, rfl, this⟩

theorem cells_O : Tryz.prog.cellsOf 52 = 8 := by kernel_rfl
/-- one of the list -/
def OneO (W : World) (x : Addr) (i : Nat) (v : Ld.O) : Prop := ∀ (j : Nat) (z : Int), v.ints[j]? = some z → W.cell? (x.add (i * 8 + j)) = some (.int .i64 z)
theorem orders_field {H : Type} {enc : TypeId × Value → H} {W : World} {fuel : Nat} {v : Value} {y : DataW H × List MemPlace}
    (hf : DataW.trod enc Tryz.prog W 0 (fun _ => true) true fuel 25 [v] = some y) :
    ∃ (A : Option Addr) (m c : Nat) (l : List Ld.O), v = .slice A m c ∧ l.length = m ∧ m ≤ c ∧ c ≤ maxLen ∧ OrdersAt W A l := by
  rcases open_slice Tryz.underlying25 hf with ⟨hcs, _⟩ | ⟨x, l, c, m, n, D, Pl, hcs, _, hl, hm, hmm, hx, hi⟩
  · obtain rfl : v = .slice none 0 0 := by simpa using hcs
    exact ⟨none, 0, 0, [], rfl, rfl, Nat.le_refl _, by decide, IntsAt.nil _ _⟩
  · obtain rfl : v = .slice (some x) l c := by simpa using hcs
    simp at hmm
    subst hmm
    have hone : ∀ i, i < l → ∃ v : Ld.O, OneO W x i v := by
      intro i hil
      obtain ⟨cs', hc, ht⟩ := hi i (by omega)
      rw [cells_O] at hc
      obtain ⟨ys, n', _, hy, hlen, hyl, hfs⟩ := DataW.trod_struct Tryz.underlying52 ht
      obtain ⟨_, hcl, hat⟩ := World.cells?_some hc
      have h0 := hfs 0 _ rfl
      have h1 := hfs 1 _ rfl
      have h2 := hfs 2 _ rfl
      have h3 := hfs 3 _ rfl
      have h4 := hfs 4 _ rfl
      have h5 := hfs 5 _ rfl
      have h6 := hfs 6 _ rfl
      have h7 := hfs 7 _ rfl
      match cs', hcl with
      | [c0, c1, c2, c3, c4, c5, c6, c7], _ =>
        match ys, hyl with
        | [y0, y1, y2, y3, y4, y5, y6, y7], _ =>
          have g0 : DataW.trod enc Tryz.prog W 0 (fun _ => true) true n' 3 [c0] = some y0 := by simpa [cellsInt, cellsInt64] using h0
          have g1 : DataW.trod enc Tryz.prog W 0 (fun _ => true) true n' 3 [c1] = some y1 := by simpa [cellsInt, cellsInt64] using h1
          have g2 : DataW.trod enc Tryz.prog W 0 (fun _ => true) true n' 3 [c2] = some y2 := by simpa [cellsInt, cellsInt64] using h2
          have g3 : DataW.trod enc Tryz.prog W 0 (fun _ => true) true n' 2 [c3] = some y3 := by simpa [cellsInt, cellsInt64] using h3
          have g4 : DataW.trod enc Tryz.prog W 0 (fun _ => true) true n' 2 [c4] = some y4 := by simpa [cellsInt, cellsInt64] using h4
          have g5 : DataW.trod enc Tryz.prog W 0 (fun _ => true) true n' 2 [c5] = some y5 := by simpa [cellsInt, cellsInt64] using h5
          have g6 : DataW.trod enc Tryz.prog W 0 (fun _ => true) true n' 2 [c6] = some y6 := by simpa [cellsInt, cellsInt64] using h6
          have g7 : DataW.trod enc Tryz.prog W 0 (fun _ => true) true n' 2 [c7] = some y7 := by simpa [cellsInt, cellsInt64] using h7
          obtain ⟨z0, e0, _, _⟩ := DataW.trod_int Tryz.underlying3 g0
          obtain ⟨z1, e1, _, _⟩ := DataW.trod_int Tryz.underlying3 g1
          obtain ⟨z2, e2, _, _⟩ := DataW.trod_int Tryz.underlying3 g2
          obtain ⟨z3, e3, _, _⟩ := DataW.trod_int Tryz.underlying2 g3
          obtain ⟨z4, e4, _, _⟩ := DataW.trod_int Tryz.underlying2 g4
          obtain ⟨z5, e5, _, _⟩ := DataW.trod_int Tryz.underlying2 g5
          obtain ⟨z6, e6, _, _⟩ := DataW.trod_int Tryz.underlying2 g6
          obtain ⟨z7, e7, _, _⟩ := DataW.trod_int Tryz.underlying2 g7
          simp at e0 e1 e2 e3 e4 e5 e6 e7
          subst e0 e1 e2 e3 e4 e5 e6 e7
          refine ⟨⟨z0, z1, z2, z3, z4, z5, z6, z7⟩, fun j z hz => ?_⟩
          have hj : j < 8 := (List.getElem?_eq_some_iff.1 hz).1
          have := hat j hj
          rw [add_plus] at this
          rw [this]
          match j, hj, hz with
          | 0, _, hz => simpa [Ld.O.ints] using hz
          | 1, _, hz => simpa [Ld.O.ints] using hz
          | 2, _, hz => simpa [Ld.O.ints] using hz
          | 3, _, hz => simpa [Ld.O.ints] using hz
          | 4, _, hz => simpa [Ld.O.ints] using hz
          | 5, _, hz => simpa [Ld.O.ints] using hz
          | 6, _, hz => simpa [Ld.O.ints] using hz
          | 7, _, hz => simpa [Ld.O.ints] using hz
    obtain ⟨vs, hvl, hvs⟩ := list_of (OneO W x) l hone
    exact ⟨some x, l, _, vs, rfl, hvl, hl, hm, ints_of_rows Ld.O.ints 8 (by omega) (fun _ => rfl) vs x (fun q o ho j z hz => hvs q o ho j z hz)⟩

/-- a list of them that came in -/
theorem open_orders {H : Type} {enc : TypeId × Value → H} {W : World} {v : Value} {d : DataW H} {p : List MemPlace} {b0 : Nat}
    (hv : Value.okWide Tryz.prog W .any b0 25 v) (h : DataW.Trod enc Tryz.prog W 0 (fun _ => true) true 25 v d p) :
    ∃ (A : Option Addr) (m c : Nat) (l : List Ld.O), v = .slice A m c ∧ l.length = m ∧ m ≤ c ∧ c ≤ maxLen ∧ OrdersAt W A l := by
  obtain ⟨A, m, c, rfl⟩ := okWide_slice Tryz.underlying25 hv
  obtain ⟨fuel, hf⟩ := h
  obtain ⟨A', m', c', l, e, h1, h2, h3, h4⟩ := orders_field (v := .slice A m c) hf
  injection e with e1 e2 e3
  subst e1 e2 e3
  exact ⟨A, m, c, l, rfl, h1, h2, h3, h4⟩

theorem cells_T : Tryz.prog.cellsOf 54 = 7 := by kernel_rfl
/-- one of the list -/
def OneT (W : World) (x : Addr) (i : Nat) (v : Ld.T) : Prop := ∀ (j : Nat) (z : Int), v.ints[j]? = some z → W.cell? (x.add (i * 7 + j)) = some (.int .i64 z)
theorem trucks_field {H : Type} {enc : TypeId × Value → H} {W : World} {fuel : Nat} {v : Value} {y : DataW H × List MemPlace}
    (hf : DataW.trod enc Tryz.prog W 0 (fun _ => true) true fuel 26 [v] = some y) :
    ∃ (A : Option Addr) (m c : Nat) (l : List Ld.T), v = .slice A m c ∧ l.length = m ∧ m ≤ c ∧ c ≤ maxLen ∧ TrucksAt W A l := by
  rcases open_slice Tryz.underlying26 hf with ⟨hcs, _⟩ | ⟨x, l, c, m, n, D, Pl, hcs, _, hl, hm, hmm, hx, hi⟩
  · obtain rfl : v = .slice none 0 0 := by simpa using hcs
    exact ⟨none, 0, 0, [], rfl, rfl, Nat.le_refl _, by decide, IntsAt.nil _ _⟩
  · obtain rfl : v = .slice (some x) l c := by simpa using hcs
    simp at hmm
    subst hmm
    have hone : ∀ i, i < l → ∃ v : Ld.T, OneT W x i v := by
      intro i hil
      obtain ⟨cs', hc, ht⟩ := hi i (by omega)
      rw [cells_T] at hc
      obtain ⟨ys, n', _, hy, hlen, hyl, hfs⟩ := DataW.trod_struct Tryz.underlying54 ht
      obtain ⟨_, hcl, hat⟩ := World.cells?_some hc
      have h0 := hfs 0 _ rfl
      have h1 := hfs 1 _ rfl
      have h2 := hfs 2 _ rfl
      have h3 := hfs 3 _ rfl
      have h4 := hfs 4 _ rfl
      have h5 := hfs 5 _ rfl
      have h6 := hfs 6 _ rfl
      match cs', hcl with
      | [c0, c1, c2, c3, c4, c5, c6], _ =>
        match ys, hyl with
        | [y0, y1, y2, y3, y4, y5, y6], _ =>
          have g0 : DataW.trod enc Tryz.prog W 0 (fun _ => true) true n' 3 [c0] = some y0 := by simpa [cellsInt, cellsInt64] using h0
          have g1 : DataW.trod enc Tryz.prog W 0 (fun _ => true) true n' 2 [c1] = some y1 := by simpa [cellsInt, cellsInt64] using h1
          have g2 : DataW.trod enc Tryz.prog W 0 (fun _ => true) true n' 2 [c2] = some y2 := by simpa [cellsInt, cellsInt64] using h2
          have g3 : DataW.trod enc Tryz.prog W 0 (fun _ => true) true n' 2 [c3] = some y3 := by simpa [cellsInt, cellsInt64] using h3
          have g4 : DataW.trod enc Tryz.prog W 0 (fun _ => true) true n' 2 [c4] = some y4 := by simpa [cellsInt, cellsInt64] using h4
          have g5 : DataW.trod enc Tryz.prog W 0 (fun _ => true) true n' 2 [c5] = some y5 := by simpa [cellsInt, cellsInt64] using h5
          have g6 : DataW.trod enc Tryz.prog W 0 (fun _ => true) true n' 2 [c6] = some y6 := by simpa [cellsInt, cellsInt64] using h6
          obtain ⟨z0, e0, _, _⟩ := DataW.trod_int Tryz.underlying3 g0
          obtain ⟨z1, e1, _, _⟩ := DataW.trod_int Tryz.underlying2 g1
          obtain ⟨z2, e2, _, _⟩ := DataW.trod_int Tryz.underlying2 g2
          obtain ⟨z3, e3, _, _⟩ := DataW.trod_int Tryz.underlying2 g3
          obtain ⟨z4, e4, _, _⟩ := DataW.trod_int Tryz.underlying2 g4
          obtain ⟨z5, e5, _, _⟩ := DataW.trod_int Tryz.underlying2 g5
          obtain ⟨z6, e6, _, _⟩ := DataW.trod_int Tryz.underlying2 g6
          simp at e0 e1 e2 e3 e4 e5 e6
          subst e0 e1 e2 e3 e4 e5 e6
          refine ⟨⟨z0, z1, z2, z3, z4, z5, z6⟩, fun j z hz => ?_⟩
          have hj : j < 7 := (List.getElem?_eq_some_iff.1 hz).1
          have := hat j hj
          rw [add_plus] at this
          rw [this]
          match j, hj, hz with
          | 0, _, hz => simpa [Ld.T.ints] using hz
          | 1, _, hz => simpa [Ld.T.ints] using hz
          | 2, _, hz => simpa [Ld.T.ints] using hz
          | 3, _, hz => simpa [Ld.T.ints] using hz
          | 4, _, hz => simpa [Ld.T.ints] using hz
          | 5, _, hz => simpa [Ld.T.ints] using hz
          | 6, _, hz => simpa [Ld.T.ints] using hz
    obtain ⟨vs, hvl, hvs⟩ := list_of (OneT W x) l hone
    exact ⟨some x, l, _, vs, rfl, hvl, hl, hm, ints_of_rows Ld.T.ints 7 (by omega) (fun _ => rfl) vs x (fun q o ho j z hz => hvs q o ho j z hz)⟩

/-- a list of them that came in -/
theorem open_trucks {H : Type} {enc : TypeId × Value → H} {W : World} {v : Value} {d : DataW H} {p : List MemPlace} {b0 : Nat}
    (hv : Value.okWide Tryz.prog W .any b0 26 v) (h : DataW.Trod enc Tryz.prog W 0 (fun _ => true) true 26 v d p) :
    ∃ (A : Option Addr) (m c : Nat) (l : List Ld.T), v = .slice A m c ∧ l.length = m ∧ m ≤ c ∧ c ≤ maxLen ∧ TrucksAt W A l := by
  obtain ⟨A, m, c, rfl⟩ := okWide_slice Tryz.underlying26 hv
  obtain ⟨fuel, hf⟩ := h
  obtain ⟨A', m', c', l, e, h1, h2, h3, h4⟩ := trucks_field (v := .slice A m c) hf
  injection e with e1 e2 e3
  subst e1 e2 e3
  exact ⟨A, m, c, l, rfl, h1, h2, h3, h4⟩

theorem slice_shape {H : Type} {enc : TypeId × Value → H} {W : World} {fuel : Nat} {v : Value} {y : DataW H × List MemPlace}
    (hf : DataW.trod enc Tryz.prog W 0 (fun _ => true) true fuel 22 [v] = some y) : ∃ a m c, v = .slice a m c := by
  rcases open_slice Tryz.underlying22 hf with ⟨hcs, _⟩ | ⟨x, l, c, m, n, D, Pl, hcs, _⟩
  · exact ⟨none, 0, 0, by simpa using hcs⟩
  · exact ⟨some x, l, c, by simpa using hcs⟩

/-- a truck that came in -/
theorem open_truck {H : Type} {enc : TypeId × Value → H} {W : World} {v : Value} {d : DataW H} {p : List MemPlace} {b0 : Nat}
    (hv : Value.okWide Tryz.prog W .any b0 54 v) (h : DataW.Trod enc Tryz.prog W 0 (fun _ => true) true 54 v d p) :
    ∃ t : Ld.T, v = .agg #[.int .i64 t.id, .int .i64 t.weight, .int .i64 t.volume, .int .i64 t.start, .int .i64 t.fin, .int .i64 t.fixed, .int .i64 t.rate] := by
  obtain ⟨cs, rfl, hsz⟩ := okWide_struct Tryz.underlying54 hv
  obtain ⟨l⟩ := cs
  match l, hsz.trans cells_T with
  | [c0, c1, c2, c3, c4, c5, c6], _ =>
    obtain ⟨fuel, hf⟩ := h
    obtain ⟨ys, n', _, hy, hlen, hyl, hfs⟩ := DataW.trod_struct Tryz.underlying54 hf
    match ys, hyl with
    | [y0, y1, y2, y3, y4, y5, y6], _ =>
      have g0 : DataW.trod enc Tryz.prog W 0 (fun _ => true) true n' 3 [c0] = some y0 := by simpa [Value.cells, cellsInt, cellsInt64] using hfs 0 _ rfl
      have g1 : DataW.trod enc Tryz.prog W 0 (fun _ => true) true n' 2 [c1] = some y1 := by simpa [Value.cells, cellsInt, cellsInt64] using hfs 1 _ rfl
      have g2 : DataW.trod enc Tryz.prog W 0 (fun _ => true) true n' 2 [c2] = some y2 := by simpa [Value.cells, cellsInt, cellsInt64] using hfs 2 _ rfl
      have g3 : DataW.trod enc Tryz.prog W 0 (fun _ => true) true n' 2 [c3] = some y3 := by simpa [Value.cells, cellsInt, cellsInt64] using hfs 3 _ rfl
      have g4 : DataW.trod enc Tryz.prog W 0 (fun _ => true) true n' 2 [c4] = some y4 := by simpa [Value.cells, cellsInt, cellsInt64] using hfs 4 _ rfl
      have g5 : DataW.trod enc Tryz.prog W 0 (fun _ => true) true n' 2 [c5] = some y5 := by simpa [Value.cells, cellsInt, cellsInt64] using hfs 5 _ rfl
      have g6 : DataW.trod enc Tryz.prog W 0 (fun _ => true) true n' 2 [c6] = some y6 := by simpa [Value.cells, cellsInt, cellsInt64] using hfs 6 _ rfl
      obtain ⟨z0, e0, _, _⟩ := DataW.trod_int Tryz.underlying3 g0
      obtain ⟨z1, e1, _, _⟩ := DataW.trod_int Tryz.underlying2 g1
      obtain ⟨z2, e2, _, _⟩ := DataW.trod_int Tryz.underlying2 g2
      obtain ⟨z3, e3, _, _⟩ := DataW.trod_int Tryz.underlying2 g3
      obtain ⟨z4, e4, _, _⟩ := DataW.trod_int Tryz.underlying2 g4
      obtain ⟨z5, e5, _, _⟩ := DataW.trod_int Tryz.underlying2 g5
      obtain ⟨z6, e6, _, _⟩ := DataW.trod_int Tryz.underlying2 g6
      simp at e0 e1 e2 e3 e4 e5 e6
      subst e0 e1 e2 e3 e4 e5 e6
      exact ⟨⟨z0, z1, z2, z3, z4, z5, z6⟩, rfl⟩

/-- a world that came in -/
structure WorldCame (W : World) (v : Value) (N : Int) (v1 v2 : Value) (A : Option Addr) (m c : Nat) (os : List Ld.O) (B : Option Addr) (k d : Nat) (ts : List Ld.T) : Prop where
  val : v = .agg #[.int .i64 N, v1, v2, .slice A m c, .slice B k d]
  n : N ≤ 9223372036854775807
  ml : os.length = m
  mx : m ≤ maxLen
  kl : ts.length = k
  kx : k ≤ maxLen
  os : OrdersAt W A os
  ts : TrucksAt W B ts
  s1 : ∃ a m c, v1 = .slice a m c
  s2 : ∃ a m c, v2 = .slice a m c
theorem open_world {H : Type} {enc : TypeId × Value → H} {W : World} {v : Value} {d : DataW H} {p : List MemPlace} {b0 : Nat}
    (hv : Value.okWide Tryz.prog W .any b0 28 v) (h : DataW.Trod enc Tryz.prog W 0 (fun _ => true) true 28 v d p) :
    ∃ (N : Int) (v1 v2 : Value) (A : Option Addr) (m c : Nat) (os : List Ld.O) (B : Option Addr) (k d : Nat) (ts : List Ld.T), WorldCame W v N v1 v2 A m c os B k d ts := by
  obtain ⟨cs, rfl, hsz⟩ := okWide_struct Tryz.underlying28 hv
  obtain ⟨l⟩ := cs
  match l, hsz.trans cellsWorld with
  | [c0, c1, c2, c3, c4], _ =>
    obtain ⟨fuel, hf⟩ := h
    obtain ⟨ys, n', _, hy, hlen, hyl, hfs⟩ := DataW.trod_struct Tryz.underlying28 hf
    match ys, hyl with
    | [y0, y1, y2], _ =>
      have g0 : DataW.trod enc Tryz.prog W 0 (fun _ => true) true n' 24 [c0, c1, c2] = some y0 := by simpa [Value.cells, cellsArea] using hfs 0 _ rfl
      have g1 : DataW.trod enc Tryz.prog W 0 (fun _ => true) true n' 25 [c3] = some y1 := by simpa [Value.cells, cellsArea, cellsOs] using hfs 1 _ rfl
      have g2 : DataW.trod enc Tryz.prog W 0 (fun _ => true) true n' 26 [c4] = some y2 := by simpa [Value.cells, cellsArea, cellsOs, cellsTs] using hfs 2 _ rfl
      obtain ⟨zs, n2, _, _, _, hzl, hz⟩ := DataW.trod_struct Tryz.underlying24 g0
      match zs, hzl with
      | [u0, u1, u2], _ =>
        have f0 : DataW.trod enc Tryz.prog W 0 (fun _ => true) true n2 3 [c0] = some u0 := by simpa [cellsInt] using hz 0 _ rfl
        obtain ⟨N, hN, hyN, hw⟩ := DataW.trod_int Tryz.underlying3 f0
        simp at hN
        subst hN
        have hr : -9223372036854775808 ≤ N ∧ N ≤ 9223372036854775807 := by simpa [Lit.wf, IntKind.min, IntKind.max, IntKind.bits, IntKind.signed] using hw
        obtain ⟨A, m, c, os, rfl, a1, a2, a3, a4⟩ := orders_field g1
        obtain ⟨B, k, d, ts, rfl, b1, b2, b3, b4⟩ := trucks_field g2
        have f1 : DataW.trod enc Tryz.prog W 0 (fun _ => true) true n2 22 [c1] = some u1 := by simpa [cellsInt, cellsI64s] using hz 1 _ rfl
        have f2 : DataW.trod enc Tryz.prog W 0 (fun _ => true) true n2 22 [c2] = some u2 := by simpa [cellsInt, cellsI64s] using hz 2 _ rfl
        exact ⟨N, c1, c2, A, m, c, os, B, k, d, ts, rfl, hr.2, a1, Nat.le_trans a2 a3, b1, Nat.le_trans b2 b3, a4, b4, slice_shape f1, slice_shape f2⟩
end Go.Proofs.YtgjmlnpfkmpfgaaGreat
end

section
/-! A list of orders cut in two. -/
namespace Go.Proofs.YtgjmlnpfkmpfgaaGreat
open Go.RowKit
set_option maxRecDepth 100000
set_option linter.unusedVariables false

theorem sizeOs (W : World) : (sizeOf (Tryz.prog.elem 25)).run Tryz.prog W = .ok 8 W := by kernel_rfl
theorem take_flat {α : Type} (f : α → List Int) (c : Nat) (hf : ∀ x, (f x).length = c) (l : List α) (k : Nat) : (l.take k).flatMap f = (l.flatMap f).take (k * c) := by
  induction l generalizing k with
  | nil => simp
  | cons x r ih =>
    cases k with
    | zero => simp
    | succ k =>
      have e1 : (f x).take (c + k * c) = f x := List.take_of_length_le (by rw [hf]; omega)
      rw [List.take_succ_cons, List.flatMap_cons, List.flatMap_cons, ih k, List.take_append, hf, Nat.succ_mul, Nat.add_comm (k * c) c, Nat.add_sub_cancel_left, e1]
theorem drop_flat {α : Type} (f : α → List Int) (c : Nat) (hf : ∀ x, (f x).length = c) (l : List α) (k : Nat) : (l.drop k).flatMap f = (l.flatMap f).drop (k * c) := by
  induction l generalizing k with
  | nil => simp
  | cons x r ih =>
    cases k with
    | zero => simp
    | succ k =>
      have e1 : (f x).drop (c + k * c) = [] := List.drop_of_length_le (by rw [hf]; omega)
      rw [List.drop_succ_cons, List.flatMap_cons, ih k, List.drop_append, hf, Nat.succ_mul, Nat.add_comm (k * c) c, Nat.add_sub_cancel_left, e1, List.nil_append]
theorem OrdersAt.take {W : World} {A : Option Addr} {l : List Ld.O} (h : OrdersAt W A l) (k : Nat) : OrdersAt W A (l.take k) := by
  intro j z hz
  rw [take_flat _ 8 oints_len] at hz
  have hj : j < k * 8 := by have := (List.getElem?_eq_some_iff.1 hz).1; rw [List.length_take] at this; omega
  rw [List.getElem?_take_of_lt hj] at hz
  exact h j z hz
theorem OrdersAt.drop {W : World} {A : Option Addr} {l : List Ld.O} (h : OrdersAt W A l) (k : Nat) : OrdersAt W (A.map (·.add (k * 8))) (l.drop k) := by
  intro j z hz
  rw [drop_flat _ 8 oints_len, List.getElem?_drop] at hz
  obtain ⟨ad, e, hc⟩ := h _ z hz
  subst e
  refine ⟨ad.add (k * 8), rfl, ?_⟩
  rw [add_plus]
  exact hc
/-- l[:k] and l[k:] -/
theorem front_os (A : Option Addr) (n c k : Nat) (hnc : n ≤ c) (hk : k ≤ n) :
    ∀ W : World, (Instr.slice 25 (.slice A n c) none (some (.int .i64 (k : Int))) none).run Tryz.prog W = .ok (.slice A k c) W := by
  intro W
  rw [run_slice_h W 25 A n c (by kernel_rfl) .i64 _ (by omega) (by omega), sizeOs W]
  simp [sliced, Result.andThen]
  intro _
  cases A <;> rfl
theorem back_os (A : Option Addr) (n c k : Nat) (hnc : n ≤ c) (hk : k ≤ n) :
    ∃ A' c', (∀ W : World, (Instr.slice 25 (.slice A n c) (some (.int .i64 (k : Int))) none none).run Tryz.prog W = .ok (.slice A' (n - k) c') W) ∧
      ∀ (W : World) (l : List Ld.O), l.length = n → OrdersAt W A l → OrdersAt W A' (l.drop k) := by
  refine ⟨if c = k then A else A.map (·.add (k * 8)), c - k, fun W => ?_, fun W l hl h => ?_⟩
  · rw [run_slice_l W 25 A n c (by kernel_rfl) .i64 _ (by omega) (by omega), sizeOs W]
    simp [sliced, Result.andThen]
  · by_cases e : k = n
    · rw [List.drop_eq_nil_of_le (by omega)]
      exact IntsAt.nil _ _
    · rw [if_neg (by omega)]
      exact h.drop k
end Go.Proofs.YtgjmlnpfkmpfgaaGreat
end

section
/-! Rows of orders and of trucks of one's own, and a world's box that holds them: what an append makes of them. -/
namespace Go.Proofs.YtgjmlnpfkmpfgaaGreat
open Go.RowKit
set_option maxRecDepth 100000
set_option linter.unusedVariables false

def OwnR {α : Type} (f : α → List Int) (c : Nat) (T : TypeId) (W : World) (base : Nat) (v : Value) (l : List α) : Prop := W.ownsRow base T c v l.length ((l.flatMap f).map (Value.int .i64))
/-- where such a row lies -/
theorem OwnR.row {α : Type} {f : α → List Int} {c : Nat} {T : TypeId} {W : World} {base : Nat} {v : Value} {l : List α} (h : OwnR f c T W base v l) : ∃ A cp, v = .slice A l.length cp ∧ l.length ≤ cp ∧ cp ≤ maxLen ∧ IntsAt W A (l.flatMap f) ∧ ∀ ad, A = some ad → base ≤ ad.block ∧ ad.block < W.heap.size := by
  have h' := h
  rcases h'.2 with ⟨rfl, h2⟩ | ⟨g, cap, cur, rfl, hbg, hg, hnc, hcm, _⟩
  · have : l = [] := List.eq_nil_of_length_eq_zero h2
    subst this
    exact ⟨none, 0, rfl, Nat.le_refl _, by decide, IntsAt.nil _ _, fun ad e => by cases e⟩
  · refine ⟨_, cap, rfl, hnc, hcm, fun k z hz => ⟨_, rfl, h.cells (g := g) rfl k _ ?_⟩, fun ad e => ?_⟩
    · rw [List.getElem?_map, hz]
      rfl
    · obtain rfl := Option.some.inj e
      exact ⟨hbg, (Array.getElem?_eq_some_iff.1 hg).1⟩
theorem OwnR.blocks {α : Type} {f : α → List Int} {c : Nat} {T : TypeId} {W W' : World} {base : Nat} {v : Value} {l : List α} (h : OwnR f c T W base v l) (hb : ∀ k, base ≤ k → k < W.heap.size → W'.heap[k]? = W.heap[k]?) : OwnR f c T W' base v l := by
  obtain ⟨h1, h2⟩ := h
  refine ⟨h1, ?_⟩
  rcases h2 with h2 | ⟨g, cap, cur, hv, hg, hh, r⟩
  · exact .inl h2
  · exact .inr ⟨g, cap, cur, hv, hg, (hb g hg (Array.getElem?_eq_some_iff.1 hh).1).trans hh, r⟩
theorem OwnR.none {α : Type} (f : α → List Int) (c : Nat) (T : TypeId) (W : World) (base : Nat) : OwnR f c T W base (.slice .none 0 0) [] := ⟨by simp, .inl ⟨rfl, rfl⟩⟩

/-- what an append of one leaves -/
def AppR {α : Type} (f : α → List Int) (c : Nat) (T : TypeId) (W : World) (base : Nat) (l : List α) (v' : Value) (w' : World) : Prop := ∃ A cp, v' = .slice A l.length cp ∧ Hid (OwnR f c T w' base v' l ∧ Below base W w')
theorem own_app {α : Type} (f : α → List Int) (c : Nat) (hc : 0 < c) (hc2 : c ≤ 8) (hf : ∀ x, (f x).length = c) (T S : TypeId) (z : Value) (bytes : Nat) (hby : bytes ≤ 64) (hS : Tryz.prog.underlying S = some (.slice T)) (hi : (Tryz.prog.info? T).map (fun i => (i.zero, i.size, i.bytes)) = some (some z, c, bytes)) (hz : z.cells.size = c)
    {W : World} {base : Nat} {v : Value} {l : List α} (h : OwnR f c T W base v l) (hb : base ≤ W.heap.size) (x : α) (cs : Array Value) (hcs : cs = ((f x).map (Value.int .i64)).toArray) (hs : l.length ≤ 1000) :
    ∃ v' w', (Builtin.append_ #[S, S] S #[v, .slice (some ⟨W.heap.size, 0, none⟩) 1 1]).run Tryz.prog (W.alloc (.cells cs T)) = .ok v' w' ∧ AppR f c T W base (l ++ [x]) v' w' := by
  obtain ⟨i0, hi0, hz0, hz1, hz2⟩ := info_parts4 hi
  have hbx : Box (W.alloc (.cells cs T)) W.heap.size cs T := Box.new _ _ _
  obtain ⟨v', w', h1, h2, h3, _⟩ := run_append_own (P := Tryz.prog) (W.alloc (.cells cs T)) base S S T i0 _ c bytes hS hi0 hz0 hz1 hz2 hz hc v l.length ((l.flatMap f).map (Value.int .i64)) (h.blocks fun k _ hk => heap_alloc_old W _ hk) ⟨W.heap.size, 0, none⟩ 1 1 ((f x).map (Value.int .i64)) (by rw [List.length_map, hf, Nat.one_mul])
    (fun j u hu => by
      rw [Addr.add_mid, Nat.zero_add]
      exact hbx.cell j u (by rw [hcs]; simpa using hu)) (by intro y hy; obtain ⟨z, _, rfl⟩ := List.mem_map.1 hy; rfl) (by unfold maxLen; omega)
    (Nat.le_trans (Nat.mul_le_mul (show l.length + 1 ≤ 1001 by omega) hby) (by decide)) (Nat.le_trans hb (below_alloc W _).size)
  have ho : OwnR f c T w' base v' (l ++ [x]) := by
    unfold OwnR
    rw [List.length_append, List.flatMap_append, List.map_append]
    simpa using h2
  obtain ⟨A', cp, e, _⟩ := ho.row
  have hbl : Below base (W.alloc (.cells cs T)) w' := ⟨h3.os, h3.tape, h3.output, h3.size, fun k hk => h3.block k (Nat.lt_of_lt_of_le hk (Nat.le_trans hb (below_alloc W _).size)) (fun e => by
    obtain ⟨A2, c2, e2, _, _, _, hlt⟩ := h.row
    rw [e2] at e
    cases A2 with
    | none => cases e
    | some ad =>
      have := (hlt ad rfl).1
      have : k = ad.block := Option.some.inj e
      omega)⟩
  exact ⟨v', w', h1, A', cp, e, ho, ((below_alloc W _).mono hb).trans hbl⟩

theorem order_info : (Tryz.prog.info? 52).map (fun i => (i.zero, i.size, i.bytes)) = some (some (.agg #[.int .i64 0, .int .i64 0, .int .i64 0, .int .i64 0, .int .i64 0, .int .i64 0, .int .i64 0, .int .i64 0]), 8, 64) := by kernel_rfl
theorem truck_info : (Tryz.prog.info? 54).map (fun i => (i.zero, i.size, i.bytes)) = some (some (.agg #[.int .i64 0, .int .i64 0, .int .i64 0, .int .i64 0, .int .i64 0, .int .i64 0, .int .i64 0]), 7, 56) := by kernel_rfl
def OwnO (W : World) (base : Nat) (v : Value) (l : List Ld.O) : Prop := OwnR Ld.O.ints 8 52 W base v l
def OwnT (W : World) (base : Nat) (v : Value) (l : List Ld.T) : Prop := OwnR Ld.T.ints 7 54 W base v l

/-- append, as one step of a region that draws, at a world known by name -/
theorem step_append_w {P : Program} {w : World} {ops : Array Oper} {o : Oper} {a : Act} {K : Act → World → Prop} {Q : Exit → Act → World → Prop} {E : Prop} (W1 : World) (hw : w = W1) (hgd : o.guard = none) (s x : Operand) (t tn ty : TypeId)
    (ho : o.op = .call { callee := .builtin .append, args := #[s, x], argTypes := #[t, tn] }) (hty : o.type = ty) (vs vx : Value) (hs : a.eval s = vs) (hx : a.eval x = vx)
    (R : Value → World → Prop) (hr : ∃ v' w', (Builtin.append_ #[t, tn] ty #[vs, vx]).run P W1 = .ok v' w' ∧ R v' w')
    (h : ∀ v' w', R v' w' → K (a.put o.dst v') w') : if Region.wanted o (yielded ops a.tmps) = true then Oper.wp P o a w K Q else E := by
  subst hw hty
  obtain ⟨v', w', hr, h2⟩ := hr
  have hw : Region.wanted o (yielded ops a.tmps) = true := by simp [Region.wanted, hgd]
  rw [if_pos hw]
  unfold Oper.wp
  simp [execOp, ho, resolve, invoke, builtin, hs, hx, hr, Result.andThen]
  exact h v' w' h2

/-- the box of a world that is made, while its orders are put in -/
structure L1 (w1 : World) (g : Nat) (N : Int) (v1 v2 : Value) (X : Option Addr) (n cx : Nat) (ro : List Ld.O) (W : World) : Prop where
  bel : Below w1.heap.size w1 W
  glt : g < W.heap.size
  box : Box W g (wV N v1 v2 X n cx none 0 0) 28
  own : OwnO W (g + 1) (.slice X n cx) ro
theorem Box.fz {w : World} {b : Nat} {cs : Array Value} {t : TypeId} (h : Box w b cs t) (k : Nat) : w.frozen? ⟨b, k, none⟩ = false := by unfold World.frozen?; rw [show w.heap[b]? = _ from h]; simp
theorem Box.set {w : World} {b : Nat} {cs : Array Value} {t : TypeId} (h : Box w b cs t) (k : Nat) (v : Value) (cs' : Array Value) (e : cs.setIfInBounds k v = cs') : Box (w.setCell ⟨b, k, none⟩ v) b cs' t := by
  subst e
  unfold Box
  rw [setCell_eq_setRow w b k _ _ _ _ h, setRow_heap w b _ _ _ _ h]
theorem Box.old {w w' : World} {b : Nat} {cs : Array Value} {t : TypeId} (h : Box w b cs t) {B : Nat} (hb : Below B w w') (hB : b < B) : Box w' b cs t := (hb.block b hB).trans h

theorem L1.start {w1 : World} {N : Int} {v1 v2 : Value} : L1 w1 w1.heap.size N v1 v2 none 0 0 [] (w1.alloc (.cells #[.int .i64 N, v1, v2, .slice none 0 0, .slice none 0 0] 28)) :=
  ⟨below_alloc _ _, (Box.new _ _ _).lt, Box.new _ _ _, OwnR.none _ _ _ _ _⟩
theorem L1.step {w1 W w5 : World} {g : Nat} {N : Int} {v1 v2 : Value} {X A : Option Addr} {n cx cp : Nat} {ro : List Ld.O} {o : Ld.O} {n' : Nat} (hg : w1.heap.size ≤ g) (h : L1 w1 g N v1 v2 X n cx ro W) (ho : OwnO w5 (g + 1) (.slice A n' cp) (ro ++ [o])) (hb : Below (g + 1) W w5) :
    L1 w1 g N v1 v2 A n' cp (ro ++ [o]) (w5.setCell ⟨g, 3, none⟩ (.slice A n' cp)) := by
  have hbx := h.box.old hb (Nat.lt_succ_self g)
  refine ⟨?_, by rw [Go.Deep.nblk_setCell]; exact hbx.lt, hbx.set 3 _ _ rfl, ho.blocks fun k hk _ => Go.Deep.blk_setCell_other _ _ _ _ (by show k ≠ g; omega)⟩
  exact (h.bel.trans (hb.mono (by omega))).setCell (p := ⟨g, 3, none⟩) hg _
/-- the same, while its trucks are put in -/
structure L2 (w1 : World) (g B : Nat) (N : Int) (v1 v2 : Value) (X : Option Addr) (n cx : Nat) (ro : List Ld.O) (Y : Option Addr) (k cy : Nat) (rt : List Ld.T) (W : World) : Prop where
  bel : Below w1.heap.size w1 W
  gB : g < B
  hB : B ≤ W.heap.size
  box : Box W g (wV N v1 v2 X n cx Y k cy) 28
  ro : OrdersAt W X ro
  at_ : ∀ ad, X = some ad → g < ad.block ∧ ad.block < B
  own : OwnT W B (.slice Y k cy) rt
theorem OrdersAt.blocks {W W' : World} {X : Option Addr} {l : List Ld.O} (h : OrdersAt W X l) (hb : ∀ ad, X = some ad → W'.heap[ad.block]? = W.heap[ad.block]?) : OrdersAt W' X l := by
  intro j z hz
  obtain ⟨ad, e, hc⟩ := h j z hz
  refine ⟨ad, e, ?_⟩
  have hblk : (ad.add j).block = ad.block := by unfold Addr.add; split <;> rfl
  rw [World.cell?_of_block (w := W) (w' := W') (by rw [hblk]; exact hb ad e)]
  exact hc
theorem L2.start {w1 W : World} {g : Nat} {N : Int} {v1 v2 : Value} {X : Option Addr} {n cx : Nat} {ro : List Ld.O} (h : L1 w1 g N v1 v2 X n cx ro W) : L2 w1 g W.heap.size N v1 v2 X n cx ro none 0 0 [] W := by
  obtain ⟨A, cp, e, _, _, hi, hat⟩ := h.own.row
  injection e with e1 e2 e3
  subst e1
  exact ⟨h.bel, h.glt, Nat.le_refl _, h.box, hi, fun ad e => ⟨by have := (hat ad e).1; omega, (hat ad e).2⟩, OwnR.none _ _ _ _ _⟩
theorem L2.step {w1 W w5 : World} {g B : Nat} {N : Int} {v1 v2 : Value} {X Y A : Option Addr} {n cx k cy cp : Nat} {ro : List Ld.O} {rt : List Ld.T} {t : Ld.T} {n' : Nat} (hg : w1.heap.size ≤ g) (h : L2 w1 g B N v1 v2 X n cx ro Y k cy rt W) (ho : OwnT w5 B (.slice A n' cp) (rt ++ [t])) (hb : Below B W w5) :
    L2 w1 g B N v1 v2 X n cx ro A n' cp (rt ++ [t]) (w5.setCell ⟨g, 4, none⟩ (.slice A n' cp)) := by
  have hbx := h.box.old hb h.gB
  have hgB := h.gB
  refine ⟨?_, h.gB, by rw [Go.Deep.nblk_setCell]; exact Nat.le_trans h.hB hb.size, hbx.set 4 _ _ rfl, ?_, h.at_, ho.blocks fun k hk _ => Go.Deep.blk_setCell_other _ _ _ _ (by show k ≠ g; omega)⟩
  · exact (h.bel.trans (hb.mono (by omega))).setCell (p := ⟨g, 4, none⟩) hg _
  · refine h.ro.blocks fun ad e => ?_
    have hat := h.at_ ad e
    rw [Go.Deep.blk_setCell_other _ _ _ _ (by show ad.block ≠ g; omega)]
    exact hb.block _ hat.2
theorem drew_alloc (W : World) (o : Obj) : W.drew.alloc o = (W.alloc o).drew := rfl
/-- what putting one more order in leaves -/
def Put1 (w1 : World) (g : Nat) (N : Int) (v1 v2 : Value) (X : Option Addr) (n cx n' : Nat) (ro' : List Ld.O) (v' : Value) (w5 : World) : Prop :=
  ∃ A cp, v' = .slice A n' cp ∧ w5.cell? ⟨g, 3, none⟩ = some (.slice X n cx) ∧ w5.frozen? ⟨g, 3, none⟩ = false ∧ Hid (L1 w1 g N v1 v2 A n' cp ro' (w5.setCell ⟨g, 3, none⟩ (.slice A n' cp)))
theorem L1.put {w1 W : World} {g : Nat} {N : Int} {v1 v2 : Value} {X : Option Addr} {n cx : Nat} {ro : List Ld.O} (hg : w1.heap.size ≤ g) (h : L1 w1 g N v1 v2 X n cx ro W) (a0 a1 a2 a3 a4 a5 a6 a7 : Int) (ro' : List Ld.O) (n' : Nat) (hro : ro ++ [⟨a0, a1, a2, a3, a4, a5, a6, a7⟩] = ro') (hn : ro'.length = n') (hs : ro.length ≤ 1000) :
    ∃ v' w', (Builtin.append_ #[25, 25] 25 #[.slice X n cx, .slice (some ⟨W.heap.size, 0, none⟩) 1 1]).run Tryz.prog ((W.alloc (.cells #[.int .i64 a0, .int .i64 a1, .int .i64 a2, .int .i64 a3, .int .i64 a4, .int .i64 a5, .int .i64 a6, .int .i64 a7] 52)).drew) = .ok v' w' ∧ Put1 w1 g N v1 v2 X n cx n' ro' v' w' := by
  subst hro hn
  obtain ⟨v', w5, hr, A, cp, rfl, hf⟩ := own_app Ld.O.ints 8 (by omega) (by omega) oints_len 52 25 _ 64 (by omega) Tryz.underlying25 order_info rfl (W := W.drew) (base := g + 1) (l := ro) h.own h.glt ⟨a0, a1, a2, a3, a4, a5, a6, a7⟩ #[.int .i64 a0, .int .i64 a1, .int .i64 a2, .int .i64 a3, .int .i64 a4, .int .i64 a5, .int .i64 a6, .int .i64 a7] rfl hs
  rw [drew_alloc] at hr
  have hb : Below (g + 1) W w5 := ((Below.refl (g + 1) W).drew).trans hf.out.2
  have hbx : Box w5 g _ _ := h.box.old hb (Nat.lt_succ_self g)
  exact ⟨_, w5, hr, A, cp, rfl, hbx.cell 3 _ rfl, hbx.fz 3, L1.step hg h hf.out.1 hb⟩
/-- what putting one more truck in leaves -/
def Put2 (w1 : World) (g B : Nat) (N : Int) (v1 v2 : Value) (X : Option Addr) (n cx : Nat) (ro : List Ld.O) (Y : Option Addr) (k cy n' : Nat) (rt' : List Ld.T) (v' : Value) (w5 : World) : Prop :=
  ∃ A cp, v' = .slice A n' cp ∧ w5.cell? ⟨g, 4, none⟩ = some (.slice Y k cy) ∧ w5.frozen? ⟨g, 4, none⟩ = false ∧ Hid (L2 w1 g B N v1 v2 X n cx ro A n' cp rt' (w5.setCell ⟨g, 4, none⟩ (.slice A n' cp)))
theorem L2.put {w1 W : World} {g B : Nat} {N : Int} {v1 v2 : Value} {X Y : Option Addr} {n cx k cy : Nat} {ro : List Ld.O} {rt : List Ld.T} (hg : w1.heap.size ≤ g) (h : L2 w1 g B N v1 v2 X n cx ro Y k cy rt W) (a0 a1 a2 a3 a4 a5 a6 : Int) (rt' : List Ld.T) (n' : Nat) (hro : rt ++ [⟨a0, a1, a2, a3, a4, a5, a6⟩] = rt') (hn : rt'.length = n') (hs : rt.length ≤ 1000) :
    ∃ v' w', (Builtin.append_ #[26, 26] 26 #[.slice Y k cy, .slice (some ⟨W.heap.size, 0, none⟩) 1 1]).run Tryz.prog ((W.alloc (.cells #[.int .i64 a0, .int .i64 a1, .int .i64 a2, .int .i64 a3, .int .i64 a4, .int .i64 a5, .int .i64 a6] 54)).drew) = .ok v' w' ∧ Put2 w1 g B N v1 v2 X n cx ro Y k cy n' rt' v' w' := by
  subst hro hn
  obtain ⟨v', w5, hr, A, cp, rfl, hf⟩ := own_app Ld.T.ints 7 (by omega) (by omega) tints_len 54 26 _ 56 (by omega) Tryz.underlying26 truck_info rfl (W := W.drew) (base := B) (l := rt) h.own h.hB ⟨a0, a1, a2, a3, a4, a5, a6⟩ #[.int .i64 a0, .int .i64 a1, .int .i64 a2, .int .i64 a3, .int .i64 a4, .int .i64 a5, .int .i64 a6] rfl hs
  rw [drew_alloc] at hr
  have hb : Below B W w5 := ((Below.refl B W).drew).trans hf.out.2
  have hbx : Box w5 g _ _ := h.box.old hb h.gB
  exact ⟨_, w5, hr, A, cp, rfl, hbx.cell 4 _ rfl, hbx.fz 4, L2.step hg h hf.out.1 hb⟩
theorem L2.trucks {w1 W : World} {g B : Nat} {N : Int} {v1 v2 : Value} {X Y : Option Addr} {n cx k cy : Nat} {ro : List Ld.O} {rt : List Ld.T} (h : L2 w1 g B N v1 v2 X n cx ro Y k cy rt W) : rt.length = k ∧ TrucksAt W Y rt := by
  obtain ⟨A, cp, e, _, _, hi, _⟩ := h.own.row
  injection e with e1 e2 e3
  subst e1
  exact ⟨e2.symm, hi⟩
theorem L1.count {w1 W : World} {g : Nat} {N : Int} {v1 v2 : Value} {X : Option Addr} {n cx : Nat} {ro : List Ld.O} (h : L1 w1 g N v1 v2 X n cx ro W) : ro.length = n ∧ n ≤ cx := by
  obtain ⟨A, cp, e, hl, _⟩ := h.own.row
  injection e with e1 e2 e3
  subst e2 e3
  exact ⟨rfl, hl⟩
/-- a world that is made, and stands -/
structure Made (w1 : World) (g : Nat) (N : Int) (v1 v2 : Value) (X : Option Addr) (n cx : Nat) (ro : List Ld.O) (Y : Option Addr) (k cy : Nat) (rt : List Ld.T) (W : World) : Prop where
  bel : Below w1.heap.size w1 W
  box : Box W g (wV N v1 v2 X n cx Y k cy) 28
  ro : OrdersAt W X ro
  rt : TrucksAt W Y rt
theorem Made.below {w1 W W' : World} {g : Nat} {N : Int} {v1 v2 : Value} {X Y : Option Addr} {n cx k cy : Nat} {ro : List Ld.O} {rt : List Ld.T} (h : Made w1 g N v1 v2 X n cx ro Y k cy rt W) (hb : Below W.heap.size W W') : Made w1 g N v1 v2 X n cx ro Y k cy rt W' :=
  ⟨below_next h.bel hb, h.box.below hb, h.ro.below hb, h.rt.below hb⟩
theorem L2.made {w1 W : World} {g B : Nat} {N : Int} {v1 v2 : Value} {X Y : Option Addr} {n cx k cy : Nat} {ro : List Ld.O} {rt : List Ld.T} (h : L2 w1 g B N v1 v2 X n cx ro Y k cy rt W) : Made w1 g N v1 v2 X n cx ro Y k cy rt W := ⟨h.bel, h.box, h.ro, h.trucks.2⟩
theorem TrucksAt.blocks {W W' : World} {X : Option Addr} {l : List Ld.T} (h : TrucksAt W X l) (hb : ∀ ad, X = some ad → W'.heap[ad.block]? = W.heap[ad.block]?) : TrucksAt W' X l := by
  intro j z hz
  obtain ⟨ad, e, hc⟩ := h j z hz
  refine ⟨ad, e, ?_⟩
  have hblk : (ad.add j).block = ad.block := by unfold Addr.add; split <;> rfl
  rw [World.cell?_of_block (w := W) (w' := W') (by rw [hblk]; exact hb ad e)]
  exact hc
theorem L2.cut {w1 W w4 : World} {g B : Nat} {N : Int} {v1 v2 : Value} {X Y : Option Addr} {n cx k cy : Nat} {ro : List Ld.O} {rt : List Ld.T} (hg : w1.heap.size ≤ g) (h : L2 w1 g B N v1 v2 X n cx ro Y k cy rt W) (hb : Below W.heap.size W w4) (X' : Option Addr) (n1 c1 : Nat) (hX : ∀ U : World, OrdersAt U X ro → OrdersAt U X' (ro.drop 1)) :
    Made w1 g N v1 v2 X' n1 c1 (ro.drop 1) Y k cy rt (w4.setCell ⟨g, 3, none⟩ (.slice X' n1 c1)) := by
  have hm := h.made.below hb
  have hgB := h.gB
  obtain ⟨A, cp, e, _, _, hi, hat⟩ := h.own.row
  injection e with e1 e2 e3
  subst e1
  refine ⟨hm.bel.setCell (p := ⟨g, 3, none⟩) hg _, hm.box.set 3 _ _ rfl, hX _ (hm.ro.blocks fun ad e => ?_), hm.rt.blocks fun ad e => ?_⟩
  · have := (h.at_ ad e).1
    exact Go.Deep.blk_setCell_other _ _ _ _ (by show ad.block ≠ g; omega)
  · have := (hat ad e).1
    exact Go.Deep.blk_setCell_other _ _ _ _ (by show ad.block ≠ g; omega)
theorem rest_os (X : Option Addr) (n cx : Nat) (ro : List Ld.O) (hl : ro.length = n) (hn : 1 ≤ n) (hc : n ≤ cx) : ∃ X' c', (∀ W : World, (Instr.slice 25 (.slice X n cx) (some (.int .i64 1)) none none).run Tryz.prog W = .ok (.slice X' (n - 1) c') W) ∧ ∀ U : World, OrdersAt U X ro → OrdersAt U X' (ro.drop 1) := by
  obtain ⟨X', c', h1, h2⟩ := back_os X n cx 1 hc hn
  exact ⟨X', c', fun W => h1 W, fun U h => h2 U ro hl h⟩
end Go.Proofs.YtgjmlnpfkmpfgaaGreat
end
