/- What is read of an argument that is a list of values. -/
import Derived.Test.YthncabfeieombaaPackAw
import Derived.ProofKit
import Derived.OpenShut
import Derived.ShutString
import Derived.ChangeOld
import Derived.SizedLaws
import Derived.Deep.Slices
import Derived.Deep.Fields
namespace Go.Proofs.Ythncabfeieombaa
open Go.ChangeShapes Go.WideShapes Go.ChangeAt Go.RowKit Go.Deep

theorem cells34 : Try.prog.cellsOf 34 = 2 := by kernel_rfl
theorem cells2 : Try.prog.cellsOf 2 = 1 := by kernel_rfl
theorem cells9 : Try.prog.cellsOf 9 = 1 := by kernel_rfl

/-- one value of the list -/
def OneVal {H : Type} (W : World) (x : Addr) (D : Nat → DataW H) (i : Nat) (v : Pk.V) : Prop :=
  W.cell? (x.add (i * 2)) = some (.int .i64 v.1) ∧ W.cell? (x.add (i * 2 + 1)) = some (.string v.2) ∧ D i = .agg [.lit (.int .i64 v.1), .lit (.string v.2.data.toList)]

theorem list_of {α : Type} (P : Nat → α → Prop) : ∀ (n : Nat), (∀ i, i < n → ∃ v, P i v) → ∃ l : List α, l.length = n ∧ ∀ (i : Nat) (v : α), l[i]? = some v → P i v := by
  intro n
  induction n with
  | zero => intro _; exact ⟨[], rfl, fun i v h => by simp at h⟩
  | succ n ih =>
    intro h
    obtain ⟨l, hl, hp⟩ := ih fun i hi => h i (by omega)
    obtain ⟨v, hv⟩ := h n (by omega)
    refine ⟨l ++ [v], by simp [hl], fun i x hx => ?_⟩
    by_cases hi : i < l.length
    · rw [List.getElem?_append_left hi] at hx
      exact hp i x hx
    · rw [List.getElem?_append_right (by omega)] at hx
      have h0 : i - l.length = 0 := by
        rcases Nat.eq_zero_or_pos (i - l.length) with h0 | h0
        · exact h0
        · rw [List.getElem?_eq_none (by simp; omega)] at hx; cases hx
      rw [h0] at hx
      simp at hx
      subst hx
      obtain rfl : i = n := by omega
      exact hv

theorem weights_mem {H : Type} {P : Program} {e : TypeId} {x : Nat} {d : DataW H} : ∀ {ds : List (DataW H)}, d ∈ ds → x ∈ d.weights P e → x ∈ DataW.weightsAll P e ds := by
  intro ds
  induction ds with
  | nil => intro h; cases h
  | cons y ds ih =>
    intro h hx
    rw [DataW.weightsAll, List.mem_append]
    rcases List.mem_cons.1 h with rfl | h
    · exact .inl hx
    · exact .inr (ih h hx)

theorem open_vals {H : Type} {enc : TypeId × Value → H} {W : World} {a : Option Addr} {len cap : Nat} {d : DataW H} {p : List MemPlace}
    (h : DataW.Trod enc Try.prog W 0 (fun _ => true) true 22 (.slice a len cap) d p) :
    ∃ l : List Pk.V, l.length = len ∧ len ≤ cap ∧ cap ≤ maxLen ∧ ValsIn W W.heap.size a l ∧ (a = none → len = 0 ∧ cap = 0) ∧ ∀ v ∈ l, v.2.size ∈ d.weights Try.prog 22 := by
  obtain ⟨fuel, hf⟩ := h
  rcases open_slice Try.underlying22 hf with ⟨hcs, _⟩ | ⟨x, l, c, m, n, D, Pl, hcs, _, hl, hm, hmm, hx, hi⟩
  · simp [Value.cells] at hcs
    obtain ⟨rfl, rfl, rfl⟩ := hcs
    exact ⟨[], rfl, Nat.le_refl _, by decide, CellsIn.nil _ _ _, fun _ => ⟨rfl, rfl⟩, fun v hv => by cases hv⟩
  · simp [Value.cells] at hcs
    obtain ⟨rfl, rfl, rfl⟩ := hcs
    simp at hmm
    subst hmm
    have hone : ∀ i, i < len → ∃ v : Pk.V, OneVal W x D i v := by
      intro i hil
      obtain ⟨cs', hc, ht⟩ := hi i (by omega)
      rw [cells34] at hc
      obtain ⟨ys, n', _, hy, hlen, hyl, hfs⟩ := DataW.trod_struct Try.underlying34 ht
      obtain ⟨_, hcl, hat⟩ := World.cells?_some hc
      have h0 := hfs 0 _ rfl
      have h1 := hfs 1 _ rfl
      match cs', hcl with
      | [c0, c1], _ =>
        match ys, hyl with
        | [y0, y1], _ =>
          have h0' : DataW.trod enc Try.prog W 0 (fun _ => true) true n' 2 [c0] = some y0 := by
            simpa [cells2] using h0
          have h1' : DataW.trod enc Try.prog W 0 (fun _ => true) true n' 9 [c1] = some y1 := by
            simpa [cells9] using h1
          obtain ⟨z, hz, hyz, _⟩ := DataW.trod_int Try.underlying2 h0'
          obtain ⟨s, hs, hys, _⟩ := DataW.trod_string Try.underlying9 h1'
          simp at hz hs
          subst hz hs hyz hys
          refine ⟨(z, s), ?_, ?_, ?_⟩
          · have := hat 0 (by omega)
            rw [add_add', Nat.add_zero] at this
            simpa using this
          · have := hat 1 (by omega)
            rw [add_add'] at this
            simpa using this
          · simp only [Prod.mk.injEq] at hy
            simpa using hy.1
    obtain ⟨vs, hvl, hvs⟩ := list_of (OneVal W x D) len hone
    refine ⟨vs, hvl, hl, hm, ?_, (fun h => by cases h), ?_⟩
    · intro k u hu
      have hk2 : k / 2 < vs.length := by
        have := (List.getElem?_eq_some_iff.1 hu).1
        rw [vcs_length] at this
        omega
      obtain ⟨v, hv⟩ := some_at vs (k / 2) hk2
      obtain ⟨h1, h2⟩ := vcs_at vs (k / 2) v hv
      obtain ⟨o1, o2, _⟩ := hvs (k / 2) v hv
      have hblk : x.block < W.heap.size := by
        have := World.block_lt_of_cell? W _ o1
        rw [block_add] at this
        exact this
      refine ⟨x, rfl, hblk, ?_⟩
      rcases Nat.mod_two_eq_zero_or_one k with hm2 | hm2
      · have e : k / 2 * 2 = k := by omega
        rw [e] at h1 o1
        rw [o1, ← h1, hu]
      · have e : k / 2 * 2 + 1 = k := by omega
        rw [e] at h2 o2
        rw [o2, ← h2, hu]
    · intro v hv
      obtain ⟨i, hi'⟩ := List.getElem?_of_mem hv
      obtain ⟨_, _, hD⟩ := hvs i v hi'
      have hil : i < len := by have := (List.getElem?_eq_some_iff.1 hi').1; omega
      simp only [Prod.mk.injEq] at hx
      obtain ⟨rfl, _⟩ := hx
      simp only [DataW.weights, Try.underlying22]
      refine List.mem_cons_of_mem _ (List.mem_append_left _ (weights_mem (d := D i) (List.mem_map.2 ⟨i, List.mem_range.2 hil, rfl⟩) ?_))
      rw [hD]
      simp only [DataW.weights, Try.underlying34]
      simp [DataW.weightsEach, DataW.weights]

theorem open_bytes {H : Type} {enc : TypeId × Value → H} {W : World} {a : Option Addr} {len cap : Nat} {d : DataW H} {p : List MemPlace}
    (h : DataW.Trod enc Try.prog W 0 (fun _ => true) true 25 (.slice a len cap) d p) :
    ∃ l : Pk.Bs, l.length = len ∧ len ≤ cap ∧ cap ≤ maxLen ∧ BytesIn W W.heap.size a l := by
  obtain ⟨fuel, hf⟩ := h
  rcases open_ints Try.underlying25 Try.underlying5 (by kernel_rfl) hf with ⟨hcs, _⟩ | ⟨x, l, c, zs, hcs, _, hl, hm, hz, _, hcell, hwz⟩
  · simp [Value.cells] at hcs
    obtain ⟨rfl, rfl, rfl⟩ := hcs
    exact ⟨[], rfl, Nat.le_refl _, by decide, CellsIn.nil _ _ _⟩
  · simp [Value.cells] at hcs
    obtain ⟨rfl, rfl, rfl⟩ := hcs
    have hz' : zs.length = cap := by simpa using hz
    refine ⟨(zs.take len).map (fun z => UInt8.ofNat z.toNat), by rw [List.length_map, List.length_take]; omega, hl, hm, ?_⟩
    intro k u hu
    rw [List.map_map, List.getElem?_map] at hu
    cases e : (zs.take len)[k]? with
    | none => rw [e] at hu; simp at hu
    | some z =>
      rw [e] at hu
      have hkl : k < len := by have := (List.getElem?_eq_some_iff.1 e).1; rw [List.length_take] at this; omega
      have hmem : z ∈ zs := List.mem_of_mem_take (List.mem_of_getElem? e)
      have hw2 : 0 ≤ z ∧ z ≤ 255 := by simpa [Lit.wf, IntKind.min, IntKind.max, IntKind.bits, IntKind.signed] using hwz z hmem
      rw [List.getElem?_take_of_lt hkl] at e
      have hc := hcell k (by omega)
      rw [List.getD_eq_getElem?_getD, e] at hc
      simp only [Option.getD_some] at hc
      have hblk : x.block < W.heap.size := by
        have := World.block_lt_of_cell? W _ hc
        rw [block_add] at this
        exact this
      refine ⟨x, rfl, hblk, ?_⟩
      obtain rfl := Option.some.inj hu
      rw [hc]
      simp only [Function.comp, bv]
      rw [Pk.toNat_ofNat (by omega)]
      congr 2
      omega

end Go.Proofs.Ythncabfeieombaa
