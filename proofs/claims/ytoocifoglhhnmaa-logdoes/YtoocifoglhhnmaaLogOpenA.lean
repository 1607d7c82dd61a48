/- What is read of an argument that is a list of operations. -/
import Derived.Test.YtoocifoglhhnmaaLogL
import Derived.ProofKit
import Derived.OpenShut
import Derived.ShutString
import Derived.ChangeOld
import Derived.SizedLaws
import Derived.Deep.Slices
import Derived.Deep.Fields
namespace Go.Proofs.Ytoocifoglhhnmaa
open Go.ChangeShapes Go.WideShapes Go.ChangeAt Go.RowKit Go.Deep

theorem cellsOp : Try.prog.cellsOf 40 = 4 := by kernel_rfl
theorem cellsInt : Try.prog.cellsOf 3 = 1 := by kernel_rfl
theorem cellsBs : Try.prog.cellsOf 38 = 1 := by kernel_rfl
theorem bytesU8 : Try.prog.bytesOf 5 = 1 := by kernel_rfl

theorem list_of {α : Type} (P : Nat → α → Prop) : ∀ (n : Nat), (∀ i, i < n → ∃ v, P i v) → ∃ l : List α, l.length = n ∧ ∀ (i : Nat) (v : α), l[i]? = some v → P i v := by
  intro n
  induction n with
  | zero => intro _; exact ⟨[], rfl, fun i v h => by simp at h⟩
  | succ n ih =>
    intro h
    obtain ⟨l, hl, hp⟩ := ih fun i hi => h i (by omega)
    obtain ⟨v, hv⟩ := h n (by omega)
    refine ⟨l ++ [v], by simp [hl], fun i x hx => ?_⟩
    by_cases hi : i < l.length
    · rw [List.getElem?_append_left hi] at hx
      exact hp i x hx
    · rw [List.getElem?_append_right (by omega)] at hx
      have h0 : i - l.length = 0 := by
        rcases Nat.eq_zero_or_pos (i - l.length) with h0 | h0
        · exact h0
        · rw [List.getElem?_eq_none (by simp; omega)] at hx; cases hx
      rw [h0] at hx
      simp at hx
      subst hx
      obtain rfl : i = n := by omega
      exact hv

theorem weights_mem {H : Type} {P : Program} {e : TypeId} {x : Nat} {d : DataW H} : ∀ {ds : List (DataW H)}, d ∈ ds → x ∈ d.weights P e → x ∈ DataW.weightsAll P e ds := by
  intro ds
  induction ds with
  | nil => intro h; cases h
  | cons y ds ih =>
    intro h hx
    rw [DataW.weightsAll, List.mem_append]
    rcases List.mem_cons.1 h with rfl | h
    · exact .inl hx
    · exact .inr (ih h hx)

theorem u8_back (z : Int) (h0 : 0 ≤ z) (h1 : z ≤ 255) : ((UInt8.ofNat z.toNat).toNat : Int) = z := by
  rw [UInt8.toNat_ofNat']
  omega

/-- a slice of bytes that came in -/
theorem bytes_field {H : Type} {enc : TypeId × Value → H} {W : World} {fuel : Nat} {v : Value} {y : DataW H × List MemPlace}
    (hf : DataW.trod enc Try.prog W 0 (fun _ => true) true fuel 38 [v] = some y) :
    ∃ (A : Option Addr) (m cap : Nat) (l : Dk.Bs), v = .slice A m cap ∧ l.length = m ∧ m ≤ cap ∧ BytesIn (Mine W.heap.size) W A l ∧ (cap = 0 ∨ cap ∈ y.1.weights Try.prog 38) := by
  rcases open_ints Try.underlying38 Try.underlying5 (by kernel_rfl) hf with ⟨hcs, _⟩ | ⟨x, l, c, zs, hcs, _, hl, hm, hz, hy, hcell, hwz⟩
  · obtain rfl : v = .slice none 0 0 := by simpa using hcs
    exact ⟨none, 0, 0, [], rfl, rfl, Nat.le_refl _, CellsIn.nil _ _ _, .inl rfl⟩
  · obtain rfl : v = .slice (some x) l c := by simpa using hcs
    have hz' : zs.length = c := by simpa using hz
    refine ⟨some x, l, c, (zs.take l).map (fun z => UInt8.ofNat z.toNat), rfl, by rw [List.length_map, List.length_take]; omega, hl, ?_, ?_⟩
    · intro k u hu
      rw [List.map_map, List.getElem?_map] at hu
      cases e : (zs.take l)[k]? with
      | none => rw [e] at hu; simp at hu
      | some z =>
        rw [e] at hu
        have hkl : k < l := by have := (List.getElem?_eq_some_iff.1 e).1; rw [List.length_take] at this; omega
        have hmem : z ∈ zs := List.mem_of_mem_take (List.mem_of_getElem? e)
        have hw2 : 0 ≤ z ∧ z ≤ 255 := by simpa [Lit.wf, IntKind.min, IntKind.max, IntKind.bits, IntKind.signed] using hwz z hmem
        rw [List.getElem?_take_of_lt hkl] at e
        have hc := hcell k (by omega)
        rw [List.getD_eq_getElem?_getD, e] at hc
        simp only [Option.getD_some] at hc
        have hblk : x.block < W.heap.size := by
          have := World.block_lt_of_cell? W _ hc
          rw [block_add] at this
          exact this
        refine ⟨x, rfl, hblk, fun h => by unfold Mine at h; omega, ?_⟩
        obtain rfl := Option.some.inj hu
        rw [hc]
        simp only [Function.comp, bv]
        rw [u8_back z hw2.1 hw2.2]
    · right
      rw [hy]
      simp only [DataW.weights, Try.underlying38, bytesU8]
      simp [lits]
      left
      omega

/-- one operation of the list -/
structure OneOp {H : Type} (W : World) (x : Addr) (D : Nat → DataW H) (i : Nat) (v : Ox) : Prop where
  c0 : W.cell? (x.add (i * 4)) = some (.int .i64 v.o)
  c1 : W.cell? (x.add (i * 4 + 1)) = some (.int .i64 v.a)
  c2 : W.cell? (x.add (i * 4 + 2)) = some (.int .i64 v.c)
  c3 : W.cell? (x.add (i * 4 + 3)) = some (.slice v.A v.m v.cap)
  a0 : -9223372036854775808 ≤ v.a
  a1 : v.a ≤ 9223372036854775807
  len : v.l.length = v.m
  m0 : v.m ≤ v.cap
  bytes : BytesIn (Mine W.heap.size) W v.A v.l
  wt : v.cap = 0 ∨ v.cap ∈ (D i).weights Try.prog 40

set_option maxRecDepth 100000 in
theorem open_ops {H : Type} {enc : TypeId × Value → H} {W : World} {a : Option Addr} {len cap : Nat} {d : DataW H} {p : List MemPlace}
    (h : DataW.Trod enc Try.prog W 0 (fun _ => true) true 22 (.slice a len cap) d p) :
    ∃ l : List Ox, l.length = len ∧ len ≤ cap ∧ cap ≤ maxLen ∧ (∀ x ∈ l, x.cap = 0 ∨ x.cap ∈ d.weights Try.prog 22) ∧ ((∀ x ∈ l, x.cap ≤ 140737488355328) → OpsIn W.heap.size W a l) := by
  obtain ⟨fuel, hf⟩ := h
  rcases open_slice Try.underlying22 hf with ⟨hcs, _⟩ | ⟨x, l, c, m, n, D, Pl, hcs, _, hl, hm, hmm, hx, hi⟩
  · simp [Value.cells] at hcs
    obtain ⟨rfl, rfl, rfl⟩ := hcs
    exact ⟨[], rfl, Nat.le_refl _, by decide, (fun v hv => by cases hv), fun _ => ⟨CellsIn.nil _ _ _, fun v hv => by cases hv⟩⟩
  · simp [Value.cells] at hcs
    obtain ⟨rfl, rfl, rfl⟩ := hcs
    simp at hmm
    subst hmm
    have hone : ∀ i, i < len → ∃ v : Ox, OneOp W x D i v := by
      intro i hil
      obtain ⟨cs', hc, ht⟩ := hi i (by omega)
      rw [cellsOp] at hc
      obtain ⟨ys, n', _, hy, hlen, hyl, hfs⟩ := DataW.trod_struct Try.underlying40 ht
      obtain ⟨_, hcl, hat⟩ := World.cells?_some hc
      have h0 := hfs 0 _ rfl
      have h1 := hfs 1 _ rfl
      have h2 := hfs 2 _ rfl
      have h3 := hfs 3 _ rfl
      match cs', hcl with
      | [c0, c1, c2, c3], _ =>
        match ys, hyl with
        | [y0, y1, y2, y3], _ =>
          have h0' : DataW.trod enc Try.prog W 0 (fun _ => true) true n' 3 [c0] = some y0 := by simpa [cellsInt] using h0
          have h1' : DataW.trod enc Try.prog W 0 (fun _ => true) true n' 3 [c1] = some y1 := by simpa [cellsInt] using h1
          have h2' : DataW.trod enc Try.prog W 0 (fun _ => true) true n' 3 [c2] = some y2 := by simpa [cellsInt] using h2
          have h3' : DataW.trod enc Try.prog W 0 (fun _ => true) true n' 38 [c3] = some y3 := by simpa [cellsBs] using h3
          obtain ⟨z0, hz0, hyz0, _⟩ := DataW.trod_int Try.underlying3 h0'
          obtain ⟨z1, hz1, hyz1, hw1⟩ := DataW.trod_int Try.underlying3 h1'
          obtain ⟨z2, hz2, hyz2, _⟩ := DataW.trod_int Try.underlying3 h2'
          obtain ⟨A, m, cp, l, hs, hlm, hmc, hby, hwt⟩ := bytes_field h3'
          simp at hz0 hz1 hz2
          subst hz0 hz1 hz2 hs hyz0 hyz1 hyz2
          have hr : -9223372036854775808 ≤ z1 ∧ z1 ≤ 9223372036854775807 := by simpa [Lit.wf, IntKind.min, IntKind.max, IntKind.bits, IntKind.signed] using hw1
          refine ⟨⟨z0, z1, z2, A, m, cp, l⟩, ?_, ?_, ?_, ?_, hr.1, hr.2, hlm, hmc, hby, ?_⟩
          · have := hat 0 (by omega)
            rw [add_add', Nat.add_zero] at this
            simpa using this
          · have := hat 1 (by omega)
            rw [add_add'] at this
            simpa using this
          · have := hat 2 (by omega)
            rw [add_add'] at this
            simpa using this
          · have := hat 3 (by omega)
            rw [add_add'] at this
            simpa using this
          · simp only [Prod.mk.injEq] at hy
            rcases hwt with h | h
            · exact .inl h
            · right
              rw [hy.1]
              simp only [DataW.weights, Try.underlying40]
              simp [DataW.weightsEach, DataW.weights]
              exact h
    obtain ⟨vs, hvl, hvs⟩ := list_of (OneOp W x D) len hone
    refine ⟨vs, hvl, hl, hm, ?_, fun hcap => ⟨?_, ?_⟩⟩
    · intro v hv
      obtain ⟨i, hi'⟩ := List.getElem?_of_mem hv
      have o := hvs i v hi'
      have hil : i < len := by have := (List.getElem?_eq_some_iff.1 hi').1; omega
      rcases o.wt with h | h
      · exact .inl h
      · right
        simp only [Prod.mk.injEq] at hx
        obtain ⟨rfl, _⟩ := hx
        simp only [DataW.weights, Try.underlying22]
        exact List.mem_cons_of_mem _ (List.mem_append_left _ (weights_mem (d := D i) (List.mem_map.2 ⟨i, List.mem_range.2 hil, rfl⟩) h))
    · intro k u hu
      have hk2 : k / 4 < vs.length := by
        have := (List.getElem?_eq_some_iff.1 hu).1
        rw [ocs_length] at this
        omega
      obtain ⟨v, hv⟩ := some_at vs (k / 4) hk2
      obtain ⟨h0, h1, h2, h3⟩ := ocs_at vs (k / 4) v hv
      have o := hvs (k / 4) v hv
      have hblk : x.block < W.heap.size := by
        have := World.block_lt_of_cell? W _ o.c0
        rw [block_add] at this
        exact this
      refine ⟨x, rfl, hblk, fun h => by unfold Mine at h; omega, ?_⟩
      have o0 := o.c0
      have o1 := o.c1
      have o2 := o.c2
      have o3 := o.c3
      have hm4 : k % 4 = 0 ∨ k % 4 = 1 ∨ k % 4 = 2 ∨ k % 4 = 3 := by omega
      rcases hm4 with hm4 | hm4 | hm4 | hm4
      · have e : k / 4 * 4 = k := by omega
        rw [e] at h0 o0
        rw [o0, ← h0, hu]
      · have e : k / 4 * 4 + 1 = k := by omega
        rw [e] at h1 o1
        rw [o1, ← h1, hu]
      · have e : k / 4 * 4 + 2 = k := by omega
        rw [e] at h2 o2
        rw [o2, ← h2, hu]
      · have e : k / 4 * 4 + 3 = k := by omega
        rw [e] at h3 o3
        rw [o3, ← h3, hu]
    · intro v hv
      obtain ⟨i, hi'⟩ := List.getElem?_of_mem hv
      have o := hvs i v hi'
      exact ⟨o.a0, o.a1, o.len, o.m0, hcap v hv, o.bytes⟩

end Go.Proofs.Ytoocifoglhhnmaa
