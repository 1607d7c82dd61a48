/- What is read of an argument that is a list of pairs of numbers. -/
import Derived.Test.YtoocifoglhhnmaaLogOpenA
namespace Go.Proofs.Ytoocifoglhhnmaa
open Go.ChangeShapes Go.WideShapes Go.ChangeAt Go.RowKit Go.Deep

theorem cellsPair : Try.prog.cellsOf 50 = 2 := by kernel_rfl

/-- pairs, as they lie in memory -/
def PairsIn (B : Nat) (w : World) (A : Option Addr) (l : List (Int × Int)) : Prop :=
  ∀ (k : Nat) (x : Int × Int), l[k]? = some x → ∃ ad, A = some ad ∧ ad.block < w.heap.size ∧ ad.block < B ∧ w.cell? (ad.add (k * 2)) = some (.int .i64 x.1) ∧ w.cell? ⟨(ad.add (k * 2)).block, (ad.add (k * 2)).off + 1, none⟩ = some (.int .i64 x.2) ∧ -9223372036854775808 ≤ x.1 ∧ x.1 ≤ 9223372036854775807
theorem PairsIn.keep {B : Nat} {w w' : World} {A : Option Addr} {l : List (Int × Int)} (h : PairsIn B w A l) (hk : Kept (Mine B) w w') : PairsIn B w' A l := by
  intro k x hx
  obtain ⟨ad, e, h1, h2, h3, h4, h5⟩ := h k x hx
  have hn : ¬ Mine B ad.block := by unfold Mine; omega
  exact ⟨ad, e, Nat.lt_of_lt_of_le h1 hk.size, h2, (hk.cell (by rw [block_add]; exact h1) (by rw [block_add]; exact hn)).trans h3, (hk.cell (p := ⟨(ad.add (k * 2)).block, (ad.add (k * 2)).off + 1, none⟩) (by show (ad.add (k * 2)).block < _; rw [block_add]; exact h1) (by show ¬ Mine B (ad.add (k * 2)).block; rw [block_add]; exact hn)).trans h4, h5⟩

structure OnePair (W : World) (x : Addr) (i : Nat) (v : Int × Int) : Prop where
  c0 : W.cell? (x.add (i * 2)) = some (.int .i64 v.1)
  c1 : W.cell? (x.add (i * 2 + 1)) = some (.int .i64 v.2)
  a0 : -9223372036854775808 ≤ v.1
  a1 : v.1 ≤ 9223372036854775807

set_option maxRecDepth 100000 in
theorem open_pairs {H : Type} {enc : TypeId × Value → H} {W : World} {a : Option Addr} {len cap : Nat} {d : DataW H} {p : List MemPlace}
    (h : DataW.Trod enc Try.prog W 0 (fun _ => true) true 49 (.slice a len cap) d p) :
    ∃ l : List (Int × Int), l.length = len ∧ len ≤ cap ∧ cap ≤ maxLen ∧ PairsIn W.heap.size W a l := by
  obtain ⟨fuel, hf⟩ := h
  rcases open_slice Try.underlying49 hf with ⟨hcs, _⟩ | ⟨x, l, c, m, n, D, Pl, hcs, _, hl, hm, hmm, hx, hi⟩
  · simp [Value.cells] at hcs
    obtain ⟨rfl, rfl, rfl⟩ := hcs
    exact ⟨[], rfl, Nat.le_refl _, by decide, fun k x hx => by simp at hx⟩
  · simp [Value.cells] at hcs
    obtain ⟨rfl, rfl, rfl⟩ := hcs
    simp at hmm
    subst hmm
    have hone : ∀ i, i < len → ∃ v : Int × Int, OnePair W x i v := by
      intro i hil
      obtain ⟨cs', hc, ht⟩ := hi i (by omega)
      rw [cellsPair] at hc
      obtain ⟨ys, n', _, hy, hlen, hyl, hfs⟩ := DataW.trod_array Try.underlying50 ht
      obtain ⟨_, hcl, hat⟩ := World.cells?_some hc
      have h0 := hfs 0 (by omega)
      have h1 := hfs 1 (by omega)
      match cs', hcl with
      | [c0, c1], _ =>
        match ys, hyl with
        | [y0, y1], _ =>
          have h0' : DataW.trod enc Try.prog W 0 (fun _ => true) true n' 3 [c0] = some y0 := by simpa [cellsInt] using h0
          have h1' : DataW.trod enc Try.prog W 0 (fun _ => true) true n' 3 [c1] = some y1 := by simpa [cellsInt] using h1
          obtain ⟨z0, hz0, hyz0, hw0⟩ := DataW.trod_int Try.underlying3 h0'
          obtain ⟨z1, hz1, hyz1, _⟩ := DataW.trod_int Try.underlying3 h1'
          simp at hz0 hz1
          subst hz0 hz1 hyz0 hyz1
          have hr : -9223372036854775808 ≤ z0 ∧ z0 ≤ 9223372036854775807 := by simpa [Lit.wf, IntKind.min, IntKind.max, IntKind.bits, IntKind.signed] using hw0
          refine ⟨(z0, z1), ?_, ?_, hr.1, hr.2⟩
          · have := hat 0 (by omega)
            rw [add_add', Nat.add_zero] at this
            simpa using this
          · have := hat 1 (by omega)
            rw [add_add'] at this
            simpa using this
    obtain ⟨vs, hvl, hvs⟩ := list_of (OnePair W x) len hone
    refine ⟨vs, hvl, hl, hm, fun k v hv => ?_⟩
    have o := hvs k v hv
    have hblk : x.block < W.heap.size := by
      have := World.block_lt_of_cell? W _ o.c0
      rw [block_add] at this
      exact this
    have step : ∀ (x : Addr) (i : Nat), 0 < i → x.add i = ⟨x.block, x.off + i, none⟩ := fun x i hi => by unfold Addr.add; rw [if_neg (by omega)]
    refine ⟨x, rfl, hblk, hblk, o.c0, ?_, o.a0, o.a1⟩
    rw [← step _ 1 (by omega), add_add']
    exact o.c1

end Go.Proofs.Ytoocifoglhhnmaa
