/- What is read of an argument that is bytes. -/
import Derived.Test.YtoocifoglhhnmaaLogOpenA
namespace Go.Proofs.Ytoocifoglhhnmaa
open Go.ChangeShapes Go.WideShapes Go.ChangeAt Go.RowKit Go.Deep

theorem open_bytes {H : Type} {enc : TypeId × Value → H} {W : World} {a : Option Addr} {len cap : Nat} {d : DataW H} {p : List MemPlace}
    (h : DataW.Trod enc Try.prog W 0 (fun _ => true) true 38 (.slice a len cap) d p) :
    ∃ l : Dk.Bs, l.length = len ∧ len ≤ cap ∧ cap ≤ maxLen ∧ BytesIn (Mine W.heap.size) W a l := by
  obtain ⟨fuel, hf⟩ := h
  rcases open_ints Try.underlying38 Try.underlying5 (by kernel_rfl) hf with ⟨hcs, _⟩ | ⟨x, l, c, zs, hcs, _, hl, hm, hz, _, hcell, hwz⟩
  · simp [Value.cells] at hcs
    obtain ⟨rfl, rfl, rfl⟩ := hcs
    exact ⟨[], rfl, Nat.le_refl _, by decide, CellsIn.nil _ _ _⟩
  · simp [Value.cells] at hcs
    obtain ⟨rfl, rfl, rfl⟩ := hcs
    have hz' : zs.length = cap := by simpa using hz
    refine ⟨(zs.take len).map (fun z => UInt8.ofNat z.toNat), by rw [List.length_map, List.length_take]; omega, hl, hm, ?_⟩
    intro k u hu
    rw [List.map_map, List.getElem?_map] at hu
    cases e : (zs.take len)[k]? with
    | none => rw [e] at hu; simp at hu
    | some z =>
      rw [e] at hu
      have hkl : k < len := by have := (List.getElem?_eq_some_iff.1 e).1; rw [List.length_take] at this; omega
      have hmem : z ∈ zs := List.mem_of_mem_take (List.mem_of_getElem? e)
      have hw2 : 0 ≤ z ∧ z ≤ 255 := by simpa [Lit.wf, IntKind.min, IntKind.max, IntKind.bits, IntKind.signed] using hwz z hmem
      rw [List.getElem?_take_of_lt hkl] at e
      have hc := hcell k (by omega)
      rw [List.getD_eq_getElem?_getD, e] at hc
      simp only [Option.getD_some] at hc
      have hblk : x.block < W.heap.size := by
        have := World.block_lt_of_cell? W _ hc
        rw [block_add] at this
        exact this
      refine ⟨x, rfl, hblk, fun h => by unfold Mine at h; omega, ?_⟩
      obtain rfl := Option.some.inj hu
      rw [hc]
      simp only [Function.comp, bv]
      rw [u8_back z hw2.1 hw2.2]
end Go.Proofs.Ytoocifoglhhnmaa
