/- A list of nodes that came in: how long it may be. -/
import Derived.Test.YtbacakblboodeaaAreaApp
namespace Go.Proofs.Ytbacakblboodeaa
open Go.ChangeShapes Go.WideShapes Go.ChangeAt Go.RowKit Go.Deep

set_option maxRecDepth 100000
theorem bytesInt : Try.prog.bytesOf 3 = 8 := by kernel_rfl
theorem open_nodes_w {H : Type} {enc : TypeId × Value → H} {W : World} {v : Value} {d : DataW H} {p : List MemPlace} {b0 : Nat}
    (hv : Value.okWide Try.prog W .any b0 29 v) (h : DataW.Trod enc Try.prog W 0 (fun _ => true) true 29 v d p) :
    ∃ (A : Option Addr) (m c : Nat) (l : List Int), v = .slice A m c ∧ l.length = m ∧ m ≤ c ∧ (c = 0 ∨ c * 8 ∈ d.weights Try.prog 29) ∧ IntsAt W A l := by
  obtain ⟨A, m, c, rfl⟩ := okWide_slice Try.underlying29 hv
  obtain ⟨fuel, hf⟩ := h
  rcases open_ints Try.underlying29 Try.underlying3 (by kernel_rfl) hf with ⟨hcs, _⟩ | ⟨x, l, c', zs, hcs, _, hl, hm, hz, hy, hcell, hwz⟩
  · simp [Value.cells] at hcs
    obtain ⟨rfl, rfl, rfl⟩ := hcs
    exact ⟨none, 0, 0, [], rfl, rfl, Nat.le_refl _, .inl rfl, IntsAt.nil _ _⟩
  · simp [Value.cells] at hcs
    obtain ⟨rfl, rfl, rfl⟩ := hcs
    have hz' : zs.length = c := by simpa using hz
    refine ⟨some x, m, c, zs.take m, rfl, by rw [List.length_take]; omega, hl, .inr ?_, ints_of_open hz' hl hcell⟩
    simp only [Prod.mk.injEq] at hy
    rw [hy.1]
    simp only [DataW.weights, Try.underlying29, bytesInt]
    simp [lits]
    left
    omega
end Go.Proofs.Ytbacakblboodeaa
