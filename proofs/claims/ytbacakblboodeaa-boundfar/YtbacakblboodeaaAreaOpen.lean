/- What is read of an argument that is an area, or a list of nodes. -/
import Derived.Test.YtbacakblboodeaaAreas
import Derived.ProofKit
import Derived.OpenShut
import Derived.ShutString
import Derived.ChangeOld
import Derived.SizedLaws
import Derived.Deep.Slices
import Derived.Lib.SmallJoins
namespace Go.Proofs.Ytbacakblboodeaa
open Go.ChangeShapes Go.WideShapes Go.ChangeAt Go.RowKit Go.Deep
set_option maxRecDepth 100000

theorem ints_of_open {W : World} {x : Addr} {l c : Nat} {zs : List Int} (hz : zs.length = c) (hl : l ≤ c) (hcell : ∀ i, i < zs.length → W.cell? (x.add i) = some (.int .i64 (zs.getD i 0))) : IntsAt W (some x) (zs.take l) := by
  intro k z hk
  have hkl : k < l := by have := (List.getElem?_eq_some_iff.1 hk).1; rw [List.length_take] at this; omega
  rw [List.getElem?_take_of_lt hkl] at hk
  refine ⟨x, rfl, ?_⟩
  have hc := hcell k (by omega)
  rw [List.getD_eq_getElem?_getD, hk] at hc
  exact hc

theorem ints_field64 {H : Type} {enc : TypeId × Value → H} {W : World} {fuel : Nat} {v : Value} {y : DataW H × List MemPlace}
    (hf : DataW.trod enc Try.prog W 0 (fun _ => true) true fuel 22 [v] = some y) :
    ∃ (A : Option Addr) (m cap : Nat) (l : List Int), v = .slice A m cap ∧ l.length = m ∧ m ≤ cap ∧ cap ≤ maxLen ∧ IntsAt W A l := by
  rcases open_ints Try.underlying22 Try.underlying2 (by kernel_rfl) hf with ⟨hcs, _⟩ | ⟨x, l, c, zs, hcs, _, hl, hm, hz, hy, hcell, hwz⟩
  · obtain rfl : v = .slice none 0 0 := by simpa using hcs
    exact ⟨none, 0, 0, [], rfl, rfl, Nat.le_refl _, by decide, IntsAt.nil _ _⟩
  · obtain rfl : v = .slice (some x) l c := by simpa using hcs
    have hz' : zs.length = c := by simpa using hz
    exact ⟨some x, l, c, zs.take l, rfl, by rw [List.length_take]; omega, hl, hm, ints_of_open hz' hl hcell⟩

theorem ints_field {H : Type} {enc : TypeId × Value → H} {W : World} {fuel : Nat} {v : Value} {y : DataW H × List MemPlace}
    (hf : DataW.trod enc Try.prog W 0 (fun _ => true) true fuel 29 [v] = some y) :
    ∃ (A : Option Addr) (m cap : Nat) (l : List Int), v = .slice A m cap ∧ l.length = m ∧ m ≤ cap ∧ cap ≤ maxLen ∧ IntsAt W A l := by
  rcases open_ints Try.underlying29 Try.underlying3 (by kernel_rfl) hf with ⟨hcs, _⟩ | ⟨x, l, c, zs, hcs, _, hl, hm, hz, hy, hcell, hwz⟩
  · obtain rfl : v = .slice none 0 0 := by simpa using hcs
    exact ⟨none, 0, 0, [], rfl, rfl, Nat.le_refl _, by decide, IntsAt.nil _ _⟩
  · obtain rfl : v = .slice (some x) l c := by simpa using hcs
    have hz' : zs.length = c := by simpa using hz
    exact ⟨some x, l, c, zs.take l, rfl, by rw [List.length_take]; omega, hl, hm, ints_of_open hz' hl hcell⟩

/-- a list of nodes that came in -/
theorem open_nodes {H : Type} {enc : TypeId × Value → H} {W : World} {v : Value} {d : DataW H} {p : List MemPlace} {b0 : Nat}
    (hv : Value.okWide Try.prog W .any b0 29 v) (h : DataW.Trod enc Try.prog W 0 (fun _ => true) true 29 v d p) :
    ∃ (A : Option Addr) (m c : Nat) (l : List Int), v = .slice A m c ∧ l.length = m ∧ m ≤ c ∧ c ≤ maxLen ∧ IntsAt W A l := by
  obtain ⟨A, m, c, rfl⟩ := okWide_slice Try.underlying29 hv
  obtain ⟨fuel, hf⟩ := h
  obtain ⟨A', m', c', l, e, h1, h2, h3, h4⟩ := ints_field (v := .slice A m c) hf
  injection e with e1 e2 e3
  subst e1 e2 e3
  exact ⟨A, m, c, l, rfl, h1, h2, h3, h4⟩

/-- an area that came in -/
structure AreaCame (W : World) (v : Value) (N : Int) (dA : Option Addr) (dm dc : Nat) (D : List Int) (tA : Option Addr) (tm tc : Nat) (T : List Int) : Prop where
  val : v = .agg #[.int .i64 N, .slice dA dm dc, .slice tA tm tc]
  dl : D.length = dm
  tl : T.length = tm
  dmx : dm ≤ maxLen
  tmx : tm ≤ maxLen
  d : IntsAt W dA D
  t : IntsAt W tA T
theorem AreaCame.at_ {W : World} {v : Value} {N : Int} {dA tA : Option Addr} {dm dc tm tc : Nat} {D T : List Int} (h : AreaCame W v N dA dm dc D tA tm tc T) (h1 : dm ≤ 400) (h2 : tm ≤ 400) : AreaAt W dA dm D tA tm T := ⟨h.dl, h.tl, h1, h2, h.d, h.t⟩

theorem open_area {H : Type} {enc : TypeId × Value → H} {W : World} {v : Value} {d : DataW H} {p : List MemPlace} {b0 : Nat}
    (hv : Value.okWide Try.prog W .any b0 24 v) (h : DataW.Trod enc Try.prog W 0 (fun _ => true) true 24 v d p) :
    ∃ (N : Int) (dA : Option Addr) (dm dc : Nat) (D : List Int) (tA : Option Addr) (tm tc : Nat) (T : List Int), AreaCame W v N dA dm dc D tA tm tc T := by
  obtain ⟨v0, v1, v2, y0, y1, y2, n, rfl, _, _, t0, t1, t2⟩ := Go.Joins.open_agg3 Try.underlying24 (by kernel_rfl) (by kernel_rfl) hv h
  obtain ⟨N, hN, _, _⟩ := DataW.trod_int Try.underlying3 t0
  obtain ⟨dA, dm, dc, D, rfl, d1, d2, d3, d4⟩ := ints_field64 t1
  obtain ⟨tA, tm, tc, T, rfl, e1, e2, e3, e4⟩ := ints_field64 t2
  simp at hN
  subst hN
  exact ⟨N, dA, dm, dc, D, tA, tm, tc, T, rfl, d1, e1, Nat.le_trans d2 d3, Nat.le_trans e2 e3, d4, e4⟩
end Go.Proofs.Ytbacakblboodeaa
