/- Texts joined: Contracts of package load: the Ids of orders and trucks, and where one is. Contracts of package load: where an order or a truck is, and whether two have the same Id. Contracts of package load: whether all orders and all trucks may be; World. Contracts of package load: Sum, Carries, Find. -/
import Derived.Test.YtgjmlnpfkmpfgaaGreatMems
import Derived.Lib.AppendZerosOnto
section
/-! Contracts of package load: the Ids of orders and trucks, and where one is. -/
namespace Go.Proofs.YtgjmlnpfkmpfgaaGreat
open Go.RowKit
set_option linter.unusedVariables false

set_option maxHeartbeats 1000000 in
theorem idOf_o (a0 a1 a2 a3 a4 a5 a6 a7 : Int) (w : World) :
    Calls Tryz.prog 93 #[.agg #[.int .i64 a0, .int .i64 a1, .int .i64 a2, .int .i64 a3, .int .i64 a4, .int .i64 a5, .int .i64 a6, .int .i64 a7]] w fun e w' => e = .returned (.int .i64 a0) ∧ Below w.heap.size w w' := by
  go_enter Tryz.func93, Tryz.ntmps93
  go_wp2
  go_ret
  exact ⟨rfl, below_alloc _ _⟩

set_option maxHeartbeats 2000000 in
set_option maxRecDepth 100000 in
theorem isId_o (a0 a1 a2 a3 a4 a5 a6 a7 id : Int) (p q : Addr) (w : World) (hp : w.cell? p = some (.func (.func 93) #[] #[])) (hq : w.cell? q = some (.int .i64 id)) (r : Bool) (hr : (a0 == id) = r) :
    Calls Tryz.prog 144 #[.agg #[.int .i64 a0, .int .i64 a1, .int .i64 a2, .int .i64 a3, .int .i64 a4, .int .i64 a5, .int .i64 a6, .int .i64 a7], .pointer (some p), .pointer (some q)] w fun e w' => e = .returned (.bool r) ∧ Hid (Below w.heap.size w w') := by
  have y1 : (w.alloc (.cells #[.int .i64 a0, .int .i64 a1, .int .i64 a2, .int .i64 a3, .int .i64 a4, .int .i64 a5, .int .i64 a6, .int .i64 a7] 52)).cell? p = some (.func (.func 93) #[] #[]) := by rw [(below_alloc w _).cell (lt_of_cell hp)]; exact hp
  have y2 : (w.alloc (.cells #[.int .i64 a0, .int .i64 a1, .int .i64 a2, .int .i64 a3, .int .i64 a4, .int .i64 a5, .int .i64 a6, .int .i64 a7] 52)).cell? q = some (.int .i64 id) := by rw [(below_alloc w _).cell (lt_of_cell hq)]; exact hq
  have x0 : (w.alloc (.cells #[.int .i64 a0, .int .i64 a1, .int .i64 a2, .int .i64 a3, .int .i64 a4, .int .i64 a5, .int .i64 a6, .int .i64 a7] 52)).cell? ⟨w.heap.size, 0, none⟩ = some (.int .i64 a0) := (Box.new w _ _).cell 0 _ rfl
  have x1 : (w.alloc (.cells #[.int .i64 a0, .int .i64 a1, .int .i64 a2, .int .i64 a3, .int .i64 a4, .int .i64 a5, .int .i64 a6, .int .i64 a7] 52)).cell? ⟨w.heap.size, 1, none⟩ = some (.int .i64 a1) := (Box.new w _ _).cell 1 _ rfl
  have x2 : (w.alloc (.cells #[.int .i64 a0, .int .i64 a1, .int .i64 a2, .int .i64 a3, .int .i64 a4, .int .i64 a5, .int .i64 a6, .int .i64 a7] 52)).cell? ⟨w.heap.size, 2, none⟩ = some (.int .i64 a2) := (Box.new w _ _).cell 2 _ rfl
  have x3 : (w.alloc (.cells #[.int .i64 a0, .int .i64 a1, .int .i64 a2, .int .i64 a3, .int .i64 a4, .int .i64 a5, .int .i64 a6, .int .i64 a7] 52)).cell? ⟨w.heap.size, 3, none⟩ = some (.int .i64 a3) := (Box.new w _ _).cell 3 _ rfl
  have x4 : (w.alloc (.cells #[.int .i64 a0, .int .i64 a1, .int .i64 a2, .int .i64 a3, .int .i64 a4, .int .i64 a5, .int .i64 a6, .int .i64 a7] 52)).cell? ⟨w.heap.size, 4, none⟩ = some (.int .i64 a4) := (Box.new w _ _).cell 4 _ rfl
  have x5 : (w.alloc (.cells #[.int .i64 a0, .int .i64 a1, .int .i64 a2, .int .i64 a3, .int .i64 a4, .int .i64 a5, .int .i64 a6, .int .i64 a7] 52)).cell? ⟨w.heap.size, 5, none⟩ = some (.int .i64 a5) := (Box.new w _ _).cell 5 _ rfl
  have x6 : (w.alloc (.cells #[.int .i64 a0, .int .i64 a1, .int .i64 a2, .int .i64 a3, .int .i64 a4, .int .i64 a5, .int .i64 a6, .int .i64 a7] 52)).cell? ⟨w.heap.size, 6, none⟩ = some (.int .i64 a6) := (Box.new w _ _).cell 6 _ rfl
  have x7 : (w.alloc (.cells #[.int .i64 a0, .int .i64 a1, .int .i64 a2, .int .i64 a3, .int .i64 a4, .int .i64 a5, .int .i64 a6, .int .i64 a7] 52)).cell? ⟨w.heap.size, 7, none⟩ = some (.int .i64 a7) := (Box.new w _ _).cell 7 _ rfl
  have HB0 : Hid (Below w.heap.size w (w.alloc (.cells #[.int .i64 a0, .int .i64 a1, .int .i64 a2, .int .i64 a3, .int .i64 a4, .int .i64 a5, .int .i64 a6, .int .i64 a7] 52))) := below_alloc _ _
  clear hp hq
  go_enter Tryz.func144, Tryz.ntmps144
  go_wp2_with fail
  generalize w.alloc (.cells #[.int .i64 a0, .int .i64 a1, .int .i64 a2, .int .i64 a3, .int .i64 a4, .int .i64 a5, .int .i64 a6, .int .i64 a7] 52) = W at *
  generalize hbb : w.heap.size = b at *
  have HP : Hid (∀ W1 : World, (W1.cell? p = some (.func (.func 93) #[] #[]) ∧ W1.cell? q = some (.int .i64 id) ∧ W1.cell? ⟨b, 0, none⟩ = some (.int .i64 a0) ∧ W1.cell? ⟨b, 1, none⟩ = some (.int .i64 a1) ∧ W1.cell? ⟨b, 2, none⟩ = some (.int .i64 a2) ∧ W1.cell? ⟨b, 3, none⟩ = some (.int .i64 a3) ∧ W1.cell? ⟨b, 4, none⟩ = some (.int .i64 a4) ∧ W1.cell? ⟨b, 5, none⟩ = some (.int .i64 a5) ∧ W1.cell? ⟨b, 6, none⟩ = some (.int .i64 a6) ∧ W1.cell? ⟨b, 7, none⟩ = some (.int .i64 a7) ∧ Below W.heap.size W W1) →
      Calls Tryz.prog 93 #[.agg #[.int .i64 a0, .int .i64 a1, .int .i64 a2, .int .i64 a3, .int .i64 a4, .int .i64 a5, .int .i64 a6, .int .i64 a7]] W1 fun e W' => e = .returned (.int .i64 a0) ∧ W'.cell? p = some (.func (.func 93) #[] #[]) ∧ W'.cell? q = some (.int .i64 id) ∧ W'.cell? ⟨b, 0, none⟩ = some (.int .i64 a0) ∧ W'.cell? ⟨b, 1, none⟩ = some (.int .i64 a1) ∧ W'.cell? ⟨b, 2, none⟩ = some (.int .i64 a2) ∧ W'.cell? ⟨b, 3, none⟩ = some (.int .i64 a3) ∧ W'.cell? ⟨b, 4, none⟩ = some (.int .i64 a4) ∧ W'.cell? ⟨b, 5, none⟩ = some (.int .i64 a5) ∧ W'.cell? ⟨b, 6, none⟩ = some (.int .i64 a6) ∧ W'.cell? ⟨b, 7, none⟩ = some (.int .i64 a7) ∧ Below W.heap.size W W') := by
    rintro W1 ⟨g1, g2, h0, h1, h2, h3, h4, h5, h6, h7, h⟩
    refine (idOf_o a0 a1 a2 a3 a4 a5 a6 a7 W1).mono ?_
    rintro e W' ⟨rfl, hb⟩
    exact ⟨rfl, by rw [hb.cell (lt_of_cell g1)]; exact g1, by rw [hb.cell (lt_of_cell g2)]; exact g2, by rw [hb.cell (p := ⟨b, 0, none⟩) (lt_of_cell h0)]; exact h0, by rw [hb.cell (p := ⟨b, 1, none⟩) (lt_of_cell h1)]; exact h1, by rw [hb.cell (p := ⟨b, 2, none⟩) (lt_of_cell h2)]; exact h2, by rw [hb.cell (p := ⟨b, 3, none⟩) (lt_of_cell h3)]; exact h3, by rw [hb.cell (p := ⟨b, 4, none⟩) (lt_of_cell h4)]; exact h4, by rw [hb.cell (p := ⟨b, 5, none⟩) (lt_of_cell h5)]; exact h5, by rw [hb.cell (p := ⟨b, 6, none⟩) (lt_of_cell h6)]; exact h6, by rw [hb.cell (p := ⟨b, 7, none⟩) (lt_of_cell h7)]; exact h7, below_next h hb⟩
  have HBB := Lib.hid hbb
  clear hbb
  have hB := (Below.refl W.heap.size W).drew
  cases r
  all_goals
    go_wp2
    go_region_held3 (fun W' : World => W'.cell? p = some (.func (.func 93) #[] #[]) ∧ W'.cell? q = some (.int .i64 id) ∧ W'.cell? ⟨b, 0, none⟩ = some (.int .i64 a0) ∧ W'.cell? ⟨b, 1, none⟩ = some (.int .i64 a1) ∧ W'.cell? ⟨b, 2, none⟩ = some (.int .i64 a2) ∧ W'.cell? ⟨b, 3, none⟩ = some (.int .i64 a3) ∧ W'.cell? ⟨b, 4, none⟩ = some (.int .i64 a4) ∧ W'.cell? ⟨b, 5, none⟩ = some (.int .i64 a5) ∧ W'.cell? ⟨b, 6, none⟩ = some (.int .i64 a6) ∧ W'.cell? ⟨b, 7, none⟩ = some (.int .i64 a7) ∧ Below W.heap.size W W') (first | exact ⟨y1, y2, x0, x1, x2, x3, x4, x5, x6, x7, hB⟩ | exact ⟨k1', k2', k0, k1, k2, k3, k4, k5, k6, k7, kb⟩ | assumption)
      (first
        | (go_at_call 93; ((with_reducible refine (HP.out _ (by assumption)).mono ?_)); rintro e w3 ⟨rfl, k1', k2', k0, k1, k2, k3, k4, k5, k6, k7, kb⟩))
    all_goals
      have KB := Lib.hid kb
      clear k1' k2' k0 k1 k2 k3 k4 k5 k6 k7 kb y1 y2 x0 x1 x2 x3 x4 x5 x6 x7 hB
      go_wp2
      go_ret
      exact ⟨rfl, by have h1 := HB0.out; have h2 := HBB.out; subst h2; exact below_next h1 KB.out⟩

set_option maxHeartbeats 1000000 in
theorem idOf_t (a0 a1 a2 a3 a4 a5 a6 : Int) (w : World) :
    Calls Tryz.prog 95 #[.agg #[.int .i64 a0, .int .i64 a1, .int .i64 a2, .int .i64 a3, .int .i64 a4, .int .i64 a5, .int .i64 a6]] w fun e w' => e = .returned (.int .i64 a0) ∧ Below w.heap.size w w' := by
  go_enter Tryz.func95, Tryz.ntmps95
  go_wp2
  go_ret
  exact ⟨rfl, below_alloc _ _⟩

set_option maxHeartbeats 2000000 in
set_option maxRecDepth 100000 in
theorem isId_t (a0 a1 a2 a3 a4 a5 a6 id : Int) (p q : Addr) (w : World) (hp : w.cell? p = some (.func (.func 95) #[] #[])) (hq : w.cell? q = some (.int .i64 id)) (r : Bool) (hr : (a0 == id) = r) :
    Calls Tryz.prog 146 #[.agg #[.int .i64 a0, .int .i64 a1, .int .i64 a2, .int .i64 a3, .int .i64 a4, .int .i64 a5, .int .i64 a6], .pointer (some p), .pointer (some q)] w fun e w' => e = .returned (.bool r) ∧ Hid (Below w.heap.size w w') := by
  have y1 : (w.alloc (.cells #[.int .i64 a0, .int .i64 a1, .int .i64 a2, .int .i64 a3, .int .i64 a4, .int .i64 a5, .int .i64 a6] 54)).cell? p = some (.func (.func 95) #[] #[]) := by rw [(below_alloc w _).cell (lt_of_cell hp)]; exact hp
  have y2 : (w.alloc (.cells #[.int .i64 a0, .int .i64 a1, .int .i64 a2, .int .i64 a3, .int .i64 a4, .int .i64 a5, .int .i64 a6] 54)).cell? q = some (.int .i64 id) := by rw [(below_alloc w _).cell (lt_of_cell hq)]; exact hq
  have x0 : (w.alloc (.cells #[.int .i64 a0, .int .i64 a1, .int .i64 a2, .int .i64 a3, .int .i64 a4, .int .i64 a5, .int .i64 a6] 54)).cell? ⟨w.heap.size, 0, none⟩ = some (.int .i64 a0) := (Box.new w _ _).cell 0 _ rfl
  have x1 : (w.alloc (.cells #[.int .i64 a0, .int .i64 a1, .int .i64 a2, .int .i64 a3, .int .i64 a4, .int .i64 a5, .int .i64 a6] 54)).cell? ⟨w.heap.size, 1, none⟩ = some (.int .i64 a1) := (Box.new w _ _).cell 1 _ rfl
  have x2 : (w.alloc (.cells #[.int .i64 a0, .int .i64 a1, .int .i64 a2, .int .i64 a3, .int .i64 a4, .int .i64 a5, .int .i64 a6] 54)).cell? ⟨w.heap.size, 2, none⟩ = some (.int .i64 a2) := (Box.new w _ _).cell 2 _ rfl
  have x3 : (w.alloc (.cells #[.int .i64 a0, .int .i64 a1, .int .i64 a2, .int .i64 a3, .int .i64 a4, .int .i64 a5, .int .i64 a6] 54)).cell? ⟨w.heap.size, 3, none⟩ = some (.int .i64 a3) := (Box.new w _ _).cell 3 _ rfl
  have x4 : (w.alloc (.cells #[.int .i64 a0, .int .i64 a1, .int .i64 a2, .int .i64 a3, .int .i64 a4, .int .i64 a5, .int .i64 a6] 54)).cell? ⟨w.heap.size, 4, none⟩ = some (.int .i64 a4) := (Box.new w _ _).cell 4 _ rfl
  have x5 : (w.alloc (.cells #[.int .i64 a0, .int .i64 a1, .int .i64 a2, .int .i64 a3, .int .i64 a4, .int .i64 a5, .int .i64 a6] 54)).cell? ⟨w.heap.size, 5, none⟩ = some (.int .i64 a5) := (Box.new w _ _).cell 5 _ rfl
  have x6 : (w.alloc (.cells #[.int .i64 a0, .int .i64 a1, .int .i64 a2, .int .i64 a3, .int .i64 a4, .int .i64 a5, .int .i64 a6] 54)).cell? ⟨w.heap.size, 6, none⟩ = some (.int .i64 a6) := (Box.new w _ _).cell 6 _ rfl
  have HB0 : Hid (Below w.heap.size w (w.alloc (.cells #[.int .i64 a0, .int .i64 a1, .int .i64 a2, .int .i64 a3, .int .i64 a4, .int .i64 a5, .int .i64 a6] 54))) := below_alloc _ _
  clear hp hq
  go_enter Tryz.func146, Tryz.ntmps146
  go_wp2_with fail
  generalize w.alloc (.cells #[.int .i64 a0, .int .i64 a1, .int .i64 a2, .int .i64 a3, .int .i64 a4, .int .i64 a5, .int .i64 a6] 54) = W at *
  generalize hbb : w.heap.size = b at *
  have HP : Hid (∀ W1 : World, (W1.cell? p = some (.func (.func 95) #[] #[]) ∧ W1.cell? q = some (.int .i64 id) ∧ W1.cell? ⟨b, 0, none⟩ = some (.int .i64 a0) ∧ W1.cell? ⟨b, 1, none⟩ = some (.int .i64 a1) ∧ W1.cell? ⟨b, 2, none⟩ = some (.int .i64 a2) ∧ W1.cell? ⟨b, 3, none⟩ = some (.int .i64 a3) ∧ W1.cell? ⟨b, 4, none⟩ = some (.int .i64 a4) ∧ W1.cell? ⟨b, 5, none⟩ = some (.int .i64 a5) ∧ W1.cell? ⟨b, 6, none⟩ = some (.int .i64 a6) ∧ Below W.heap.size W W1) →
      Calls Tryz.prog 95 #[.agg #[.int .i64 a0, .int .i64 a1, .int .i64 a2, .int .i64 a3, .int .i64 a4, .int .i64 a5, .int .i64 a6]] W1 fun e W' => e = .returned (.int .i64 a0) ∧ W'.cell? p = some (.func (.func 95) #[] #[]) ∧ W'.cell? q = some (.int .i64 id) ∧ W'.cell? ⟨b, 0, none⟩ = some (.int .i64 a0) ∧ W'.cell? ⟨b, 1, none⟩ = some (.int .i64 a1) ∧ W'.cell? ⟨b, 2, none⟩ = some (.int .i64 a2) ∧ W'.cell? ⟨b, 3, none⟩ = some (.int .i64 a3) ∧ W'.cell? ⟨b, 4, none⟩ = some (.int .i64 a4) ∧ W'.cell? ⟨b, 5, none⟩ = some (.int .i64 a5) ∧ W'.cell? ⟨b, 6, none⟩ = some (.int .i64 a6) ∧ Below W.heap.size W W') := by
    rintro W1 ⟨g1, g2, h0, h1, h2, h3, h4, h5, h6, h⟩
    refine (idOf_t a0 a1 a2 a3 a4 a5 a6 W1).mono ?_
    rintro e W' ⟨rfl, hb⟩
    exact ⟨rfl, by rw [hb.cell (lt_of_cell g1)]; exact g1, by rw [hb.cell (lt_of_cell g2)]; exact g2, by rw [hb.cell (p := ⟨b, 0, none⟩) (lt_of_cell h0)]; exact h0, by rw [hb.cell (p := ⟨b, 1, none⟩) (lt_of_cell h1)]; exact h1, by rw [hb.cell (p := ⟨b, 2, none⟩) (lt_of_cell h2)]; exact h2, by rw [hb.cell (p := ⟨b, 3, none⟩) (lt_of_cell h3)]; exact h3, by rw [hb.cell (p := ⟨b, 4, none⟩) (lt_of_cell h4)]; exact h4, by rw [hb.cell (p := ⟨b, 5, none⟩) (lt_of_cell h5)]; exact h5, by rw [hb.cell (p := ⟨b, 6, none⟩) (lt_of_cell h6)]; exact h6, below_next h hb⟩
  have HBB := Lib.hid hbb
  clear hbb
  have hB := (Below.refl W.heap.size W).drew
  cases r
  all_goals
    go_wp2
    go_region_held3 (fun W' : World => W'.cell? p = some (.func (.func 95) #[] #[]) ∧ W'.cell? q = some (.int .i64 id) ∧ W'.cell? ⟨b, 0, none⟩ = some (.int .i64 a0) ∧ W'.cell? ⟨b, 1, none⟩ = some (.int .i64 a1) ∧ W'.cell? ⟨b, 2, none⟩ = some (.int .i64 a2) ∧ W'.cell? ⟨b, 3, none⟩ = some (.int .i64 a3) ∧ W'.cell? ⟨b, 4, none⟩ = some (.int .i64 a4) ∧ W'.cell? ⟨b, 5, none⟩ = some (.int .i64 a5) ∧ W'.cell? ⟨b, 6, none⟩ = some (.int .i64 a6) ∧ Below W.heap.size W W') (first | exact ⟨y1, y2, x0, x1, x2, x3, x4, x5, x6, hB⟩ | exact ⟨k1', k2', k0, k1, k2, k3, k4, k5, k6, kb⟩ | assumption)
      (first
        | (go_at_call 95; ((with_reducible refine (HP.out _ (by assumption)).mono ?_)); rintro e w3 ⟨rfl, k1', k2', k0, k1, k2, k3, k4, k5, k6, kb⟩))
    all_goals
      have KB := Lib.hid kb
      clear k1' k2' k0 k1 k2 k3 k4 k5 k6 kb y1 y2 x0 x1 x2 x3 x4 x5 x6 hB
      go_wp2
      go_ret
      exact ⟨rfl, by have h1 := HB0.out; have h2 := HBB.out; subst h2; exact below_next h1 KB.out⟩

end Go.Proofs.YtgjmlnpfkmpfgaaGreat
end

section
/-! Contracts of package load: where an order or a truck is, and whether two have the same Id. -/
namespace Go.Proofs.YtgjmlnpfkmpfgaaGreat
open Go.RowKit
set_option linter.unusedVariables false

set_option maxHeartbeats 2000000 in
set_option maxRecDepth 100000 in
theorem index_o (A : Option Addr) (m c : Nat) (l : List Ld.O) (id : Int) (p q : Addr) (w : World) (hm : l.length = m) (hm2 : m ≤ 1000) (hl : OrdersAt w A l) (hp : w.cell? p = some (.func (.func 93) #[] #[])) (hq : w.cell? q = some (.int .i64 id)) :
    Calls Tryz.prog 143 #[.slice A m c, .func (.func 144) #[] #[.pointer (some p), .pointer (some q)]] w fun e w' => e = .returned (.int .i64 (Ld.findI (l.map Ld.O.id) id)) ∧ Below w.heap.size w w' := by
  have HL := Lib.hid hl
  have HM := Lib.hid hm
  have HP := Lib.hid hp
  have HQ := Lib.hid hq
  have HY : Hid (∀ k : Nat, m ≤ k → (∀ (i : Nat), i < k → (l.map Ld.O.id)[i]? ≠ some id) → Ld.findI (l.map Ld.O.id) id = -1) := fun k hk h => Ld.find_none fun j hj => h j (by rw [List.length_map] at hj; omega)
  have HN : Hid (∀ (k : Nat), (l.map Ld.O.id)[k]? = some id → (∀ (i : Nat), i < k → (l.map Ld.O.id)[i]? ≠ some id) → Ld.findI (l.map Ld.O.id) id = (k : Int)) := fun k h1 h2 => Ld.find_at h1 h2
  clear hl hm hp hq
  generalize Ld.findI (l.map Ld.O.id) id = r at *
  go_enter Tryz.func143, Tryz.ntmps143
  go_wp2_with fail
  go_loopg [4, 8] m (fun gk s4 s8 W => ∃ (k : Nat), k + gk = m ∧ s4 = .int .i64 0 ∧ s8 = .int .i64 k ∧ Hid (Below w.heap.size w W) ∧ Hid (∀ (i : Nat), i < k → (l.map Ld.O.id)[i]? ≠ some id))
  case atStart => exact ⟨0, by omega, rfl, rfl, Below.refl _ _, fun i hi => by omega⟩
  case round =>
    obtain ⟨k, hkg, rfl, rfl, HB, HK⟩ := hrel
    by_cases hlt : k < m
    · obtain ⟨gk, rfl⟩ : ∃ j, gk = j + 1 := ⟨gk - 1, by omega⟩
      obtain ⟨s, hs⟩ := mlist_at l k (by rw [HM.out]; exact hlt)
      obtain ⟨ad, rfl, hc⟩ := (HL.out.below HB.out).at_ hs
      obtain ⟨c0, c1, c2, c3, c4, c5, c6, c7⟩ := hc
      obtain ⟨a0, a1, a2, a3, a4, a5, a6, a7⟩ := s
      simp only at c0 c1 c2 c3 c4 c5 c6 c7
      have hid : (l.map Ld.O.id)[k]? = some a0 := by rw [List.getElem?_map, hs]; rfl
      by_cases h1 : a0 = id
      · have HR := Lib.hid (HN.out k (by rw [hid, h1]) HK.out)
        have HC : Hid (∀ W, Below w.heap.size w W → Calls Tryz.prog 144 #[.agg #[.int .i64 a0, .int .i64 a1, .int .i64 a2, .int .i64 a3, .int .i64 a4, .int .i64 a5, .int .i64 a6, .int .i64 a7], .pointer (some p), .pointer (some q)] W fun e w' => e = .returned (.bool true) ∧ Hid (Below w.heap.size w w')) := fun W hb =>
          (isId_o a0 a1 a2 a3 a4 a5 a6 a7 id p q W (by rw [hb.cell (lt_of_cell HP.out)]; exact HP.out) (by rw [hb.cell (lt_of_cell HQ.out)]; exact HQ.out) true (beq_iff_eq.2 h1)).mono fun _ _ ⟨e1, e2⟩ => ⟨e1, below_next hb e2.out⟩
        clear hs hid h1
        go_wp2_with (go_at_call 144; refine (HC.out _ HB.out).mono ?_; rintro e w2 ⟨rfl, hb2⟩)
        go_ret
        exact ⟨by rw [HR.out]; rfl, hb2.out⟩
      · have HC : Hid (∀ W, Below w.heap.size w W → Calls Tryz.prog 144 #[.agg #[.int .i64 a0, .int .i64 a1, .int .i64 a2, .int .i64 a3, .int .i64 a4, .int .i64 a5, .int .i64 a6, .int .i64 a7], .pointer (some p), .pointer (some q)] W fun e w' => e = .returned (.bool false) ∧ Hid (Below w.heap.size w w')) := fun W hb =>
          (isId_o a0 a1 a2 a3 a4 a5 a6 a7 id p q W (by rw [hb.cell (lt_of_cell HP.out)]; exact HP.out) (by rw [hb.cell (lt_of_cell HQ.out)]; exact HQ.out) false (beq_eq_false_iff_ne.2 h1)).mono fun _ _ ⟨e1, e2⟩ => ⟨e1, below_next hb e2.out⟩
        have HK2 : Hid (∀ (i : Nat), i < k + 1 → (l.map Ld.O.id)[i]? ≠ some id) := fun i hi => by
          by_cases h : i < k
          · exact HK.out i h
          · obtain rfl : i = k := by omega
            rw [hid]
            exact fun e => h1 (Option.some.inj e)
        clear hs hid h1
        go_wp2_with (go_at_call 144; refine (HC.out _ HB.out).mono ?_; rintro e w2 ⟨rfl, hb2⟩)
        go_roundg gk
        case measure => omega
        case rel => exact ⟨k + 1, by omega, rfl, by first | rfl | go_num, hb2.out, HK2.out⟩
    · have HR := Lib.hid (HY.out k (by omega) HK.out)
      have hk : k = m := by omega
      subst hk
      go_wp2
      go_ret
      exact ⟨by rw [HR.out]; rfl, HB.out⟩

theorem boxed2_o (w : World) (id : Int) (v : Value) (t1 t2 : TypeId) : ((w.alloc (.cells #[.int .i64 id] t1)).alloc (.cells #[v] t2)).cell? ⟨w.heap.size, 0, none⟩ = some (.int .i64 id) ∧ ((w.alloc (.cells #[.int .i64 id] t1)).alloc (.cells #[v] t2)).cell? ⟨w.heap.size + 1, 0, none⟩ = some v := by
  refine ⟨?_, ?_⟩
  · exact ((Box.new w _ _).below (below_alloc _ _)).cell 0 _ rfl
  · rw [size_one w (.cells #[.int .i64 id] t1)]
    exact (Box.new (w.alloc (.cells #[.int .i64 id] t1)) _ _).cell 0 _ rfl

set_option maxHeartbeats 1000000 in
theorem first_o (A : Option Addr) (m c : Nat) (l : List Ld.O) (id : Int) (w : World) (r : Int) (hr : Ld.findI (l.map Ld.O.id) id = r) (hm : l.length = m) (hm2 : m ≤ 1000) (hl : OrdersAt w A l) :
    Calls Tryz.prog 124 #[.slice A m c, .int .i64 id, .func (.func 93) #[] #[]] w fun e w' => e = .returned (.int .i64 r) ∧ Hid (Below w.heap.size w w') := by
  have HC := Lib.hid (index_o A m c l id ⟨w.heap.size + 1, 0, none⟩ ⟨w.heap.size, 0, none⟩ _ hm hm2 (hl.below (below_more (below_alloc w (.cells #[.int .i64 id] 3)) (.cells #[.func (.func 93) #[] #[]] 126))) (boxed2_o _ _ _ _ _).2 (boxed2_o _ _ _ _ _).1)
  have HR := Lib.hid hr
  clear hl hm hr
  go_enter Tryz.func124, Tryz.ntmps124
  go_wp2_with (go_at_call 143; refine HC.out.mono ?_; rintro e w2 ⟨rfl, hb2⟩)
  go_ret
  exact ⟨by rw [HR.out]; rfl, below_box (below_box hb2)⟩

set_option maxHeartbeats 2000000 in
set_option maxRecDepth 100000 in
theorem two_o (A : Option Addr) (m c : Nat) (l : List Ld.O) (w : World) (hm : l.length = m) (hm2 : m ≤ 1000) (hl : OrdersAt w A l) :
    Calls Tryz.prog 92 #[.slice A m c, .func (.func 93) #[] #[]] w fun e w' => e = .returned (.bool (Ld.twB (l.map Ld.O.id))) ∧ Below w.heap.size w w' := by
  have HL := Lib.hid hl
  have HM := Lib.hid hm
  have HY : Hid (∀ k : Nat, m ≤ k → (∀ (i : Nat) x, i < k → (l.map Ld.O.id)[i]? = some x → Ld.findI (l.map Ld.O.id) x = (i : Int)) → Ld.twB (l.map Ld.O.id) = false) := fun k hk h => Ld.tw_no fun a b x hab ha hb => by
    have la := (List.getElem?_eq_some_iff.1 hb).1
    rw [List.length_map] at la
    have e1 := h a x (by omega) ha
    have e2 := h b x (by omega) hb
    omega
  have HN : Hid (∀ (k : Nat) x, (l.map Ld.O.id)[k]? = some x → Ld.findI (l.map Ld.O.id) x ≠ (k : Int) → Ld.twB (l.map Ld.O.id) = true) := fun k x h1 h2 => by
    rcases Ld.find_same h1 with h | ⟨j, hj, h⟩
    · exact absurd h h2
    · exact Ld.tw_yes hj h h1
  clear hl hm
  generalize Ld.twB (l.map Ld.O.id) = r at *
  go_enter Tryz.func92, Tryz.ntmps92
  go_wp2_with fail
  go_loopg [4, 9] m (fun gk s4 s9 W => ∃ (k : Nat), k + gk = m ∧ s4 = .bool false ∧ s9 = .int .i64 k ∧ Hid (Below w.heap.size w W) ∧ Hid (∀ (i : Nat) x, i < k → (l.map Ld.O.id)[i]? = some x → Ld.findI (l.map Ld.O.id) x = (i : Int)))
  case atStart => exact ⟨0, by omega, rfl, rfl, Below.refl _ _, fun i x hi => by omega⟩
  case round =>
    obtain ⟨k, hkg, rfl, rfl, HB, HK⟩ := hrel
    by_cases hlt : k < m
    · obtain ⟨gk, rfl⟩ : ∃ j, gk = j + 1 := ⟨gk - 1, by omega⟩
      obtain ⟨s, hs⟩ := mlist_at l k (by rw [HM.out]; exact hlt)
      obtain ⟨ad, rfl, hc⟩ := (HL.out.below HB.out).at_ hs
      obtain ⟨c0, c1, c2, c3, c4, c5, c6, c7⟩ := hc
      obtain ⟨a0, a1, a2, a3, a4, a5, a6, a7⟩ := s
      simp only at c0 c1 c2 c3 c4 c5 c6 c7
      have hid : (l.map Ld.O.id)[k]? = some a0 := by rw [List.getElem?_map, hs]; rfl
      have HI : Hid (∀ W, Below w.heap.size w W → Calls Tryz.prog 93 #[.agg #[.int .i64 a0, .int .i64 a1, .int .i64 a2, .int .i64 a3, .int .i64 a4, .int .i64 a5, .int .i64 a6, .int .i64 a7]] W fun e w' => e = .returned (.int .i64 a0) ∧ Hid (Below w.heap.size w w')) := fun W hb =>
        (idOf_o a0 a1 a2 a3 a4 a5 a6 a7 W).mono fun _ _ ⟨e1, e2⟩ => ⟨e1, below_next hb e2⟩
      obtain ⟨f, hf⟩ : ∃ f, Ld.findI (l.map Ld.O.id) a0 = f := ⟨_, rfl⟩
      have HC : Hid (∀ W, Below w.heap.size w W → Calls Tryz.prog 124 #[.slice (some ad) m c, .int .i64 a0, .func (.func 93) #[] #[]] W fun e w' => e = .returned (.int .i64 f) ∧ Hid (Below w.heap.size w w')) := fun W hb =>
        (first_o (some ad) m c l a0 W f hf HM.out hm2 (HL.out.below hb)).mono fun _ _ ⟨e1, e2⟩ => ⟨e1, below_next hb e2.out⟩
      have HB2 := Lib.hid (below_more HB.out)
      by_cases h1 : f = (k : Int)
      · have d1 : (f != (k : Int)) = false := by rw [h1]; simp
        have HK2 : Hid (∀ (i : Nat) x, i < k + 1 → (l.map Ld.O.id)[i]? = some x → Ld.findI (l.map Ld.O.id) x = (i : Int)) := fun i x hi hx => by
          by_cases h : i < k
          · exact HK.out i x h hx
          · obtain rfl : i = k := by omega
            rw [hid] at hx
            obtain rfl := Option.some.inj hx
            rw [hf, h1]
        clear hs hid h1 hf
        go_wp2_with (first | (go_at_call 93; refine (HI.out _ (HB2.out _)).mono ?_; rintro e w2 ⟨rfl, hb2⟩) | (go_at_call 124; refine (HC.out _ hb2.out).mono ?_; rintro e w3 ⟨rfl, hb3⟩))
        go_roundg gk
        case measure => omega
        case rel => exact ⟨k + 1, by omega, rfl, by first | rfl | go_num, hb3.out, HK2.out⟩
      · have d1 : (f != (k : Int)) = true := bne_iff_ne.2 h1
        have HR := Lib.hid (HN.out k a0 hid (by rw [hf]; exact h1))
        clear hs hid h1 hf
        go_wp2_with (first | (go_at_call 93; refine (HI.out _ (HB2.out _)).mono ?_; rintro e w2 ⟨rfl, hb2⟩) | (go_at_call 124; refine (HC.out _ hb2.out).mono ?_; rintro e w3 ⟨rfl, hb3⟩))
        go_ret
        exact ⟨by rw [HR.out]; rfl, hb3.out⟩
    · have HR := Lib.hid (HY.out k (by omega) HK.out)
      have hk : k = m := by omega
      subst hk
      go_wp2
      go_ret
      exact ⟨by rw [HR.out]; rfl, HB.out⟩

set_option maxHeartbeats 2000000 in
set_option maxRecDepth 100000 in
theorem index_t (A : Option Addr) (m c : Nat) (l : List Ld.T) (id : Int) (p q : Addr) (w : World) (hm : l.length = m) (hm2 : m ≤ 1000) (hl : TrucksAt w A l) (hp : w.cell? p = some (.func (.func 95) #[] #[])) (hq : w.cell? q = some (.int .i64 id)) :
    Calls Tryz.prog 145 #[.slice A m c, .func (.func 146) #[] #[.pointer (some p), .pointer (some q)]] w fun e w' => e = .returned (.int .i64 (Ld.findI (l.map Ld.T.id) id)) ∧ Below w.heap.size w w' := by
  have HL := Lib.hid hl
  have HM := Lib.hid hm
  have HP := Lib.hid hp
  have HQ := Lib.hid hq
  have HY : Hid (∀ k : Nat, m ≤ k → (∀ (i : Nat), i < k → (l.map Ld.T.id)[i]? ≠ some id) → Ld.findI (l.map Ld.T.id) id = -1) := fun k hk h => Ld.find_none fun j hj => h j (by rw [List.length_map] at hj; omega)
  have HN : Hid (∀ (k : Nat), (l.map Ld.T.id)[k]? = some id → (∀ (i : Nat), i < k → (l.map Ld.T.id)[i]? ≠ some id) → Ld.findI (l.map Ld.T.id) id = (k : Int)) := fun k h1 h2 => Ld.find_at h1 h2
  clear hl hm hp hq
  generalize Ld.findI (l.map Ld.T.id) id = r at *
  go_enter Tryz.func145, Tryz.ntmps145
  go_wp2_with fail
  go_loopg [4, 8] m (fun gk s4 s8 W => ∃ (k : Nat), k + gk = m ∧ s4 = .int .i64 0 ∧ s8 = .int .i64 k ∧ Hid (Below w.heap.size w W) ∧ Hid (∀ (i : Nat), i < k → (l.map Ld.T.id)[i]? ≠ some id))
  case atStart => exact ⟨0, by omega, rfl, rfl, Below.refl _ _, fun i hi => by omega⟩
  case round =>
    obtain ⟨k, hkg, rfl, rfl, HB, HK⟩ := hrel
    by_cases hlt : k < m
    · obtain ⟨gk, rfl⟩ : ∃ j, gk = j + 1 := ⟨gk - 1, by omega⟩
      obtain ⟨s, hs⟩ := mlist_at l k (by rw [HM.out]; exact hlt)
      obtain ⟨ad, rfl, hc⟩ := (HL.out.below HB.out).at_ hs
      obtain ⟨c0, c1, c2, c3, c4, c5, c6⟩ := hc
      obtain ⟨a0, a1, a2, a3, a4, a5, a6⟩ := s
      simp only at c0 c1 c2 c3 c4 c5 c6
      have hid : (l.map Ld.T.id)[k]? = some a0 := by rw [List.getElem?_map, hs]; rfl
      by_cases h1 : a0 = id
      · have HR := Lib.hid (HN.out k (by rw [hid, h1]) HK.out)
        have HC : Hid (∀ W, Below w.heap.size w W → Calls Tryz.prog 146 #[.agg #[.int .i64 a0, .int .i64 a1, .int .i64 a2, .int .i64 a3, .int .i64 a4, .int .i64 a5, .int .i64 a6], .pointer (some p), .pointer (some q)] W fun e w' => e = .returned (.bool true) ∧ Hid (Below w.heap.size w w')) := fun W hb =>
          (isId_t a0 a1 a2 a3 a4 a5 a6 id p q W (by rw [hb.cell (lt_of_cell HP.out)]; exact HP.out) (by rw [hb.cell (lt_of_cell HQ.out)]; exact HQ.out) true (beq_iff_eq.2 h1)).mono fun _ _ ⟨e1, e2⟩ => ⟨e1, below_next hb e2.out⟩
        clear hs hid h1
        go_wp2_with (go_at_call 146; refine (HC.out _ HB.out).mono ?_; rintro e w2 ⟨rfl, hb2⟩)
        go_ret
        exact ⟨by rw [HR.out]; rfl, hb2.out⟩
      · have HC : Hid (∀ W, Below w.heap.size w W → Calls Tryz.prog 146 #[.agg #[.int .i64 a0, .int .i64 a1, .int .i64 a2, .int .i64 a3, .int .i64 a4, .int .i64 a5, .int .i64 a6], .pointer (some p), .pointer (some q)] W fun e w' => e = .returned (.bool false) ∧ Hid (Below w.heap.size w w')) := fun W hb =>
          (isId_t a0 a1 a2 a3 a4 a5 a6 id p q W (by rw [hb.cell (lt_of_cell HP.out)]; exact HP.out) (by rw [hb.cell (lt_of_cell HQ.out)]; exact HQ.out) false (beq_eq_false_iff_ne.2 h1)).mono fun _ _ ⟨e1, e2⟩ => ⟨e1, below_next hb e2.out⟩
        have HK2 : Hid (∀ (i : Nat), i < k + 1 → (l.map Ld.T.id)[i]? ≠ some id) := fun i hi => by
          by_cases h : i < k
          · exact HK.out i h
          · obtain rfl : i = k := by omega
            rw [hid]
            exact fun e => h1 (Option.some.inj e)
        clear hs hid h1
        go_wp2_with (go_at_call 146; refine (HC.out _ HB.out).mono ?_; rintro e w2 ⟨rfl, hb2⟩)
        go_roundg gk
        case measure => omega
        case rel => exact ⟨k + 1, by omega, rfl, by first | rfl | go_num, hb2.out, HK2.out⟩
    · have HR := Lib.hid (HY.out k (by omega) HK.out)
      have hk : k = m := by omega
      subst hk
      go_wp2
      go_ret
      exact ⟨by rw [HR.out]; rfl, HB.out⟩

theorem boxed2_t (w : World) (id : Int) (v : Value) (t1 t2 : TypeId) : ((w.alloc (.cells #[.int .i64 id] t1)).alloc (.cells #[v] t2)).cell? ⟨w.heap.size, 0, none⟩ = some (.int .i64 id) ∧ ((w.alloc (.cells #[.int .i64 id] t1)).alloc (.cells #[v] t2)).cell? ⟨w.heap.size + 1, 0, none⟩ = some v := by
  refine ⟨?_, ?_⟩
  · exact ((Box.new w _ _).below (below_alloc _ _)).cell 0 _ rfl
  · rw [size_one w (.cells #[.int .i64 id] t1)]
    exact (Box.new (w.alloc (.cells #[.int .i64 id] t1)) _ _).cell 0 _ rfl

set_option maxHeartbeats 1000000 in
theorem first_t (A : Option Addr) (m c : Nat) (l : List Ld.T) (id : Int) (w : World) (r : Int) (hr : Ld.findI (l.map Ld.T.id) id = r) (hm : l.length = m) (hm2 : m ≤ 1000) (hl : TrucksAt w A l) :
    Calls Tryz.prog 125 #[.slice A m c, .int .i64 id, .func (.func 95) #[] #[]] w fun e w' => e = .returned (.int .i64 r) ∧ Hid (Below w.heap.size w w') := by
  have HC := Lib.hid (index_t A m c l id ⟨w.heap.size + 1, 0, none⟩ ⟨w.heap.size, 0, none⟩ _ hm hm2 (hl.below (below_more (below_alloc w (.cells #[.int .i64 id] 3)) (.cells #[.func (.func 95) #[] #[]] 128))) (boxed2_t _ _ _ _ _).2 (boxed2_t _ _ _ _ _).1)
  have HR := Lib.hid hr
  clear hl hm hr
  go_enter Tryz.func125, Tryz.ntmps125
  go_wp2_with (go_at_call 145; refine HC.out.mono ?_; rintro e w2 ⟨rfl, hb2⟩)
  go_ret
  exact ⟨by rw [HR.out]; rfl, below_box (below_box hb2)⟩

set_option maxHeartbeats 2000000 in
set_option maxRecDepth 100000 in
theorem two_t (A : Option Addr) (m c : Nat) (l : List Ld.T) (w : World) (hm : l.length = m) (hm2 : m ≤ 1000) (hl : TrucksAt w A l) :
    Calls Tryz.prog 94 #[.slice A m c, .func (.func 95) #[] #[]] w fun e w' => e = .returned (.bool (Ld.twB (l.map Ld.T.id))) ∧ Below w.heap.size w w' := by
  have HL := Lib.hid hl
  have HM := Lib.hid hm
  have HY : Hid (∀ k : Nat, m ≤ k → (∀ (i : Nat) x, i < k → (l.map Ld.T.id)[i]? = some x → Ld.findI (l.map Ld.T.id) x = (i : Int)) → Ld.twB (l.map Ld.T.id) = false) := fun k hk h => Ld.tw_no fun a b x hab ha hb => by
    have la := (List.getElem?_eq_some_iff.1 hb).1
    rw [List.length_map] at la
    have e1 := h a x (by omega) ha
    have e2 := h b x (by omega) hb
    omega
  have HN : Hid (∀ (k : Nat) x, (l.map Ld.T.id)[k]? = some x → Ld.findI (l.map Ld.T.id) x ≠ (k : Int) → Ld.twB (l.map Ld.T.id) = true) := fun k x h1 h2 => by
    rcases Ld.find_same h1 with h | ⟨j, hj, h⟩
    · exact absurd h h2
    · exact Ld.tw_yes hj h h1
  clear hl hm
  generalize Ld.twB (l.map Ld.T.id) = r at *
  go_enter Tryz.func94, Tryz.ntmps94
  go_wp2_with fail
  go_loopg [4, 9] m (fun gk s4 s9 W => ∃ (k : Nat), k + gk = m ∧ s4 = .bool false ∧ s9 = .int .i64 k ∧ Hid (Below w.heap.size w W) ∧ Hid (∀ (i : Nat) x, i < k → (l.map Ld.T.id)[i]? = some x → Ld.findI (l.map Ld.T.id) x = (i : Int)))
  case atStart => exact ⟨0, by omega, rfl, rfl, Below.refl _ _, fun i x hi => by omega⟩
  case round =>
    obtain ⟨k, hkg, rfl, rfl, HB, HK⟩ := hrel
    by_cases hlt : k < m
    · obtain ⟨gk, rfl⟩ : ∃ j, gk = j + 1 := ⟨gk - 1, by omega⟩
      obtain ⟨s, hs⟩ := mlist_at l k (by rw [HM.out]; exact hlt)
      obtain ⟨ad, rfl, hc⟩ := (HL.out.below HB.out).at_ hs
      obtain ⟨c0, c1, c2, c3, c4, c5, c6⟩ := hc
      obtain ⟨a0, a1, a2, a3, a4, a5, a6⟩ := s
      simp only at c0 c1 c2 c3 c4 c5 c6
      have hid : (l.map Ld.T.id)[k]? = some a0 := by rw [List.getElem?_map, hs]; rfl
      have HI : Hid (∀ W, Below w.heap.size w W → Calls Tryz.prog 95 #[.agg #[.int .i64 a0, .int .i64 a1, .int .i64 a2, .int .i64 a3, .int .i64 a4, .int .i64 a5, .int .i64 a6]] W fun e w' => e = .returned (.int .i64 a0) ∧ Hid (Below w.heap.size w w')) := fun W hb =>
        (idOf_t a0 a1 a2 a3 a4 a5 a6 W).mono fun _ _ ⟨e1, e2⟩ => ⟨e1, below_next hb e2⟩
      obtain ⟨f, hf⟩ : ∃ f, Ld.findI (l.map Ld.T.id) a0 = f := ⟨_, rfl⟩
      have HC : Hid (∀ W, Below w.heap.size w W → Calls Tryz.prog 125 #[.slice (some ad) m c, .int .i64 a0, .func (.func 95) #[] #[]] W fun e w' => e = .returned (.int .i64 f) ∧ Hid (Below w.heap.size w w')) := fun W hb =>
        (first_t (some ad) m c l a0 W f hf HM.out hm2 (HL.out.below hb)).mono fun _ _ ⟨e1, e2⟩ => ⟨e1, below_next hb e2.out⟩
      have HB2 := Lib.hid (below_more HB.out)
      by_cases h1 : f = (k : Int)
      · have d1 : (f != (k : Int)) = false := by rw [h1]; simp
        have HK2 : Hid (∀ (i : Nat) x, i < k + 1 → (l.map Ld.T.id)[i]? = some x → Ld.findI (l.map Ld.T.id) x = (i : Int)) := fun i x hi hx => by
          by_cases h : i < k
          · exact HK.out i x h hx
          · obtain rfl : i = k := by omega
            rw [hid] at hx
            obtain rfl := Option.some.inj hx
            rw [hf, h1]
        clear hs hid h1 hf
        go_wp2_with (first | (go_at_call 95; refine (HI.out _ (HB2.out _)).mono ?_; rintro e w2 ⟨rfl, hb2⟩) | (go_at_call 125; refine (HC.out _ hb2.out).mono ?_; rintro e w3 ⟨rfl, hb3⟩))
        go_roundg gk
        case measure => omega
        case rel => exact ⟨k + 1, by omega, rfl, by first | rfl | go_num, hb3.out, HK2.out⟩
      · have d1 : (f != (k : Int)) = true := bne_iff_ne.2 h1
        have HR := Lib.hid (HN.out k a0 hid (by rw [hf]; exact h1))
        clear hs hid h1 hf
        go_wp2_with (first | (go_at_call 95; refine (HI.out _ (HB2.out _)).mono ?_; rintro e w2 ⟨rfl, hb2⟩) | (go_at_call 125; refine (HC.out _ hb2.out).mono ?_; rintro e w3 ⟨rfl, hb3⟩))
        go_ret
        exact ⟨by rw [HR.out]; rfl, hb3.out⟩
    · have HR := Lib.hid (HY.out k (by omega) HK.out)
      have hk : k = m := by omega
      subst hk
      go_wp2
      go_ret
      exact ⟨by rw [HR.out]; rfl, HB.out⟩

end Go.Proofs.YtgjmlnpfkmpfgaaGreat
end

section
/-! Contracts of package load: whether all orders and all trucks may be; World. -/
namespace Go.Proofs.YtgjmlnpfkmpfgaaGreat
open Go.RowKit
set_option linter.unusedVariables false

set_option maxHeartbeats 1000000 in
theorem inWorld (a0 a1 a2 a3 a4 a5 a6 a7 : Int) (b : Nat) (N : Int) (w : World) (r : Int) (hr : Ld.oE ⟨a0, a1, a2, a3, a4, a5, a6, a7⟩ N = r) (hN : N ≤ 9223372036854775807) (hb : w.cell? ⟨b, 0, none⟩ = some (.int .i64 N)) :
    Calls Tryz.prog 87 #[.agg #[.int .i64 a0, .int .i64 a1, .int .i64 a2, .int .i64 a3, .int .i64 a4, .int .i64 a5, .int .i64 a6, .int .i64 a7], .pointer (some ⟨b, 0, none⟩)] w fun e w' => e = .returned (.int .i64 r) ∧ Hid (Below w.heap.size w w') := by
  have y1 : (w.alloc (.cells #[.int .i64 a0, .int .i64 a1, .int .i64 a2, .int .i64 a3, .int .i64 a4, .int .i64 a5, .int .i64 a6, .int .i64 a7] 52)).cell? ⟨b, 0, none⟩ = some (.int .i64 N) := by rw [(below_alloc w _).cell (lt_of_cell hb)]; exact hb
  have HC := Lib.hid (order_any ⟨a0, a1, a2, a3, a4, a5, a6, a7⟩ N (w.alloc (.cells #[.int .i64 a0, .int .i64 a1, .int .i64 a2, .int .i64 a3, .int .i64 a4, .int .i64 a5, .int .i64 a6, .int .i64 a7] 52)) r hr hN)
  clear hb hr
  go_enter Tryz.func87, Tryz.ntmps87
  go_wp2_with (go_at_call 88; refine HC.out.mono ?_; rintro e w2 ⟨rfl, hb2⟩)
  go_ret
  exact ⟨rfl, below_box hb2.out⟩

set_option maxHeartbeats 2000000 in
set_option maxRecDepth 100000 in
theorem all_o (b : Nat) (N : Int) (A : Option Addr) (m c : Nat) (l : List Ld.O) (w : World) (hm : l.length = m) (hm2 : m ≤ 1000) (hl : OrdersAt w A l) (hN : N ≤ 9223372036854775807) (hb0 : w.cell? ⟨b, 0, none⟩ = some (.int .i64 N)) :
    Calls Tryz.prog 89 #[.slice A m c, .func (.func 87) #[] #[.pointer (some ⟨b, 0, none⟩)]] w fun e w' => e = .returned (.bool (l.all (fun o => Ld.oB o N))) ∧ Below w.heap.size w w' := by
  have HL := Lib.hid hl
  have HM := Lib.hid hm
  have HN0 := Lib.hid hb0
  clear hb0
  have HY : Hid (∀ k : Nat, m ≤ k → (l.take k).all (fun o => Ld.oB o N) = true → l.all (fun o => Ld.oB o N) = true) := fun k hk h => Ld.all_full (by omega) h
  have HN : Hid (∀ (k : Nat) x, l[k]? = some x → (fun o => Ld.oB o N) x = false → l.all (fun o => Ld.oB o N) = false) := fun k x h1 h2 => Ld.all_stop h1 h2
  clear hl hm
  generalize l.all (fun o => Ld.oB o N) = r at *
  go_enter Tryz.func89, Tryz.ntmps89
  go_wp2_with fail
  go_loopg [4, 9] m (fun gk s4 s9 W => ∃ (k : Nat), k + gk = m ∧ s4 = .bool false ∧ s9 = .int .i64 k ∧ Hid (Below w.heap.size w W) ∧ Hid ((l.take k).all (fun o => Ld.oB o N) = true))
  case atStart => exact ⟨0, by omega, rfl, rfl, Below.refl _ _, rfl⟩
  case round =>
    obtain ⟨k, hkg, rfl, rfl, HB, HK⟩ := hrel
    by_cases hlt : k < m
    · obtain ⟨gk, rfl⟩ : ∃ j, gk = j + 1 := ⟨gk - 1, by omega⟩
      obtain ⟨s, hs⟩ := mlist_at l k (by rw [HM.out]; exact hlt)
      obtain ⟨ad, rfl, hc⟩ := (HL.out.below HB.out).at_ hs
      obtain ⟨c0, c1, c2, c3, c4, c5, c6, c7⟩ := hc
      obtain ⟨a0, a1, a2, a3, a4, a5, a6, a7⟩ := s
      simp only at c0 c1 c2 c3 c4 c5 c6 c7
      have HB2 := Lib.hid (below_more HB.out)
      cases h1 : Ld.oB ⟨a0, a1, a2, a3, a4, a5, a6, a7⟩ N
      · have HR := Lib.hid (HN.out k _ hs h1)
        have HC : Hid (∀ W, Below w.heap.size w W → Calls Tryz.prog 87 #[.agg #[.int .i64 a0, .int .i64 a1, .int .i64 a2, .int .i64 a3, .int .i64 a4, .int .i64 a5, .int .i64 a6, .int .i64 a7], .pointer (some ⟨b, 0, none⟩)] W fun e w' => e = .returned (.int .i64 1) ∧ Hid (Below w.heap.size w w')) := fun W hb =>
          (inWorld a0 a1 a2 a3 a4 a5 a6 a7 b N W 1 (Ld.oE_no h1) hN (by rw [hb.cell (lt_of_cell HN0.out)]; exact HN0.out)).mono fun _ _ ⟨e1, e2⟩ => ⟨e1, below_next hb e2.out⟩
        clear hs h1
        go_wp2_with (go_at_call 87; refine (HC.out _ (HB2.out _)).mono ?_; rintro e w2 ⟨rfl, hb2⟩)
        go_ret
        exact ⟨by rw [HR.out]; rfl, hb2.out⟩
      · have HK2 := Lib.hid (Ld.all_snoc hs HK.out h1)
        have HC : Hid (∀ W, Below w.heap.size w W → Calls Tryz.prog 87 #[.agg #[.int .i64 a0, .int .i64 a1, .int .i64 a2, .int .i64 a3, .int .i64 a4, .int .i64 a5, .int .i64 a6, .int .i64 a7], .pointer (some ⟨b, 0, none⟩)] W fun e w' => e = .returned (.int .i64 0) ∧ Hid (Below w.heap.size w w')) := fun W hb =>
          (inWorld a0 a1 a2 a3 a4 a5 a6 a7 b N W 0 (Ld.oE_yes h1) hN (by rw [hb.cell (lt_of_cell HN0.out)]; exact HN0.out)).mono fun _ _ ⟨e1, e2⟩ => ⟨e1, below_next hb e2.out⟩
        clear hs h1
        go_wp2_with (go_at_call 87; refine (HC.out _ (HB2.out _)).mono ?_; rintro e w2 ⟨rfl, hb2⟩)
        go_roundg gk
        case measure => omega
        case rel => exact ⟨k + 1, by omega, rfl, by first | rfl | go_num, hb2.out, HK2.out⟩
    · have HR := Lib.hid (HY.out k (by omega) HK.out)
      have hk : k = m := by omega
      subst hk
      go_wp2
      go_ret
      exact ⟨by rw [HR.out]; rfl, HB.out⟩

set_option maxHeartbeats 2000000 in
set_option maxRecDepth 100000 in
theorem all_t (A : Option Addr) (m c : Nat) (l : List Ld.T) (w : World) (hm : l.length = m) (hm2 : m ≤ 1000) (hl : TrucksAt w A l) :
    Calls Tryz.prog 90 #[.slice A m c, .func (.func 91) #[] #[]] w fun e w' => e = .returned (.bool (l.all Ld.tB)) ∧ Below w.heap.size w w' := by
  have HL := Lib.hid hl
  have HM := Lib.hid hm
  have HY : Hid (∀ k : Nat, m ≤ k → (l.take k).all Ld.tB = true → l.all Ld.tB = true) := fun k hk h => Ld.all_full (by omega) h
  have HN : Hid (∀ (k : Nat) x, l[k]? = some x → Ld.tB x = false → l.all Ld.tB = false) := fun k x h1 h2 => Ld.all_stop h1 h2
  clear hl hm
  generalize l.all Ld.tB = r at *
  go_enter Tryz.func90, Tryz.ntmps90
  go_wp2_with fail
  go_loopg [4, 9] m (fun gk s4 s9 W => ∃ (k : Nat), k + gk = m ∧ s4 = .bool false ∧ s9 = .int .i64 k ∧ Hid (Below w.heap.size w W) ∧ Hid ((l.take k).all Ld.tB = true))
  case atStart => exact ⟨0, by omega, rfl, rfl, Below.refl _ _, rfl⟩
  case round =>
    obtain ⟨k, hkg, rfl, rfl, HB, HK⟩ := hrel
    by_cases hlt : k < m
    · obtain ⟨gk, rfl⟩ : ∃ j, gk = j + 1 := ⟨gk - 1, by omega⟩
      obtain ⟨s, hs⟩ := mlist_at l k (by rw [HM.out]; exact hlt)
      obtain ⟨ad, rfl, hc⟩ := (HL.out.below HB.out).at_ hs
      obtain ⟨c0, c1, c2, c3, c4, c5, c6⟩ := hc
      obtain ⟨a0, a1, a2, a3, a4, a5, a6⟩ := s
      simp only at c0 c1 c2 c3 c4 c5 c6
      have HB2 := Lib.hid (below_more HB.out)
      cases h1 : Ld.tB ⟨a0, a1, a2, a3, a4, a5, a6⟩
      · have HR := Lib.hid (HN.out k _ hs h1)
        have HC : Hid (∀ W, Below w.heap.size w W → Calls Tryz.prog 91 #[.agg #[.int .i64 a0, .int .i64 a1, .int .i64 a2, .int .i64 a3, .int .i64 a4, .int .i64 a5, .int .i64 a6]] W fun e w' => e = .returned (.int .i64 1) ∧ Hid (Below w.heap.size w w')) := fun W hb =>
          (truck_any ⟨a0, a1, a2, a3, a4, a5, a6⟩ W 1 (Ld.tE_no h1)).mono fun _ _ ⟨e1, e2⟩ => ⟨e1, below_next hb e2.out⟩
        clear hs h1
        go_wp2_with (go_at_call 91; refine (HC.out _ (HB2.out _)).mono ?_; rintro e w2 ⟨rfl, hb2⟩)
        go_ret
        exact ⟨by rw [HR.out]; rfl, hb2.out⟩
      · have HK2 := Lib.hid (Ld.all_snoc hs HK.out h1)
        have HC : Hid (∀ W, Below w.heap.size w W → Calls Tryz.prog 91 #[.agg #[.int .i64 a0, .int .i64 a1, .int .i64 a2, .int .i64 a3, .int .i64 a4, .int .i64 a5, .int .i64 a6]] W fun e w' => e = .returned (.int .i64 0) ∧ Hid (Below w.heap.size w w')) := fun W hb =>
          (truck_any ⟨a0, a1, a2, a3, a4, a5, a6⟩ W 0 (Ld.tE_yes h1)).mono fun _ _ ⟨e1, e2⟩ => ⟨e1, below_next hb e2.out⟩
        clear hs h1
        go_wp2_with (go_at_call 91; refine (HC.out _ (HB2.out _)).mono ?_; rintro e w2 ⟨rfl, hb2⟩)
        go_roundg gk
        case measure => omega
        case rel => exact ⟨k + 1, by omega, rfl, by first | rfl | go_num, hb2.out, HK2.out⟩
    · have HR := Lib.hid (HY.out k (by omega) HK.out)
      have hk : k = m := by omega
      subst hk
      go_wp2
      go_ret
      exact ⟨by rw [HR.out]; rfl, HB.out⟩

def wV (N : Int) (v1 v2 : Value) (A : Option Addr) (m c : Nat) (B : Option Addr) (k d : Nat) : Array Value := #[.int .i64 N, v1, v2, .slice A m c, .slice B k d]
/-- a world in a box of its own, its rows beside it -/
structure WBox (w : World) (b : Nat) (N : Int) (v1 v2 : Value) (A : Option Addr) (m c : Nat) (os : List Ld.O) (B : Option Addr) (k d : Nat) (ts : List Ld.T) : Prop where
  box : Box w b (wV N v1 v2 A m c B k d) 28
  os : OrdersAt w A os
  ts : TrucksAt w B ts
theorem WBox.below {w w' : World} {b : Nat} {N : Int} {v1 v2 : Value} {A : Option Addr} {m c : Nat} {os : List Ld.O} {B : Option Addr} {k d : Nat} {ts : List Ld.T} (h : WBox w b N v1 v2 A m c os B k d ts) (hb : Below w.heap.size w w') : WBox w' b N v1 v2 A m c os B k d ts := ⟨h.box.below hb, h.os.below hb, h.ts.below hb⟩
theorem WBox.new {w : World} {N : Int} {v1 v2 : Value} {A : Option Addr} {m c : Nat} {os : List Ld.O} {B : Option Addr} {k d : Nat} {ts : List Ld.T} (h1 : OrdersAt w A os) (h2 : TrucksAt w B ts) : WBox (w.alloc (.cells #[.int .i64 N, v1, v2, .slice A m c, .slice B k d] 28)) w.heap.size N v1 v2 A m c os B k d ts :=
  ⟨Box.new w _ _, h1.below (below_alloc _ _), h2.below (below_alloc _ _)⟩
theorem WBox.c0 {w : World} {b : Nat} {N : Int} {v1 v2 : Value} {A : Option Addr} {m c : Nat} {os : List Ld.O} {B : Option Addr} {k d : Nat} {ts : List Ld.T} (h : WBox w b N v1 v2 A m c os B k d ts) : w.cell? ⟨b, 0, none⟩ = some (.int .i64 N) := h.box.cell 0 _ rfl
theorem WBox.c1 {w : World} {b : Nat} {N : Int} {v1 v2 : Value} {A : Option Addr} {m c : Nat} {os : List Ld.O} {B : Option Addr} {k d : Nat} {ts : List Ld.T} (h : WBox w b N v1 v2 A m c os B k d ts) : w.cell? ⟨b, 1, none⟩ = some v1 := h.box.cell 1 _ rfl
theorem WBox.c2 {w : World} {b : Nat} {N : Int} {v1 v2 : Value} {A : Option Addr} {m c : Nat} {os : List Ld.O} {B : Option Addr} {k d : Nat} {ts : List Ld.T} (h : WBox w b N v1 v2 A m c os B k d ts) : w.cell? ⟨b, 2, none⟩ = some v2 := h.box.cell 2 _ rfl
theorem WBox.c3 {w : World} {b : Nat} {N : Int} {v1 v2 : Value} {A : Option Addr} {m c : Nat} {os : List Ld.O} {B : Option Addr} {k d : Nat} {ts : List Ld.T} (h : WBox w b N v1 v2 A m c os B k d ts) : w.cell? ⟨b, 3, none⟩ = some (.slice A m c) := h.box.cell 3 _ rfl
theorem WBox.c4 {w : World} {b : Nat} {N : Int} {v1 v2 : Value} {A : Option Addr} {m c : Nat} {os : List Ld.O} {B : Option Addr} {k d : Nat} {ts : List Ld.T} (h : WBox w b N v1 v2 A m c os B k d ts) : w.cell? ⟨b, 4, none⟩ = some (.slice B k d) := h.box.cell 4 _ rfl

theorem allo_b (b : Nat) (N : Int) (A : Option Addr) (m c : Nat) (l : List Ld.O) (w : World) (r : Bool) (hr : l.all (fun o => Ld.oB o N) = r) (hm : l.length = m) (hm2 : m ≤ 1000) (hl : OrdersAt w A l) (hN : N ≤ 9223372036854775807) (hb0 : w.cell? ⟨b, 0, none⟩ = some (.int .i64 N)) :
    Calls Tryz.prog 89 #[.slice A m c, .func (.func 87) #[] #[.pointer (some ⟨b, 0, none⟩)]] w fun e w' => e = .returned (.bool r) ∧ Hid (Below w.heap.size w w') := by
  subst hr
  exact all_o b N A m c l w hm hm2 hl hN hb0
theorem allt_b (A : Option Addr) (m c : Nat) (l : List Ld.T) (w : World) (r : Bool) (hr : l.all Ld.tB = r) (hm : l.length = m) (hm2 : m ≤ 1000) (hl : TrucksAt w A l) :
    Calls Tryz.prog 90 #[.slice A m c, .func (.func 91) #[] #[]] w fun e w' => e = .returned (.bool r) ∧ Hid (Below w.heap.size w w') := by
  subst hr
  exact all_t A m c l w hm hm2 hl
theorem twoo_b (A : Option Addr) (m c : Nat) (l : List Ld.O) (w : World) (r : Bool) (hr : Ld.twB (l.map Ld.O.id) = r) (hm : l.length = m) (hm2 : m ≤ 1000) (hl : OrdersAt w A l) :
    Calls Tryz.prog 92 #[.slice A m c, .func (.func 93) #[] #[]] w fun e w' => e = .returned (.bool r) ∧ Hid (Below w.heap.size w w') := by
  subst hr
  exact two_o A m c l w hm hm2 hl
theorem twot_b (A : Option Addr) (m c : Nat) (l : List Ld.T) (w : World) (r : Bool) (hr : Ld.twB (l.map Ld.T.id) = r) (hm : l.length = m) (hm2 : m ≤ 1000) (hl : TrucksAt w A l) :
    Calls Tryz.prog 94 #[.slice A m c, .func (.func 95) #[] #[]] w fun e w' => e = .returned (.bool r) ∧ Hid (Below w.heap.size w w') := by
  subst hr
  exact two_t A m c l w hm hm2 hl

set_option maxHeartbeats 2000000 in
set_option maxRecDepth 100000 in
theorem world_val (N : Int) (v1 v2 : Value) (A : Option Addr) (m c : Nat) (os : List Ld.O) (B : Option Addr) (k d : Nat) (ts : List Ld.T) (w : World) (hN : N ≤ 9223372036854775807) (hm : os.length = m) (hm2 : m ≤ 1000) (hk : ts.length = k) (hk2 : k ≤ 1000) (hos : OrdersAt w A os) (hts : TrucksAt w B ts) :
    Calls Tryz.prog 60 #[.agg #[.int .i64 N, v1, v2, .slice A m c, .slice B k d]] w fun e w' => e = .returned (.int .i64 (Ld.worldE N os ts)) ∧ Below w.heap.size w w' := by
  have HB0 : Hid (Below w.heap.size w (w.alloc (.cells #[.int .i64 N, v1, v2, .slice A m c, .slice B k d] 28))) := below_alloc _ _
  have HX := Lib.hid (WBox.new (N := N) (v1 := v1) (v2 := v2) (m := m) (c := c) (k := k) (d := d) hos hts)
  have HM := Lib.hid hm
  have HK := Lib.hid hk
  clear hos hts hm hk
  by_cases h1 : 12 < m
  · have HR := Lib.hid (Ld.world_full (N := N) (os := os) (ts := ts) (.inl (by rw [HM.out]; exact h1)))
    have d1 : decide ((12 : Int) < (m : Int)) = true := decide_eq_true (by omega)
    clear h1
    go_enter Tryz.func60, Tryz.ntmps60
    go_wp2
    go_ret
    exact ⟨by rw [HR.out]; rfl, HB0.out⟩
  have d1 : decide ((12 : Int) < (m : Int)) = false := decide_eq_false (by omega)
  by_cases h2 : 6 < k
  · have HR := Lib.hid (Ld.world_full (N := N) (os := os) (ts := ts) (.inr (by rw [HK.out]; exact h2)))
    have d2 : decide ((6 : Int) < (k : Int)) = true := decide_eq_true (by omega)
    clear h1 h2
    go_enter Tryz.func60, Tryz.ntmps60
    go_wp2
    go_ret
    exact ⟨by rw [HR.out]; rfl, HB0.out⟩
  have d2 : decide ((6 : Int) < (k : Int)) = false := decide_eq_false (by omega)
  have HOA : Hid (∀ r, os.all (fun o => Ld.oB o N) = r → ∀ W1, WBox W1 w.heap.size N v1 v2 A m c os B k d ts → Below w.heap.size w W1 → Calls Tryz.prog 89 #[.slice A m c, .func (.func 87) #[] #[.pointer (some ⟨w.heap.size, 0, none⟩)]] W1 fun e w' => e = .returned (.bool r) ∧ Hid (Below w.heap.size w w' ∧ WBox w' w.heap.size N v1 v2 A m c os B k d ts)) := fun r hr W1 hx hb =>
    (allo_b w.heap.size N A m c os W1 r hr HM.out hm2 hx.os hN hx.c0).mono fun _ _ ⟨e1, e2⟩ => ⟨e1, below_next hb e2.out, hx.below e2.out⟩
  have HTA : Hid (∀ r, ts.all Ld.tB = r → ∀ W1, WBox W1 w.heap.size N v1 v2 A m c os B k d ts → Below w.heap.size w W1 → Calls Tryz.prog 90 #[.slice B k d, .func (.func 91) #[] #[]] W1 fun e w' => e = .returned (.bool r) ∧ Hid (Below w.heap.size w w' ∧ WBox w' w.heap.size N v1 v2 A m c os B k d ts)) := fun r hr W1 hx hb =>
    (allt_b B k d ts W1 r hr HK.out hk2 hx.ts).mono fun _ _ ⟨e1, e2⟩ => ⟨e1, below_next hb e2.out, hx.below e2.out⟩
  have HOT : Hid (∀ r, Ld.twB (os.map Ld.O.id) = r → ∀ W1, WBox W1 w.heap.size N v1 v2 A m c os B k d ts → Below w.heap.size w W1 → Calls Tryz.prog 92 #[.slice A m c, .func (.func 93) #[] #[]] W1 fun e w' => e = .returned (.bool r) ∧ Hid (Below w.heap.size w w' ∧ WBox w' w.heap.size N v1 v2 A m c os B k d ts)) := fun r hr W1 hx hb =>
    (twoo_b A m c os W1 r hr HM.out hm2 hx.os).mono fun _ _ ⟨e1, e2⟩ => ⟨e1, below_next hb e2.out, hx.below e2.out⟩
  have HTT : Hid (∀ r, Ld.twB (ts.map Ld.T.id) = r → ∀ W1, WBox W1 w.heap.size N v1 v2 A m c os B k d ts → Below w.heap.size w W1 → Calls Tryz.prog 94 #[.slice B k d, .func (.func 95) #[] #[]] W1 fun e w' => e = .returned (.bool r) ∧ Hid (Below w.heap.size w w' ∧ WBox w' w.heap.size N v1 v2 A m c os B k d ts)) := fun r hr W1 hx hb =>
    (twot_b B k d ts W1 r hr HK.out hk2 hx.ts).mono fun _ _ ⟨e1, e2⟩ => ⟨e1, below_next hb e2.out, hx.below e2.out⟩
  have l1 : Hid (os.length ≤ 12) := by unfold Hid; rw [HM.out]; omega
  have l2 : Hid (ts.length ≤ 6) := by unfold Hid; rw [HK.out]; omega
  clear h1 h2
  cases g1 : os.all (fun o => Ld.oB o N) with
  | false =>
    have HR := Lib.hid (Ld.world_arg l1.out l2.out (.inl g1))
    have HC := Lib.hid (HOA.out false g1 _ HX.out HB0.out)
    clear g1 HOA HTA HOT HTT
    go_enter Tryz.func60, Tryz.ntmps60
    go_wp2_with fail
    with_reducible refine HC.out.mono ?_
    rintro e w1 ⟨rfl, hb1⟩
    go_wp2
    go_ret
    exact ⟨by rw [HR.out]; rfl, hb1.out.1⟩
  | true =>
    have HC := Lib.hid (HOA.out true g1 _ HX.out HB0.out)
    have HG1 := Lib.hid g1
    clear g1
    cases g2 : ts.all Ld.tB with
    | false =>
      have HR := Lib.hid (Ld.world_arg (N := N) l1.out l2.out (.inr g2))
      have HC2 := Lib.hid (HTA.out false g2)
      clear g2 HOA HTA HOT HTT
      go_enter Tryz.func60, Tryz.ntmps60
      go_wp2_with fail
      with_reducible refine HC.out.mono ?_
      rintro e w1 ⟨rfl, hb1⟩
      have x4 := hb1.out.2.c4
      go_wp2_with fail
      with_reducible refine (HC2.out w1 hb1.out.2 hb1.out.1).mono ?_
      rintro e w2 ⟨rfl, hb2⟩
      clear x4
      go_wp2
      go_ret
      exact ⟨by rw [HR.out]; rfl, hb2.out.1⟩
    | true =>
      have HC2 := Lib.hid (HTA.out true g2)
      have HG2 := Lib.hid g2
      clear g2
      cases g3 : Ld.twB (os.map Ld.O.id) with
      | true =>
        have HR := Lib.hid (Ld.world_two l1.out l2.out HG1.out HG2.out (.inl g3))
        have HC3 := Lib.hid (HOT.out true g3)
        clear g3 HOA HTA HOT HTT
        go_enter Tryz.func60, Tryz.ntmps60
        go_wp2_with fail
        with_reducible refine HC.out.mono ?_
        rintro e w1 ⟨rfl, hb1⟩
        have x4 := hb1.out.2.c4
        go_wp2_with fail
        with_reducible refine (HC2.out w1 hb1.out.2 hb1.out.1).mono ?_
        rintro e w2 ⟨rfl, hb2⟩
        clear x4
        have x3 := hb2.out.2.c3
        go_wp2_with fail
        with_reducible refine (HC3.out w2 hb2.out.2 hb2.out.1).mono ?_
        rintro e w3 ⟨rfl, hb3⟩
        clear x3
        go_wp2
        go_ret
        exact ⟨by rw [HR.out]; rfl, hb3.out.1⟩
      | false =>
        have HC3 := Lib.hid (HOT.out false g3)
        have HG3 := Lib.hid g3
        clear g3
        cases g4 : Ld.twB (ts.map Ld.T.id) with
        | true =>
          have HR := Lib.hid (Ld.world_two l1.out l2.out HG1.out HG2.out (.inr g4))
          have HC4 := Lib.hid (HTT.out true g4)
          clear g4 HOA HTA HOT HTT
          go_enter Tryz.func60, Tryz.ntmps60
          go_wp2_with fail
          with_reducible refine HC.out.mono ?_
          rintro e w1 ⟨rfl, hb1⟩
          have x4 := hb1.out.2.c4
          go_wp2_with fail
          with_reducible refine (HC2.out w1 hb1.out.2 hb1.out.1).mono ?_
          rintro e w2 ⟨rfl, hb2⟩
          clear x4
          have x3 := hb2.out.2.c3
          go_wp2_with fail
          with_reducible refine (HC3.out w2 hb2.out.2 hb2.out.1).mono ?_
          rintro e w3 ⟨rfl, hb3⟩
          clear x3
          have x4 := hb3.out.2.c4
          go_wp2_with fail
          with_reducible refine (HC4.out w3 hb3.out.2 hb3.out.1).mono ?_
          rintro e w4 ⟨rfl, hb4⟩
          clear x4
          go_wp2
          go_ret
          exact ⟨by rw [HR.out]; rfl, hb4.out.1⟩
        | false =>
          have HR := Lib.hid (Ld.world_ok l1.out l2.out HG1.out HG2.out HG3.out g4)
          have HC4 := Lib.hid (HTT.out false g4)
          clear g4 HOA HTA HOT HTT
          go_enter Tryz.func60, Tryz.ntmps60
          go_wp2_with fail
          with_reducible refine HC.out.mono ?_
          rintro e w1 ⟨rfl, hb1⟩
          have x4 := hb1.out.2.c4
          go_wp2_with fail
          with_reducible refine (HC2.out w1 hb1.out.2 hb1.out.1).mono ?_
          rintro e w2 ⟨rfl, hb2⟩
          clear x4
          have x3 := hb2.out.2.c3
          go_wp2_with fail
          with_reducible refine (HC3.out w2 hb2.out.2 hb2.out.1).mono ?_
          rintro e w3 ⟨rfl, hb3⟩
          clear x3
          have x4 := hb3.out.2.c4
          go_wp2_with fail
          with_reducible refine (HC4.out w3 hb3.out.2 hb3.out.1).mono ?_
          rintro e w4 ⟨rfl, hb4⟩
          clear x4
          go_wp2
          go_ret
          exact ⟨by rw [HR.out]; rfl, hb4.out.1⟩

theorem world_b (N : Int) (v1 v2 : Value) (A : Option Addr) (m c : Nat) (os : List Ld.O) (B : Option Addr) (k d : Nat) (ts : List Ld.T) (w : World) (r : Int) (hr : Ld.worldE N os ts = r) (hN : N ≤ 9223372036854775807) (hm : os.length = m) (hm2 : m ≤ 1000) (hk : ts.length = k) (hk2 : k ≤ 1000) (hos : OrdersAt w A os) (hts : TrucksAt w B ts) :
    Calls Tryz.prog 60 #[.agg #[.int .i64 N, v1, v2, .slice A m c, .slice B k d]] w fun e w' => e = .returned (.int .i64 r) ∧ Hid (Below w.heap.size w w') := by
  subst hr
  exact world_val N v1 v2 A m c os B k d ts w hN hm hm2 hk hk2 hos hts

end Go.Proofs.YtgjmlnpfkmpfgaaGreat
end

section
/-! Contracts of package load: Sum, Carries, Find. -/
namespace Go.Proofs.YtgjmlnpfkmpfgaaGreat
open Go.RowKit
set_option linter.unusedVariables false

theorem info_parts4 {i : Option TypeInfo} {z : Value} {s b : Nat} (h : i.map (fun i => (i.zero, i.size, i.bytes)) = some (some z, s, b)) : ∃ j, i = some j ∧ j.zero = some z ∧ j.size = s ∧ j.bytes = b := by
  cases i with
  | none => simp at h
  | some j => simp at h; exact ⟨j, rfl, h.1, h.2.1, h.2.2⟩
theorem int64_info : (Tryz.prog.info? 2).map (fun i => (i.zero, i.size, i.bytes)) = some (some (.int .i64 0), 1, 8) := by kernel_rfl
theorem made_nums (z : Array Value) (h0 : 0 < z.size) (h : ∀ i, i < z.size → z[i]! = .int .i64 0) (n : Nat) : madeCells z n = ((List.replicate n (0 : Int)).map (Value.int .i64)).toArray := by
  apply Array.ext
  · simp [size_madeCells]
  · intro i h1 h2
    have : (madeCells z n)[i] = z[i % z.size]! := by simp [madeCells]
    rw [this, h _ (Nat.mod_lt _ h0)]
    simp
theorem make_nums (n : Nat) (hn : n ≤ 200000) (w : World) : (Instr.makeSlice 22 (.int .i64 (n : Int)) (.int .i64 (n : Int))).run Tryz.prog w = .ok (.slice (some ⟨w.heap.size, 0, none⟩) n n) (w.alloc (.cells ((List.replicate n (0 : Int)).map (Value.int .i64)).toArray 2)) := by
  obtain ⟨i, h1, h2, h3, h4⟩ := info_parts4 int64_info
  have := run_make (P := Tryz.prog) w 22 2 i _ Tryz.underlying22 h1 h2 .i64 .i64 n n (by omega) (by omega) (by rw [h4]; omega) (by omega)
  rw [this, made_nums _ (by decide) (fun i hi => by have h1 : i < 1 := hi; obtain rfl : i = 0 := by omega
                                                    rfl), h3, Int.toNat_natCast, Nat.mul_one]

theorem arr_zeros (m : Nat) : ((List.replicate m (0 : Int)).map (Value.int .i64)).toArray = Array.replicate m (Value.int .i64 0) := by simp
theorem make_nums2 (n : Nat) (hn : n ≤ 200000) (w : World) : (Instr.makeSlice 22 (.int .i64 (n : Int)) (.int .i64 (n : Int))).run Tryz.prog w = .ok (.slice (some ⟨w.heap.size, 0, none⟩) n n) (w.alloc (.cells (Array.replicate n (Value.int .i64 0)) 2)) := by
  rw [make_nums n hn w, arr_zeros]

/-- numbers in a block of their own -/
def Nums (w : World) (g : Nat) (l : List Int) : Prop := Box w g (l.map (Value.int .i64)).toArray 2
theorem Nums.set {w : World} {g : Nat} {l : List Int} (h : Nums w g l) (k : Nat) (z : Int) : Nums (w.setCell ⟨g, k, none⟩ (.int .i64 z)) g (l.set k z) := by
  unfold Nums Box
  rw [setCell_eq_setRow w g k _ _ _ _ h, setRow_heap w g _ _ _ _ h]
  simp only [List.setIfInBounds_toArray, List.map_set]
theorem Nums.ints {w : World} {g : Nat} {l : List Int} (h : Nums w g l) : IntsAt w (some ⟨g, 0, none⟩) l := box_ints h rfl
theorem Nums.fz {w : World} {g : Nat} {l : List Int} (h : Nums w g l) (k : Nat) : w.frozen? ⟨g, k, none⟩ = false := by unfold World.frozen?; rw [show w.heap[g]? = _ from h]; simp
/-- the first k of a list, and noughts -/
def filled (l : List Int) (m k : Nat) : List Int := l.take k ++ List.replicate (m - k) 0
theorem filled_none (l : List Int) (m : Nat) : filled l m 0 = List.replicate m 0 := by simp [filled]
theorem filled_all (l : List Int) (m : Nat) (h : l.length = m) : filled l m m = l := by simp [filled, ← h]
theorem filled_len (l : List Int) (m k : Nat) (h : l.length = m) (hk : k ≤ m) : (filled l m k).length = m := by simp [filled]; omega
theorem filled_set (l : List Int) (m k : Nat) (z : Int) (h : l.length = m) (hz : l[k]? = some z) : (filled l m k).set k z = filled l m (k + 1) := by
  have hk : k < m := by have := (List.getElem?_eq_some_iff.1 hz).1; omega
  have hr : List.replicate (m - k) (0 : Int) = 0 :: List.replicate (m - (k + 1)) 0 := by
    rw [show m - k = (m - (k + 1)) + 1 by omega, List.replicate_succ]
  have hl : (l.take k).length = k := by rw [List.length_take]; omega
  unfold filled
  rw [List.set_append_right _ _ (by omega), hl, Nat.sub_self, hr, List.set_cons_zero, List.take_add_one, hz]
  simp
theorem sum_filled {W : World} {g m : Nat} {l : List Int} {a e0 : Int} (h : Nums W g (filled l m m)) (hl : l.length = m) (hm : m ≤ 1000) (hr : Grp.sumS l = (a, e0)) :
    Calls Tryz.prog 36 #[.slice (some ⟨g, 0, none⟩) m m] W fun e w' => e = .returned (.tuple #[.int .i64 a, .int .i64 e0]) ∧ W = w' := by
  have h1 := h.ints
  rw [filled_all _ _ hl] at h1
  have h2 := mon_sum (some ⟨g, 0, none⟩) m l W (by rw [hl]; unfold maxLen; omega) h1
  rw [hl, hr] at h2
  exact h2

set_option maxHeartbeats 1000000 in
theorem num_w (a0 a1 a2 a3 a4 a5 a6 a7 : Int) (w : World) :
    Calls Tryz.prog 149 #[.agg #[.int .i64 a0, .int .i64 a1, .int .i64 a2, .int .i64 a3, .int .i64 a4, .int .i64 a5, .int .i64 a6, .int .i64 a7]] w fun e w' => e = .returned (.int .i64 a3) ∧ Below w.heap.size w w' := by
  go_enter Tryz.func149, Tryz.ntmps149
  go_wp2
  go_ret
  exact ⟨rfl, below_alloc _ _⟩

set_option maxHeartbeats 2000000 in
set_option maxRecDepth 100000 in
theorem sumOf_w (A : Option Addr) (m c : Nat) (l : List Ld.O) (w : World) (a e0 : Int) (hr : Grp.sumS (l.map Ld.O.weight) = (a, e0)) (hm : l.length = m) (hm2 : m ≤ 1000) (hl : OrdersAt w A l) :
    Calls Tryz.prog 148 #[.slice A m c, .func (.func 149) #[] #[]] w fun e w' => e = .returned (.tuple #[.int .i64 a, .int .i64 e0]) ∧ Hid (Below w.heap.size w w') := by
  have HL := Lib.hid hl
  have HM := Lib.hid hm
  have HR := Lib.hid hr
  have hmk : ∀ W : World, (Instr.makeSlice 22 (.int .i64 (m : Int)) (.int .i64 (m : Int))).run Tryz.prog W = .ok (.slice (some ⟨W.heap.size, 0, none⟩) m m) (W.alloc (.cells (Array.replicate m (Value.int .i64 0)) 2)) := make_nums2 m (by omega)
  have HS0 : Hid (Below w.heap.size w (w.alloc (.cells (Array.replicate m (Value.int .i64 0)) 2)) ∧ Nums (w.alloc (.cells (Array.replicate m (Value.int .i64 0)) 2)) w.heap.size (filled (l.map Ld.O.weight) m 0)) := ⟨below_alloc _ _, by rw [filled_none]; unfold Nums; rw [arr_zeros]; exact Box.new _ _ _⟩
  clear hl hm hr
  go_enter Tryz.func148, Tryz.ntmps148
  go_wp2_with fail
  generalize w.alloc (.cells (Array.replicate m (Value.int .i64 0)) 2) = W0 at *
  clear hmk
  have HSB := Lib.hid HS0.out.1
  have HSN := Lib.hid HS0.out.2
  clear HS0
  obtain ⟨g, hg⟩ : ∃ g, g = w.heap.size := ⟨_, rfl⟩
  rw [← hg] at HSN ⊢
  have HG := Lib.hid hg
  clear hg
  go_loopg [14] m (fun gk s14 W => ∃ (k : Nat), k + gk = m ∧ s14 = .int .i64 k ∧ Hid (Below w.heap.size w W) ∧ Hid (Nums W g (filled (l.map Ld.O.weight) m k)))
  case atStart => exact ⟨0, by omega, rfl, HSB.out, HSN.out⟩
  case round =>
    obtain ⟨k, hkg, rfl, HB, HNU⟩ := hrel
    by_cases hlt : k < m
    · obtain ⟨gk, rfl⟩ : ∃ j, gk = j + 1 := ⟨gk - 1, by omega⟩
      obtain ⟨s, hs⟩ := mlist_at l k (by rw [HM.out]; exact hlt)
      obtain ⟨ad, rfl, hc⟩ := (HL.out.below HB.out).at_ hs
      obtain ⟨c0, c1, c2, c3, c4, c5, c6, c7⟩ := hc
      obtain ⟨a0, a1, a2, a3, a4, a5, a6, a7⟩ := s
      simp only at c0 c1 c2 c3 c4 c5 c6 c7
      have hid : (l.map Ld.O.weight)[k]? = some a3 := by rw [List.getElem?_map, hs]; rfl
      have HSET := Lib.hid (filled_set (l.map Ld.O.weight) m k a3 (by rw [List.length_map]; exact HM.out) hid)
      have HLEN := Lib.hid (filled_len (l.map Ld.O.weight) m k (by rw [List.length_map]; exact HM.out) (by omega))
      have HB2 := Lib.hid (below_more HB.out)
      have HNU2 : Hid (∀ o, Nums _ g (filled (l.map Ld.O.weight) m k)) := fun o => HNU.out.below (below_alloc _ o)
      have HI : Hid (∀ W, Below w.heap.size w W → Nums W g (filled (l.map Ld.O.weight) m k) → Calls Tryz.prog 149 #[.agg #[.int .i64 a0, .int .i64 a1, .int .i64 a2, .int .i64 a3, .int .i64 a4, .int .i64 a5, .int .i64 a6, .int .i64 a7]] W fun e w' => e = .returned (.int .i64 a3) ∧ Hid (Below w.heap.size w w' ∧ Nums w' g (filled (l.map Ld.O.weight) m k))) := fun W hb hn =>
        (num_w a0 a1 a2 a3 a4 a5 a6 a7 W).mono fun _ _ ⟨e1, e2⟩ => ⟨e1, below_next hb e2, hn.below e2⟩
      have HCE : Hid (∀ W, Nums W g (filled (l.map Ld.O.weight) m k) → ∃ z, W.cell? ⟨g, k, none⟩ = some (.int .i64 z)) := fun W hn => by
        obtain ⟨z, hz⟩ := mlist_at (filled (l.map Ld.O.weight) m k) k (by rw [HLEN.out]; exact hlt)
        exact ⟨z, hn.cell k _ (by simp [hz])⟩
      clear hs hid
      generalize filled (l.map Ld.O.weight) m k = FK at *
      go_wp2_with fail
      with_reducible refine (HI.out _ (HB2.out _) (HNU2.out _)).mono ?_
      rintro e w2 ⟨rfl, hb2⟩
      obtain ⟨z, x1⟩ := HCE.out w2 hb2.out.2
      have x2 := hb2.out.2.fz k
      clear HB2 HNU2 HI HCE
      go_wp2
      go_roundg gk
      case measure => omega
      case rel => exact ⟨k + 1, by omega, by first | rfl | go_num, hb2.out.1.setCell (p := ⟨g, k, none⟩) (by show w.heap.size ≤ g; rw [HG.out]; exact Nat.le_refl _) _, by rw [← HSET.out]; exact hb2.out.2.set k _⟩
    · have hk : k = m := by omega
      subst hk
      have HC := Lib.hid (sum_filled HNU.out (by rw [List.length_map]; exact HM.out) hm2 HR.out)
      go_wp2_with (go_at_call 36; refine HC.out.mono ?_; rintro e w2 ⟨rfl, rfl⟩)
      go_ret2
      exact ⟨rfl, HB.out⟩

set_option maxHeartbeats 1000000 in
theorem num_v (a0 a1 a2 a3 a4 a5 a6 a7 : Int) (w : World) :
    Calls Tryz.prog 150 #[.agg #[.int .i64 a0, .int .i64 a1, .int .i64 a2, .int .i64 a3, .int .i64 a4, .int .i64 a5, .int .i64 a6, .int .i64 a7]] w fun e w' => e = .returned (.int .i64 a4) ∧ Below w.heap.size w w' := by
  go_enter Tryz.func150, Tryz.ntmps150
  go_wp2
  go_ret
  exact ⟨rfl, below_alloc _ _⟩

set_option maxHeartbeats 2000000 in
set_option maxRecDepth 100000 in
theorem sumOf_v (A : Option Addr) (m c : Nat) (l : List Ld.O) (w : World) (a e0 : Int) (hr : Grp.sumS (l.map Ld.O.volume) = (a, e0)) (hm : l.length = m) (hm2 : m ≤ 1000) (hl : OrdersAt w A l) :
    Calls Tryz.prog 148 #[.slice A m c, .func (.func 150) #[] #[]] w fun e w' => e = .returned (.tuple #[.int .i64 a, .int .i64 e0]) ∧ Hid (Below w.heap.size w w') := by
  have HL := Lib.hid hl
  have HM := Lib.hid hm
  have HR := Lib.hid hr
  have hmk : ∀ W : World, (Instr.makeSlice 22 (.int .i64 (m : Int)) (.int .i64 (m : Int))).run Tryz.prog W = .ok (.slice (some ⟨W.heap.size, 0, none⟩) m m) (W.alloc (.cells (Array.replicate m (Value.int .i64 0)) 2)) := make_nums2 m (by omega)
  have HS0 : Hid (Below w.heap.size w (w.alloc (.cells (Array.replicate m (Value.int .i64 0)) 2)) ∧ Nums (w.alloc (.cells (Array.replicate m (Value.int .i64 0)) 2)) w.heap.size (filled (l.map Ld.O.volume) m 0)) := ⟨below_alloc _ _, by rw [filled_none]; unfold Nums; rw [arr_zeros]; exact Box.new _ _ _⟩
  clear hl hm hr
  go_enter Tryz.func148, Tryz.ntmps148
  go_wp2_with fail
  generalize w.alloc (.cells (Array.replicate m (Value.int .i64 0)) 2) = W0 at *
  clear hmk
  have HSB := Lib.hid HS0.out.1
  have HSN := Lib.hid HS0.out.2
  clear HS0
  obtain ⟨g, hg⟩ : ∃ g, g = w.heap.size := ⟨_, rfl⟩
  rw [← hg] at HSN ⊢
  have HG := Lib.hid hg
  clear hg
  go_loopg [14] m (fun gk s14 W => ∃ (k : Nat), k + gk = m ∧ s14 = .int .i64 k ∧ Hid (Below w.heap.size w W) ∧ Hid (Nums W g (filled (l.map Ld.O.volume) m k)))
  case atStart => exact ⟨0, by omega, rfl, HSB.out, HSN.out⟩
  case round =>
    obtain ⟨k, hkg, rfl, HB, HNU⟩ := hrel
    by_cases hlt : k < m
    · obtain ⟨gk, rfl⟩ : ∃ j, gk = j + 1 := ⟨gk - 1, by omega⟩
      obtain ⟨s, hs⟩ := mlist_at l k (by rw [HM.out]; exact hlt)
      obtain ⟨ad, rfl, hc⟩ := (HL.out.below HB.out).at_ hs
      obtain ⟨c0, c1, c2, c3, c4, c5, c6, c7⟩ := hc
      obtain ⟨a0, a1, a2, a3, a4, a5, a6, a7⟩ := s
      simp only at c0 c1 c2 c3 c4 c5 c6 c7
      have hid : (l.map Ld.O.volume)[k]? = some a4 := by rw [List.getElem?_map, hs]; rfl
      have HSET := Lib.hid (filled_set (l.map Ld.O.volume) m k a4 (by rw [List.length_map]; exact HM.out) hid)
      have HLEN := Lib.hid (filled_len (l.map Ld.O.volume) m k (by rw [List.length_map]; exact HM.out) (by omega))
      have HB2 := Lib.hid (below_more HB.out)
      have HNU2 : Hid (∀ o, Nums _ g (filled (l.map Ld.O.volume) m k)) := fun o => HNU.out.below (below_alloc _ o)
      have HI : Hid (∀ W, Below w.heap.size w W → Nums W g (filled (l.map Ld.O.volume) m k) → Calls Tryz.prog 150 #[.agg #[.int .i64 a0, .int .i64 a1, .int .i64 a2, .int .i64 a3, .int .i64 a4, .int .i64 a5, .int .i64 a6, .int .i64 a7]] W fun e w' => e = .returned (.int .i64 a4) ∧ Hid (Below w.heap.size w w' ∧ Nums w' g (filled (l.map Ld.O.volume) m k))) := fun W hb hn =>
        (num_v a0 a1 a2 a3 a4 a5 a6 a7 W).mono fun _ _ ⟨e1, e2⟩ => ⟨e1, below_next hb e2, hn.below e2⟩
      have HCE : Hid (∀ W, Nums W g (filled (l.map Ld.O.volume) m k) → ∃ z, W.cell? ⟨g, k, none⟩ = some (.int .i64 z)) := fun W hn => by
        obtain ⟨z, hz⟩ := mlist_at (filled (l.map Ld.O.volume) m k) k (by rw [HLEN.out]; exact hlt)
        exact ⟨z, hn.cell k _ (by simp [hz])⟩
      clear hs hid
      generalize filled (l.map Ld.O.volume) m k = FK at *
      go_wp2_with fail
      with_reducible refine (HI.out _ (HB2.out _) (HNU2.out _)).mono ?_
      rintro e w2 ⟨rfl, hb2⟩
      obtain ⟨z, x1⟩ := HCE.out w2 hb2.out.2
      have x2 := hb2.out.2.fz k
      clear HB2 HNU2 HI HCE
      go_wp2
      go_roundg gk
      case measure => omega
      case rel => exact ⟨k + 1, by omega, by first | rfl | go_num, hb2.out.1.setCell (p := ⟨g, k, none⟩) (by show w.heap.size ≤ g; rw [HG.out]; exact Nat.le_refl _) _, by rw [← HSET.out]; exact hb2.out.2.set k _⟩
    · have hk : k = m := by omega
      subst hk
      have HC := Lib.hid (sum_filled HNU.out (by rw [List.length_map]; exact HM.out) hm2 HR.out)
      go_wp2_with (go_at_call 36; refine HC.out.mono ?_; rintro e w2 ⟨rfl, rfl⟩)
      go_ret2
      exact ⟨rfl, HB.out⟩

set_option maxHeartbeats 1000000 in
theorem sum_val (A : Option Addr) (m c : Nat) (l : List Ld.O) (w : World) (a b e0 : Int) (hr : Ld.sumE l = (a, b, e0)) (hm : l.length = m) (hm2 : m ≤ 1000) (hl : OrdersAt w A l) :
    Calls Tryz.prog 129 #[.slice A m c] w fun e w' => e = .returned (.tuple #[.int .i64 a, .int .i64 b, .int .i64 e0]) ∧ Hid (Below w.heap.size w w') := by
  obtain ⟨x, ex, hx⟩ : ∃ x ex, Grp.sumS (l.map Ld.O.weight) = (x, ex) := ⟨_, _, rfl⟩
  obtain ⟨y, ey, hy⟩ : ∃ y ey, Grp.sumS (l.map Ld.O.volume) = (y, ey) := ⟨_, _, rfl⟩
  have HC1 := Lib.hid (sumOf_w A m c l w x ex hx hm hm2 hl)
  have HC2 : Hid (∀ W, Below w.heap.size w W → Calls Tryz.prog 148 #[.slice A m c, .func (.func 150) #[] #[]] W fun e w' => e = .returned (.tuple #[.int .i64 y, .int .i64 ey]) ∧ Hid (Below w.heap.size w w')) := fun W hb =>
    (sumOf_v A m c l W y ey hy hm hm2 (hl.below hb)).mono fun _ _ ⟨e1, e2⟩ => ⟨e1, below_next hb e2.out⟩
  by_cases h1 : ex = 0
  · subst h1
    by_cases h2 : ey = 0
    · subst h2
      rw [Ld.sum_ok hx hy] at hr
      injection hr with r1 hr
      injection hr with r2 r3
      subst r1 r2 r3
      clear hx hy hl hm
      go_enter Tryz.func129, Tryz.ntmps129
      go_wp2_with fail
      with_reducible refine HC1.out.mono ?_
      rintro e w1 ⟨rfl, hb1⟩
      go_wp2_with fail
      with_reducible refine (HC2.out w1 hb1.out).mono ?_
      rintro e w2 ⟨rfl, hb2⟩
      go_wp2
      go_ret3
      exact ⟨rfl, hb2.out⟩
    · rw [Ld.sum_v hx hy h2] at hr
      injection hr with r1 hr
      injection hr with r2 r3
      subst r1 r2 r3
      have d2 : (ey != 0) = true := bne_iff_ne.2 h2
      clear hx hy hl hm h2
      go_enter Tryz.func129, Tryz.ntmps129
      go_wp2_with fail
      with_reducible refine HC1.out.mono ?_
      rintro e w1 ⟨rfl, hb1⟩
      go_wp2_with fail
      with_reducible refine (HC2.out w1 hb1.out).mono ?_
      rintro e w2 ⟨rfl, hb2⟩
      go_wp2
      go_ret3
      exact ⟨rfl, hb2.out⟩
  · rw [Ld.sum_w hx h1] at hr
    injection hr with r1 hr
    injection hr with r2 r3
    subst r1 r2 r3
    have d1 : (ex != 0) = true := bne_iff_ne.2 h1
    clear hx hy hl hm h1
    go_enter Tryz.func129, Tryz.ntmps129
    go_wp2_with fail
    with_reducible refine HC1.out.mono ?_
    rintro e w1 ⟨rfl, hb1⟩
    go_wp2
    go_ret3
    exact ⟨rfl, hb1.out⟩

set_option maxHeartbeats 1000000 in
theorem car_val (t : Ld.T) (A : Option Addr) (m c : Nat) (l : List Ld.O) (w : World) (r : Int) (hr : Ld.carE t l = r) (hm : l.length = m) (hm2 : m ≤ 1000) (hl : OrdersAt w A l) :
    Calls Tryz.prog 98 #[.agg #[.int .i64 t.id, .int .i64 t.weight, .int .i64 t.volume, .int .i64 t.start, .int .i64 t.fin, .int .i64 t.fixed, .int .i64 t.rate], .slice A m c] w fun e w' => e = .returned (.int .i64 r) ∧ Hid (Below w.heap.size w w') := by
  obtain ⟨a, b, e0, hs⟩ : ∃ a b e0, Ld.sumE l = (a, b, e0) := ⟨_, _, _, rfl⟩
  have HR := Lib.hid hr
  obtain ⟨a0, a1, a2, a3, a4, a5, a6⟩ := t
  have HB0 : Hid (Below w.heap.size w (w.alloc (.cells #[.int .i64 a0, .int .i64 a1, .int .i64 a2, .int .i64 a3, .int .i64 a4, .int .i64 a5, .int .i64 a6] 54))) := below_alloc _ _
  have HX : Hid (Box (w.alloc (.cells #[.int .i64 a0, .int .i64 a1, .int .i64 a2, .int .i64 a3, .int .i64 a4, .int .i64 a5, .int .i64 a6] 54)) w.heap.size #[.int .i64 a0, .int .i64 a1, .int .i64 a2, .int .i64 a3, .int .i64 a4, .int .i64 a5, .int .i64 a6] 54) := Box.new _ _ _
  have HC := Lib.hid (sum_val A m c l _ a b e0 hs hm hm2 (hl.below HB0.out))
  clear hl hm hr
  by_cases h1 : e0 = 0
  · subst h1
    by_cases h2 : a1 < a
    · have HR2 := Lib.hid (Ld.car_more (t := ⟨a0, a1, a2, a3, a4, a5, a6⟩) hs (.inl h2))
      have d1 : decide (a1 < a) = true := decide_eq_true h2
      clear hs h2
      go_enter Tryz.func98, Tryz.ntmps98
      go_wp2_with fail
      with_reducible refine HC.out.mono ?_
      rintro e w1 ⟨rfl, hb1⟩
      have x1 : w1.cell? ⟨w.heap.size, 1, none⟩ = some (.int .i64 a1) := (HX.out.below hb1.out).cell 1 _ rfl
      go_wp2
      go_ret
      exact ⟨by rw [← HR.out, HR2.out]; rfl, below_next HB0.out hb1.out⟩
    · have d1 : decide (a1 < a) = false := decide_eq_false h2
      by_cases h3 : a2 < b
      · have HR2 := Lib.hid (Ld.car_more (t := ⟨a0, a1, a2, a3, a4, a5, a6⟩) hs (.inr h3))
        have d2 : decide (a2 < b) = true := decide_eq_true h3
        clear hs h2 h3
        go_enter Tryz.func98, Tryz.ntmps98
        go_wp2_with fail
        with_reducible refine HC.out.mono ?_
        rintro e w1 ⟨rfl, hb1⟩
        have x1 : w1.cell? ⟨w.heap.size, 1, none⟩ = some (.int .i64 a1) := (HX.out.below hb1.out).cell 1 _ rfl
        have x2 : w1.cell? ⟨w.heap.size, 2, none⟩ = some (.int .i64 a2) := (HX.out.below hb1.out).cell 2 _ rfl
        go_wp2
        go_ret
        exact ⟨by rw [← HR.out, HR2.out]; rfl, below_next HB0.out hb1.out⟩
      · have HR2 := Lib.hid (Ld.car_ok (t := ⟨a0, a1, a2, a3, a4, a5, a6⟩) hs (by show a ≤ a1; omega) (by show b ≤ a2; omega))
        have d2 : decide (a2 < b) = false := decide_eq_false h3
        clear hs h2 h3
        go_enter Tryz.func98, Tryz.ntmps98
        go_wp2_with fail
        with_reducible refine HC.out.mono ?_
        rintro e w1 ⟨rfl, hb1⟩
        have x1 : w1.cell? ⟨w.heap.size, 1, none⟩ = some (.int .i64 a1) := (HX.out.below hb1.out).cell 1 _ rfl
        have x2 : w1.cell? ⟨w.heap.size, 2, none⟩ = some (.int .i64 a2) := (HX.out.below hb1.out).cell 2 _ rfl
        go_wp2
        go_ret
        exact ⟨by rw [← HR.out, HR2.out]; rfl, below_next HB0.out hb1.out⟩
  · have HR2 := Lib.hid (Ld.car_err (t := ⟨a0, a1, a2, a3, a4, a5, a6⟩) hs h1)
    have d1 : (e0 != 0) = true := bne_iff_ne.2 h1
    clear hs h1
    go_enter Tryz.func98, Tryz.ntmps98
    go_wp2_with fail
    with_reducible refine HC.out.mono ?_
    rintro e w1 ⟨rfl, hb1⟩
    go_wp2
    go_ret
    exact ⟨by rw [← HR.out, HR2.out]; rfl, below_next HB0.out hb1.out⟩

set_option maxHeartbeats 1000000 in
theorem find_val (A : Option Addr) (m c : Nat) (l : List Ld.O) (id : Int) (w : World) (r : Int) (hr : Ld.findI (l.map Ld.O.id) id = r) (hm : l.length = m) (hm2 : m ≤ 1000) (hl : OrdersAt w A l) :
    Calls Tryz.prog 127 #[.slice A m c, .int .i64 id] w fun e w' => e = .returned (.int .i64 r) ∧ Hid (Below w.heap.size w w') := by
  have HC := Lib.hid (first_o A m c l id w r hr hm hm2 hl)
  clear hl hm hr
  go_enter Tryz.func127, Tryz.ntmps127
  go_wp2_with fail
  with_reducible refine HC.out.mono ?_
  rintro e w1 ⟨rfl, hb1⟩
  go_wp2
  go_ret
  exact ⟨rfl, hb1.out⟩

end Go.Proofs.YtgjmlnpfkmpfgaaGreat
end
