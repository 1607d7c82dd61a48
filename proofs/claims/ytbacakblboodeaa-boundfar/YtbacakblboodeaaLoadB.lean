/- Contracts of package load: the Ids of orders and trucks, and where one is. -/
import Derived.Test.YtbacakblboodeaaLoadA
namespace Go.Proofs.Ytbacakblboodeaa
open Go.RowKit
set_option linter.unusedVariables false

set_option maxHeartbeats 1000000 in
theorem idOf_o (a0 a1 a2 a3 a4 a5 a6 a7 : Int) (w : World) :
    Calls Try.prog 69 #[.agg #[.int .i64 a0, .int .i64 a1, .int .i64 a2, .int .i64 a3, .int .i64 a4, .int .i64 a5, .int .i64 a6, .int .i64 a7]] w fun e w' => e = .returned (.int .i64 a0) ∧ Below w.heap.size w w' := by
  go_enter Try.func69, Try.ntmps69
  go_wp2
  go_ret
  exact ⟨rfl, below_alloc _ _⟩

set_option maxHeartbeats 2000000 in
set_option maxRecDepth 100000 in
theorem isId_o (a0 a1 a2 a3 a4 a5 a6 a7 id : Int) (p q : Addr) (w : World) (hp : w.cell? p = some (.func (.func 69) #[] #[])) (hq : w.cell? q = some (.int .i64 id)) (r : Bool) (hr : (a0 == id) = r) :
    Calls Try.prog 99 #[.agg #[.int .i64 a0, .int .i64 a1, .int .i64 a2, .int .i64 a3, .int .i64 a4, .int .i64 a5, .int .i64 a6, .int .i64 a7], .pointer (some p), .pointer (some q)] w fun e w' => e = .returned (.bool r) ∧ Hid (Below w.heap.size w w') := by
  have y1 : (w.alloc (.cells #[.int .i64 a0, .int .i64 a1, .int .i64 a2, .int .i64 a3, .int .i64 a4, .int .i64 a5, .int .i64 a6, .int .i64 a7] 57)).cell? p = some (.func (.func 69) #[] #[]) := by rw [(below_alloc w _).cell (lt_of_cell hp)]; exact hp
  have y2 : (w.alloc (.cells #[.int .i64 a0, .int .i64 a1, .int .i64 a2, .int .i64 a3, .int .i64 a4, .int .i64 a5, .int .i64 a6, .int .i64 a7] 57)).cell? q = some (.int .i64 id) := by rw [(below_alloc w _).cell (lt_of_cell hq)]; exact hq
  have x0 : (w.alloc (.cells #[.int .i64 a0, .int .i64 a1, .int .i64 a2, .int .i64 a3, .int .i64 a4, .int .i64 a5, .int .i64 a6, .int .i64 a7] 57)).cell? ⟨w.heap.size, 0, none⟩ = some (.int .i64 a0) := (Box.new w _ _).cell 0 _ rfl
  have x1 : (w.alloc (.cells #[.int .i64 a0, .int .i64 a1, .int .i64 a2, .int .i64 a3, .int .i64 a4, .int .i64 a5, .int .i64 a6, .int .i64 a7] 57)).cell? ⟨w.heap.size, 1, none⟩ = some (.int .i64 a1) := (Box.new w _ _).cell 1 _ rfl
  have x2 : (w.alloc (.cells #[.int .i64 a0, .int .i64 a1, .int .i64 a2, .int .i64 a3, .int .i64 a4, .int .i64 a5, .int .i64 a6, .int .i64 a7] 57)).cell? ⟨w.heap.size, 2, none⟩ = some (.int .i64 a2) := (Box.new w _ _).cell 2 _ rfl
  have x3 : (w.alloc (.cells #[.int .i64 a0, .int .i64 a1, .int .i64 a2, .int .i64 a3, .int .i64 a4, .int .i64 a5, .int .i64 a6, .int .i64 a7] 57)).cell? ⟨w.heap.size, 3, none⟩ = some (.int .i64 a3) := (Box.new w _ _).cell 3 _ rfl
  have x4 : (w.alloc (.cells #[.int .i64 a0, .int .i64 a1, .int .i64 a2, .int .i64 a3, .int .i64 a4, .int .i64 a5, .int .i64 a6, .int .i64 a7] 57)).cell? ⟨w.heap.size, 4, none⟩ = some (.int .i64 a4) := (Box.new w _ _).cell 4 _ rfl
  have x5 : (w.alloc (.cells #[.int .i64 a0, .int .i64 a1, .int .i64 a2, .int .i64 a3, .int .i64 a4, .int .i64 a5, .int .i64 a6, .int .i64 a7] 57)).cell? ⟨w.heap.size, 5, none⟩ = some (.int .i64 a5) := (Box.new w _ _).cell 5 _ rfl
  have x6 : (w.alloc (.cells #[.int .i64 a0, .int .i64 a1, .int .i64 a2, .int .i64 a3, .int .i64 a4, .int .i64 a5, .int .i64 a6, .int .i64 a7] 57)).cell? ⟨w.heap.size, 6, none⟩ = some (.int .i64 a6) := (Box.new w _ _).cell 6 _ rfl
  have x7 : (w.alloc (.cells #[.int .i64 a0, .int .i64 a1, .int .i64 a2, .int .i64 a3, .int .i64 a4, .int .i64 a5, .int .i64 a6, .int .i64 a7] 57)).cell? ⟨w.heap.size, 7, none⟩ = some (.int .i64 a7) := (Box.new w _ _).cell 7 _ rfl
  have HB0 : Hid (Below w.heap.size w (w.alloc (.cells #[.int .i64 a0, .int .i64 a1, .int .i64 a2, .int .i64 a3, .int .i64 a4, .int .i64 a5, .int .i64 a6, .int .i64 a7] 57))) := below_alloc _ _
  clear hp hq
  go_enter Try.func99, Try.ntmps99
  go_wp2_with fail
  generalize w.alloc (.cells #[.int .i64 a0, .int .i64 a1, .int .i64 a2, .int .i64 a3, .int .i64 a4, .int .i64 a5, .int .i64 a6, .int .i64 a7] 57) = W at *
  generalize hbb : w.heap.size = b at *
  have HP : Hid (∀ W1 : World, (W1.cell? p = some (.func (.func 69) #[] #[]) ∧ W1.cell? q = some (.int .i64 id) ∧ W1.cell? ⟨b, 0, none⟩ = some (.int .i64 a0) ∧ W1.cell? ⟨b, 1, none⟩ = some (.int .i64 a1) ∧ W1.cell? ⟨b, 2, none⟩ = some (.int .i64 a2) ∧ W1.cell? ⟨b, 3, none⟩ = some (.int .i64 a3) ∧ W1.cell? ⟨b, 4, none⟩ = some (.int .i64 a4) ∧ W1.cell? ⟨b, 5, none⟩ = some (.int .i64 a5) ∧ W1.cell? ⟨b, 6, none⟩ = some (.int .i64 a6) ∧ W1.cell? ⟨b, 7, none⟩ = some (.int .i64 a7) ∧ Below W.heap.size W W1) →
      Calls Try.prog 69 #[.agg #[.int .i64 a0, .int .i64 a1, .int .i64 a2, .int .i64 a3, .int .i64 a4, .int .i64 a5, .int .i64 a6, .int .i64 a7]] W1 fun e W' => e = .returned (.int .i64 a0) ∧ W'.cell? p = some (.func (.func 69) #[] #[]) ∧ W'.cell? q = some (.int .i64 id) ∧ W'.cell? ⟨b, 0, none⟩ = some (.int .i64 a0) ∧ W'.cell? ⟨b, 1, none⟩ = some (.int .i64 a1) ∧ W'.cell? ⟨b, 2, none⟩ = some (.int .i64 a2) ∧ W'.cell? ⟨b, 3, none⟩ = some (.int .i64 a3) ∧ W'.cell? ⟨b, 4, none⟩ = some (.int .i64 a4) ∧ W'.cell? ⟨b, 5, none⟩ = some (.int .i64 a5) ∧ W'.cell? ⟨b, 6, none⟩ = some (.int .i64 a6) ∧ W'.cell? ⟨b, 7, none⟩ = some (.int .i64 a7) ∧ Below W.heap.size W W') := by
    rintro W1 ⟨g1, g2, h0, h1, h2, h3, h4, h5, h6, h7, h⟩
    refine (idOf_o a0 a1 a2 a3 a4 a5 a6 a7 W1).mono ?_
    rintro e W' ⟨rfl, hb⟩
    exact ⟨rfl, by rw [hb.cell (lt_of_cell g1)]; exact g1, by rw [hb.cell (lt_of_cell g2)]; exact g2, by rw [hb.cell (p := ⟨b, 0, none⟩) (lt_of_cell h0)]; exact h0, by rw [hb.cell (p := ⟨b, 1, none⟩) (lt_of_cell h1)]; exact h1, by rw [hb.cell (p := ⟨b, 2, none⟩) (lt_of_cell h2)]; exact h2, by rw [hb.cell (p := ⟨b, 3, none⟩) (lt_of_cell h3)]; exact h3, by rw [hb.cell (p := ⟨b, 4, none⟩) (lt_of_cell h4)]; exact h4, by rw [hb.cell (p := ⟨b, 5, none⟩) (lt_of_cell h5)]; exact h5, by rw [hb.cell (p := ⟨b, 6, none⟩) (lt_of_cell h6)]; exact h6, by rw [hb.cell (p := ⟨b, 7, none⟩) (lt_of_cell h7)]; exact h7, below_next h hb⟩
  have HBB := Lib.hid hbb
  clear hbb
  have hB := (Below.refl W.heap.size W).drew
  cases r
  all_goals
    go_wp2
    go_region_held3 (fun W' : World => W'.cell? p = some (.func (.func 69) #[] #[]) ∧ W'.cell? q = some (.int .i64 id) ∧ W'.cell? ⟨b, 0, none⟩ = some (.int .i64 a0) ∧ W'.cell? ⟨b, 1, none⟩ = some (.int .i64 a1) ∧ W'.cell? ⟨b, 2, none⟩ = some (.int .i64 a2) ∧ W'.cell? ⟨b, 3, none⟩ = some (.int .i64 a3) ∧ W'.cell? ⟨b, 4, none⟩ = some (.int .i64 a4) ∧ W'.cell? ⟨b, 5, none⟩ = some (.int .i64 a5) ∧ W'.cell? ⟨b, 6, none⟩ = some (.int .i64 a6) ∧ W'.cell? ⟨b, 7, none⟩ = some (.int .i64 a7) ∧ Below W.heap.size W W') (first | exact ⟨y1, y2, x0, x1, x2, x3, x4, x5, x6, x7, hB⟩ | exact ⟨k1', k2', k0, k1, k2, k3, k4, k5, k6, k7, kb⟩ | assumption)
      (first
        | (go_at_call 69; ((with_reducible refine (HP.out _ (by assumption)).mono ?_)); rintro e w3 ⟨rfl, k1', k2', k0, k1, k2, k3, k4, k5, k6, k7, kb⟩))
    all_goals
      have KB := Lib.hid kb
      clear k1' k2' k0 k1 k2 k3 k4 k5 k6 k7 kb y1 y2 x0 x1 x2 x3 x4 x5 x6 x7 hB
      go_wp2
      go_ret
      exact ⟨rfl, by have h1 := HB0.out; have h2 := HBB.out; subst h2; exact below_next h1 KB.out⟩

set_option maxHeartbeats 1000000 in
theorem idOf_t (a0 a1 a2 a3 a4 a5 a6 : Int) (w : World) :
    Calls Try.prog 71 #[.agg #[.int .i64 a0, .int .i64 a1, .int .i64 a2, .int .i64 a3, .int .i64 a4, .int .i64 a5, .int .i64 a6]] w fun e w' => e = .returned (.int .i64 a0) ∧ Below w.heap.size w w' := by
  go_enter Try.func71, Try.ntmps71
  go_wp2
  go_ret
  exact ⟨rfl, below_alloc _ _⟩

set_option maxHeartbeats 2000000 in
set_option maxRecDepth 100000 in
theorem isId_t (a0 a1 a2 a3 a4 a5 a6 id : Int) (p q : Addr) (w : World) (hp : w.cell? p = some (.func (.func 71) #[] #[])) (hq : w.cell? q = some (.int .i64 id)) (r : Bool) (hr : (a0 == id) = r) :
    Calls Try.prog 113 #[.agg #[.int .i64 a0, .int .i64 a1, .int .i64 a2, .int .i64 a3, .int .i64 a4, .int .i64 a5, .int .i64 a6], .pointer (some p), .pointer (some q)] w fun e w' => e = .returned (.bool r) ∧ Hid (Below w.heap.size w w') := by
  have y1 : (w.alloc (.cells #[.int .i64 a0, .int .i64 a1, .int .i64 a2, .int .i64 a3, .int .i64 a4, .int .i64 a5, .int .i64 a6] 59)).cell? p = some (.func (.func 71) #[] #[]) := by rw [(below_alloc w _).cell (lt_of_cell hp)]; exact hp
  have y2 : (w.alloc (.cells #[.int .i64 a0, .int .i64 a1, .int .i64 a2, .int .i64 a3, .int .i64 a4, .int .i64 a5, .int .i64 a6] 59)).cell? q = some (.int .i64 id) := by rw [(below_alloc w _).cell (lt_of_cell hq)]; exact hq
  have x0 : (w.alloc (.cells #[.int .i64 a0, .int .i64 a1, .int .i64 a2, .int .i64 a3, .int .i64 a4, .int .i64 a5, .int .i64 a6] 59)).cell? ⟨w.heap.size, 0, none⟩ = some (.int .i64 a0) := (Box.new w _ _).cell 0 _ rfl
  have x1 : (w.alloc (.cells #[.int .i64 a0, .int .i64 a1, .int .i64 a2, .int .i64 a3, .int .i64 a4, .int .i64 a5, .int .i64 a6] 59)).cell? ⟨w.heap.size, 1, none⟩ = some (.int .i64 a1) := (Box.new w _ _).cell 1 _ rfl
  have x2 : (w.alloc (.cells #[.int .i64 a0, .int .i64 a1, .int .i64 a2, .int .i64 a3, .int .i64 a4, .int .i64 a5, .int .i64 a6] 59)).cell? ⟨w.heap.size, 2, none⟩ = some (.int .i64 a2) := (Box.new w _ _).cell 2 _ rfl
  have x3 : (w.alloc (.cells #[.int .i64 a0, .int .i64 a1, .int .i64 a2, .int .i64 a3, .int .i64 a4, .int .i64 a5, .int .i64 a6] 59)).cell? ⟨w.heap.size, 3, none⟩ = some (.int .i64 a3) := (Box.new w _ _).cell 3 _ rfl
  have x4 : (w.alloc (.cells #[.int .i64 a0, .int .i64 a1, .int .i64 a2, .int .i64 a3, .int .i64 a4, .int .i64 a5, .int .i64 a6] 59)).cell? ⟨w.heap.size, 4, none⟩ = some (.int .i64 a4) := (Box.new w _ _).cell 4 _ rfl
  have x5 : (w.alloc (.cells #[.int .i64 a0, .int .i64 a1, .int .i64 a2, .int .i64 a3, .int .i64 a4, .int .i64 a5, .int .i64 a6] 59)).cell? ⟨w.heap.size, 5, none⟩ = some (.int .i64 a5) := (Box.new w _ _).cell 5 _ rfl
  have x6 : (w.alloc (.cells #[.int .i64 a0, .int .i64 a1, .int .i64 a2, .int .i64 a3, .int .i64 a4, .int .i64 a5, .int .i64 a6] 59)).cell? ⟨w.heap.size, 6, none⟩ = some (.int .i64 a6) := (Box.new w _ _).cell 6 _ rfl
  have HB0 : Hid (Below w.heap.size w (w.alloc (.cells #[.int .i64 a0, .int .i64 a1, .int .i64 a2, .int .i64 a3, .int .i64 a4, .int .i64 a5, .int .i64 a6] 59))) := below_alloc _ _
  clear hp hq
  go_enter Try.func113, Try.ntmps113
  go_wp2_with fail
  generalize w.alloc (.cells #[.int .i64 a0, .int .i64 a1, .int .i64 a2, .int .i64 a3, .int .i64 a4, .int .i64 a5, .int .i64 a6] 59) = W at *
  generalize hbb : w.heap.size = b at *
  have HP : Hid (∀ W1 : World, (W1.cell? p = some (.func (.func 71) #[] #[]) ∧ W1.cell? q = some (.int .i64 id) ∧ W1.cell? ⟨b, 0, none⟩ = some (.int .i64 a0) ∧ W1.cell? ⟨b, 1, none⟩ = some (.int .i64 a1) ∧ W1.cell? ⟨b, 2, none⟩ = some (.int .i64 a2) ∧ W1.cell? ⟨b, 3, none⟩ = some (.int .i64 a3) ∧ W1.cell? ⟨b, 4, none⟩ = some (.int .i64 a4) ∧ W1.cell? ⟨b, 5, none⟩ = some (.int .i64 a5) ∧ W1.cell? ⟨b, 6, none⟩ = some (.int .i64 a6) ∧ Below W.heap.size W W1) →
      Calls Try.prog 71 #[.agg #[.int .i64 a0, .int .i64 a1, .int .i64 a2, .int .i64 a3, .int .i64 a4, .int .i64 a5, .int .i64 a6]] W1 fun e W' => e = .returned (.int .i64 a0) ∧ W'.cell? p = some (.func (.func 71) #[] #[]) ∧ W'.cell? q = some (.int .i64 id) ∧ W'.cell? ⟨b, 0, none⟩ = some (.int .i64 a0) ∧ W'.cell? ⟨b, 1, none⟩ = some (.int .i64 a1) ∧ W'.cell? ⟨b, 2, none⟩ = some (.int .i64 a2) ∧ W'.cell? ⟨b, 3, none⟩ = some (.int .i64 a3) ∧ W'.cell? ⟨b, 4, none⟩ = some (.int .i64 a4) ∧ W'.cell? ⟨b, 5, none⟩ = some (.int .i64 a5) ∧ W'.cell? ⟨b, 6, none⟩ = some (.int .i64 a6) ∧ Below W.heap.size W W') := by
    rintro W1 ⟨g1, g2, h0, h1, h2, h3, h4, h5, h6, h⟩
    refine (idOf_t a0 a1 a2 a3 a4 a5 a6 W1).mono ?_
    rintro e W' ⟨rfl, hb⟩
    exact ⟨rfl, by rw [hb.cell (lt_of_cell g1)]; exact g1, by rw [hb.cell (lt_of_cell g2)]; exact g2, by rw [hb.cell (p := ⟨b, 0, none⟩) (lt_of_cell h0)]; exact h0, by rw [hb.cell (p := ⟨b, 1, none⟩) (lt_of_cell h1)]; exact h1, by rw [hb.cell (p := ⟨b, 2, none⟩) (lt_of_cell h2)]; exact h2, by rw [hb.cell (p := ⟨b, 3, none⟩) (lt_of_cell h3)]; exact h3, by rw [hb.cell (p := ⟨b, 4, none⟩) (lt_of_cell h4)]; exact h4, by rw [hb.cell (p := ⟨b, 5, none⟩) (lt_of_cell h5)]; exact h5, by rw [hb.cell (p := ⟨b, 6, none⟩) (lt_of_cell h6)]; exact h6, below_next h hb⟩
  have HBB := Lib.hid hbb
  clear hbb
  have hB := (Below.refl W.heap.size W).drew
  cases r
  all_goals
    go_wp2
    go_region_held3 (fun W' : World => W'.cell? p = some (.func (.func 71) #[] #[]) ∧ W'.cell? q = some (.int .i64 id) ∧ W'.cell? ⟨b, 0, none⟩ = some (.int .i64 a0) ∧ W'.cell? ⟨b, 1, none⟩ = some (.int .i64 a1) ∧ W'.cell? ⟨b, 2, none⟩ = some (.int .i64 a2) ∧ W'.cell? ⟨b, 3, none⟩ = some (.int .i64 a3) ∧ W'.cell? ⟨b, 4, none⟩ = some (.int .i64 a4) ∧ W'.cell? ⟨b, 5, none⟩ = some (.int .i64 a5) ∧ W'.cell? ⟨b, 6, none⟩ = some (.int .i64 a6) ∧ Below W.heap.size W W') (first | exact ⟨y1, y2, x0, x1, x2, x3, x4, x5, x6, hB⟩ | exact ⟨k1', k2', k0, k1, k2, k3, k4, k5, k6, kb⟩ | assumption)
      (first
        | (go_at_call 71; ((with_reducible refine (HP.out _ (by assumption)).mono ?_)); rintro e w3 ⟨rfl, k1', k2', k0, k1, k2, k3, k4, k5, k6, kb⟩))
    all_goals
      have KB := Lib.hid kb
      clear k1' k2' k0 k1 k2 k3 k4 k5 k6 kb y1 y2 x0 x1 x2 x3 x4 x5 x6 hB
      go_wp2
      go_ret
      exact ⟨rfl, by have h1 := HB0.out; have h2 := HBB.out; subst h2; exact below_next h1 KB.out⟩

end Go.Proofs.Ytbacakblboodeaa
