/- Texts joined: Contracts of the document's Order, Truck, Find. Contracts of the document's Sum and Carries. Contract of the document's World. -/
import Derived.Test.YtgjmlnpfkmpfgaaGreatLoadOCR
import Derived.Test.YtgjmlnpfkmpfgaaGreatMems
import Derived.Maps.AppendAt
section
/-! Contracts of the document's Order, Truck, Find. -/
namespace Go.Proofs.YtgjmlnpfkmpfgaaGreat
open Go.RowKit
set_option linter.unusedVariables false

set_option maxHeartbeats 4000000 in
theorem rorder_val (a0 a1 a2 a3 a4 a5 a6 a7 n : Int) (w : World) :
    Calls Tryz.prog 119 #[.agg #[.int .i64 a0, .int .i64 a1, .int .i64 a2, .int .i64 a3, .int .i64 a4, .int .i64 a5, .int .i64 a6, .int .i64 a7], .int .i64 n] w fun e w' => e = .returned (.int .i64 (Ld.oE ⟨a0, a1, a2, a3, a4, a5, a6, a7⟩ n)) ∧ Below w.heap.size w w' := by
  by_cases t0 : a0 < 1
  · have HR := Lib.hid (Ld.oB_not (o := ⟨a0, a1, a2, a3, a4, a5, a6, a7⟩) (n := n) fun h => by have h0 : 1 ≤ a0 := h.id0; omega)
    have d0 : decide (a0 < 1) = true := decide_eq_true t0
    go_enter Tryz.func119, Tryz.ntmps119
    go_wp2
    go_ret
    exact ⟨by rw [HR.out]; rfl, below_alloc _ _⟩
  have d0 : decide (a0 < 1) = false := decide_eq_false t0
  by_cases t1 : 1000000 < a0
  · have HR := Lib.hid (Ld.oB_not (o := ⟨a0, a1, a2, a3, a4, a5, a6, a7⟩) (n := n) fun h => by have h0 : a0 ≤ 1000000 := h.id1; omega)
    have d1 : decide (1000000 < a0) = true := decide_eq_true t1
    go_enter Tryz.func119, Tryz.ntmps119
    go_wp2
    go_ret
    exact ⟨by rw [HR.out]; rfl, below_alloc _ _⟩
  have d1 : decide (1000000 < a0) = false := decide_eq_false t1
  by_cases t2 : a1 < 0
  · have HR := Lib.hid (Ld.oB_not (o := ⟨a0, a1, a2, a3, a4, a5, a6, a7⟩) (n := n) fun h => by have h0 : 0 ≤ a1 := h.ow0; omega)
    have d2 : decide (a1 < 0) = true := decide_eq_true t2
    go_enter Tryz.func119, Tryz.ntmps119
    go_wp2
    go_ret
    exact ⟨by rw [HR.out]; rfl, below_alloc _ _⟩
  have d2 : decide (a1 < 0) = false := decide_eq_false t2
  by_cases t3 : 31 < a1
  · have HR := Lib.hid (Ld.oB_not (o := ⟨a0, a1, a2, a3, a4, a5, a6, a7⟩) (n := n) fun h => by have h0 : a1 ≤ 31 := h.ow1; omega)
    have d3 : decide (31 < a1) = true := decide_eq_true t3
    go_enter Tryz.func119, Tryz.ntmps119
    go_wp2
    go_ret
    exact ⟨by rw [HR.out]; rfl, below_alloc _ _⟩
  have d3 : decide (31 < a1) = false := decide_eq_false t3
  by_cases t4 : a2 < 1
  · have HR := Lib.hid (Ld.oB_not (o := ⟨a0, a1, a2, a3, a4, a5, a6, a7⟩) (n := n) fun h => by have h0 : 1 ≤ a2 := h.no0; omega)
    have d4 : decide (a2 < 1) = true := decide_eq_true t4
    go_enter Tryz.func119, Tryz.ntmps119
    go_wp2
    go_ret
    exact ⟨by rw [HR.out]; rfl, below_alloc _ _⟩
  have d4 : decide (a2 < 1) = false := decide_eq_false t4
  by_cases t5 : n ≤ a2
  · have HR := Lib.hid (Ld.oB_not (o := ⟨a0, a1, a2, a3, a4, a5, a6, a7⟩) (n := n) fun h => by have h0 : a2 < n := h.no1; omega)
    have d5 : decide (n ≤ a2) = true := decide_eq_true t5
    go_enter Tryz.func119, Tryz.ntmps119
    go_wp2
    go_ret
    exact ⟨by rw [HR.out]; rfl, below_alloc _ _⟩
  have d5 : decide (n ≤ a2) = false := decide_eq_false t5
  by_cases t6 : a3 < 1
  · have HR := Lib.hid (Ld.oB_not (o := ⟨a0, a1, a2, a3, a4, a5, a6, a7⟩) (n := n) fun h => by have h0 : 1 ≤ a3 := h.we0; omega)
    have d6 : decide (a3 < 1) = true := decide_eq_true t6
    go_enter Tryz.func119, Tryz.ntmps119
    go_wp2
    go_ret
    exact ⟨by rw [HR.out]; rfl, below_alloc _ _⟩
  have d6 : decide (a3 < 1) = false := decide_eq_false t6
  by_cases t7 : 1000000 < a3
  · have HR := Lib.hid (Ld.oB_not (o := ⟨a0, a1, a2, a3, a4, a5, a6, a7⟩) (n := n) fun h => by have h0 : a3 ≤ 1000000 := h.we1; omega)
    have d7 : decide (1000000 < a3) = true := decide_eq_true t7
    go_enter Tryz.func119, Tryz.ntmps119
    go_wp2
    go_ret
    exact ⟨by rw [HR.out]; rfl, below_alloc _ _⟩
  have d7 : decide (1000000 < a3) = false := decide_eq_false t7
  by_cases t8 : a4 < 1
  · have HR := Lib.hid (Ld.oB_not (o := ⟨a0, a1, a2, a3, a4, a5, a6, a7⟩) (n := n) fun h => by have h0 : 1 ≤ a4 := h.vo0; omega)
    have d8 : decide (a4 < 1) = true := decide_eq_true t8
    go_enter Tryz.func119, Tryz.ntmps119
    go_wp2
    go_ret
    exact ⟨by rw [HR.out]; rfl, below_alloc _ _⟩
  have d8 : decide (a4 < 1) = false := decide_eq_false t8
  by_cases t9 : 1000000 < a4
  · have HR := Lib.hid (Ld.oB_not (o := ⟨a0, a1, a2, a3, a4, a5, a6, a7⟩) (n := n) fun h => by have h0 : a4 ≤ 1000000 := h.vo1; omega)
    have d9 : decide (1000000 < a4) = true := decide_eq_true t9
    go_enter Tryz.func119, Tryz.ntmps119
    go_wp2
    go_ret
    exact ⟨by rw [HR.out]; rfl, below_alloc _ _⟩
  have d9 : decide (1000000 < a4) = false := decide_eq_false t9
  by_cases t10 : a5 < 0
  · have HR := Lib.hid (Ld.oB_not (o := ⟨a0, a1, a2, a3, a4, a5, a6, a7⟩) (n := n) fun h => by have h0 : 0 ≤ a5 := h.fr0; omega)
    have d10 : decide (a5 < 0) = true := decide_eq_true t10
    go_enter Tryz.func119, Tryz.ntmps119
    go_wp2
    go_ret
    exact ⟨by rw [HR.out]; rfl, below_alloc _ _⟩
  have d10 : decide (a5 < 0) = false := decide_eq_false t10
  by_cases t11 : a6 < a5
  · have HR := Lib.hid (Ld.oB_not (o := ⟨a0, a1, a2, a3, a4, a5, a6, a7⟩) (n := n) fun h => by have h0 : a5 ≤ a6 := h.fr1; omega)
    have d11 : decide (a6 < a5) = true := decide_eq_true t11
    go_enter Tryz.func119, Tryz.ntmps119
    go_wp2
    go_ret
    exact ⟨by rw [HR.out]; rfl, below_alloc _ _⟩
  have d11 : decide (a6 < a5) = false := decide_eq_false t11
  by_cases t12 : 1000000 < a6
  · have HR := Lib.hid (Ld.oB_not (o := ⟨a0, a1, a2, a3, a4, a5, a6, a7⟩) (n := n) fun h => by have h0 : a6 ≤ 1000000 := h.to1; omega)
    have d12 : decide (1000000 < a6) = true := decide_eq_true t12
    go_enter Tryz.func119, Tryz.ntmps119
    go_wp2
    go_ret
    exact ⟨by rw [HR.out]; rfl, below_alloc _ _⟩
  have d12 : decide (1000000 < a6) = false := decide_eq_false t12
  by_cases t13 : a7 < 0
  · have HR := Lib.hid (Ld.oB_not (o := ⟨a0, a1, a2, a3, a4, a5, a6, a7⟩) (n := n) fun h => by have h0 : 0 ≤ a7 := h.se0; omega)
    have d13 : decide (a7 < 0) = true := decide_eq_true t13
    go_enter Tryz.func119, Tryz.ntmps119
    go_wp2
    go_ret
    exact ⟨by rw [HR.out]; rfl, below_alloc _ _⟩
  have d13 : decide (a7 < 0) = false := decide_eq_false t13
  by_cases t14 : 10000 < a7
  · have HR := Lib.hid (Ld.oB_not (o := ⟨a0, a1, a2, a3, a4, a5, a6, a7⟩) (n := n) fun h => by have h0 : a7 ≤ 10000 := h.se1; omega)
    have d14 : decide (10000 < a7) = true := decide_eq_true t14
    go_enter Tryz.func119, Tryz.ntmps119
    go_wp2
    go_ret
    exact ⟨by rw [HR.out]; rfl, below_alloc _ _⟩
  have d14 : decide (10000 < a7) = false := decide_eq_false t14
  have HR := Lib.hid (Ld.oB_ok (o := ⟨a0, a1, a2, a3, a4, a5, a6, a7⟩) (n := n) ⟨by show 1 ≤ a0; omega, by show a0 ≤ 1000000; omega, by show 0 ≤ a1; omega, by show a1 ≤ 31; omega, by show 1 ≤ a2; omega, by show a2 < n; omega, by show 1 ≤ a3; omega, by show a3 ≤ 1000000; omega, by show 1 ≤ a4; omega, by show a4 ≤ 1000000; omega, by show 0 ≤ a5; omega, by show a5 ≤ a6; omega, by show a6 ≤ 1000000; omega, by show 0 ≤ a7; omega, by show a7 ≤ 10000; omega⟩)
  go_enter Tryz.func119, Tryz.ntmps119
  go_wp2
  go_ret
  exact ⟨by rw [HR.out]; rfl, below_alloc _ _⟩

set_option maxHeartbeats 4000000 in
theorem rtruck_val (a0 a1 a2 a3 a4 a5 a6 : Int) (w : World) :
    Calls Tryz.prog 120 #[.agg #[.int .i64 a0, .int .i64 a1, .int .i64 a2, .int .i64 a3, .int .i64 a4, .int .i64 a5, .int .i64 a6]] w fun e w' => e = .returned (.int .i64 (Ld.tE ⟨a0, a1, a2, a3, a4, a5, a6⟩)) ∧ Below w.heap.size w w' := by
  by_cases t0 : a0 < 1
  · have HR := Lib.hid (Ld.tB_not (t := ⟨a0, a1, a2, a3, a4, a5, a6⟩) fun h => by have h0 : 1 ≤ a0 := h.id0; omega)
    have d0 : decide (a0 < 1) = true := decide_eq_true t0
    go_enter Tryz.func120, Tryz.ntmps120
    go_wp2
    go_ret
    exact ⟨by rw [HR.out]; rfl, below_alloc _ _⟩
  have d0 : decide (a0 < 1) = false := decide_eq_false t0
  by_cases t1 : 1000000 < a0
  · have HR := Lib.hid (Ld.tB_not (t := ⟨a0, a1, a2, a3, a4, a5, a6⟩) fun h => by have h0 : a0 ≤ 1000000 := h.id1; omega)
    have d1 : decide (1000000 < a0) = true := decide_eq_true t1
    go_enter Tryz.func120, Tryz.ntmps120
    go_wp2
    go_ret
    exact ⟨by rw [HR.out]; rfl, below_alloc _ _⟩
  have d1 : decide (1000000 < a0) = false := decide_eq_false t1
  by_cases t2 : a1 < 1
  · have HR := Lib.hid (Ld.tB_not (t := ⟨a0, a1, a2, a3, a4, a5, a6⟩) fun h => by have h0 : 1 ≤ a1 := h.we0; omega)
    have d2 : decide (a1 < 1) = true := decide_eq_true t2
    go_enter Tryz.func120, Tryz.ntmps120
    go_wp2
    go_ret
    exact ⟨by rw [HR.out]; rfl, below_alloc _ _⟩
  have d2 : decide (a1 < 1) = false := decide_eq_false t2
  by_cases t3 : 1000000 < a1
  · have HR := Lib.hid (Ld.tB_not (t := ⟨a0, a1, a2, a3, a4, a5, a6⟩) fun h => by have h0 : a1 ≤ 1000000 := h.we1; omega)
    have d3 : decide (1000000 < a1) = true := decide_eq_true t3
    go_enter Tryz.func120, Tryz.ntmps120
    go_wp2
    go_ret
    exact ⟨by rw [HR.out]; rfl, below_alloc _ _⟩
  have d3 : decide (1000000 < a1) = false := decide_eq_false t3
  by_cases t4 : a2 < 1
  · have HR := Lib.hid (Ld.tB_not (t := ⟨a0, a1, a2, a3, a4, a5, a6⟩) fun h => by have h0 : 1 ≤ a2 := h.vo0; omega)
    have d4 : decide (a2 < 1) = true := decide_eq_true t4
    go_enter Tryz.func120, Tryz.ntmps120
    go_wp2
    go_ret
    exact ⟨by rw [HR.out]; rfl, below_alloc _ _⟩
  have d4 : decide (a2 < 1) = false := decide_eq_false t4
  by_cases t5 : 1000000 < a2
  · have HR := Lib.hid (Ld.tB_not (t := ⟨a0, a1, a2, a3, a4, a5, a6⟩) fun h => by have h0 : a2 ≤ 1000000 := h.vo1; omega)
    have d5 : decide (1000000 < a2) = true := decide_eq_true t5
    go_enter Tryz.func120, Tryz.ntmps120
    go_wp2
    go_ret
    exact ⟨by rw [HR.out]; rfl, below_alloc _ _⟩
  have d5 : decide (1000000 < a2) = false := decide_eq_false t5
  by_cases t6 : a3 < 0
  · have HR := Lib.hid (Ld.tB_not (t := ⟨a0, a1, a2, a3, a4, a5, a6⟩) fun h => by have h0 : 0 ≤ a3 := h.st0; omega)
    have d6 : decide (a3 < 0) = true := decide_eq_true t6
    go_enter Tryz.func120, Tryz.ntmps120
    go_wp2
    go_ret
    exact ⟨by rw [HR.out]; rfl, below_alloc _ _⟩
  have d6 : decide (a3 < 0) = false := decide_eq_false t6
  by_cases t7 : a4 < a3
  · have HR := Lib.hid (Ld.tB_not (t := ⟨a0, a1, a2, a3, a4, a5, a6⟩) fun h => by have h0 : a3 ≤ a4 := h.st1; omega)
    have d7 : decide (a4 < a3) = true := decide_eq_true t7
    go_enter Tryz.func120, Tryz.ntmps120
    go_wp2
    go_ret
    exact ⟨by rw [HR.out]; rfl, below_alloc _ _⟩
  have d7 : decide (a4 < a3) = false := decide_eq_false t7
  by_cases t8 : 1000000 < a4
  · have HR := Lib.hid (Ld.tB_not (t := ⟨a0, a1, a2, a3, a4, a5, a6⟩) fun h => by have h0 : a4 ≤ 1000000 := h.fi1; omega)
    have d8 : decide (1000000 < a4) = true := decide_eq_true t8
    go_enter Tryz.func120, Tryz.ntmps120
    go_wp2
    go_ret
    exact ⟨by rw [HR.out]; rfl, below_alloc _ _⟩
  have d8 : decide (1000000 < a4) = false := decide_eq_false t8
  by_cases t9 : a5 < 0
  · have HR := Lib.hid (Ld.tB_not (t := ⟨a0, a1, a2, a3, a4, a5, a6⟩) fun h => by have h0 : 0 ≤ a5 := h.fx0; omega)
    have d9 : decide (a5 < 0) = true := decide_eq_true t9
    go_enter Tryz.func120, Tryz.ntmps120
    go_wp2
    go_ret
    exact ⟨by rw [HR.out]; rfl, below_alloc _ _⟩
  have d9 : decide (a5 < 0) = false := decide_eq_false t9
  by_cases t10 : 1000000 < a5
  · have HR := Lib.hid (Ld.tB_not (t := ⟨a0, a1, a2, a3, a4, a5, a6⟩) fun h => by have h0 : a5 ≤ 1000000 := h.fx1; omega)
    have d10 : decide (1000000 < a5) = true := decide_eq_true t10
    go_enter Tryz.func120, Tryz.ntmps120
    go_wp2
    go_ret
    exact ⟨by rw [HR.out]; rfl, below_alloc _ _⟩
  have d10 : decide (1000000 < a5) = false := decide_eq_false t10
  by_cases t11 : a6 < 0
  · have HR := Lib.hid (Ld.tB_not (t := ⟨a0, a1, a2, a3, a4, a5, a6⟩) fun h => by have h0 : 0 ≤ a6 := h.ra0; omega)
    have d11 : decide (a6 < 0) = true := decide_eq_true t11
    go_enter Tryz.func120, Tryz.ntmps120
    go_wp2
    go_ret
    exact ⟨by rw [HR.out]; rfl, below_alloc _ _⟩
  have d11 : decide (a6 < 0) = false := decide_eq_false t11
  by_cases t12 : 1000 < a6
  · have HR := Lib.hid (Ld.tB_not (t := ⟨a0, a1, a2, a3, a4, a5, a6⟩) fun h => by have h0 : a6 ≤ 1000 := h.ra1; omega)
    have d12 : decide (1000 < a6) = true := decide_eq_true t12
    go_enter Tryz.func120, Tryz.ntmps120
    go_wp2
    go_ret
    exact ⟨by rw [HR.out]; rfl, below_alloc _ _⟩
  have d12 : decide (1000 < a6) = false := decide_eq_false t12
  have HR := Lib.hid (Ld.tB_ok (t := ⟨a0, a1, a2, a3, a4, a5, a6⟩) ⟨by show 1 ≤ a0; omega, by show a0 ≤ 1000000; omega, by show 1 ≤ a1; omega, by show a1 ≤ 1000000; omega, by show 1 ≤ a2; omega, by show a2 ≤ 1000000; omega, by show 0 ≤ a3; omega, by show a3 ≤ a4; omega, by show a4 ≤ 1000000; omega, by show 0 ≤ a5; omega, by show a5 ≤ 1000000; omega, by show 0 ≤ a6; omega, by show a6 ≤ 1000; omega⟩)
  go_enter Tryz.func120, Tryz.ntmps120
  go_wp2
  go_ret
  exact ⟨by rw [HR.out]; rfl, below_alloc _ _⟩

theorem rorder_any (o : Ld.O) (n : Int) (w : World) (r : Int) (hr : Ld.oE o n = r) :
    Calls Tryz.prog 119 #[.agg #[.int .i64 o.id, .int .i64 o.owner, .int .i64 o.node, .int .i64 o.weight, .int .i64 o.volume, .int .i64 o.frm, .int .i64 o.to, .int .i64 o.service], .int .i64 n] w fun e w' => e = .returned (.int .i64 r) ∧ Hid (Below w.heap.size w w') := by
  subst hr
  exact rorder_val _ _ _ _ _ _ _ _ n w
theorem rtruck_any (t : Ld.T) (w : World) (r : Int) (hr : Ld.tE t = r) :
    Calls Tryz.prog 120 #[.agg #[.int .i64 t.id, .int .i64 t.weight, .int .i64 t.volume, .int .i64 t.start, .int .i64 t.fin, .int .i64 t.fixed, .int .i64 t.rate]] w fun e w' => e = .returned (.int .i64 r) ∧ Hid (Below w.heap.size w w') := by
  subst hr
  exact rtruck_val _ _ _ _ _ _ _ w

set_option maxHeartbeats 1000000 in
theorem rfind_val (A : Option Addr) (m c : Nat) (l : List Ld.O) (id : Int) (w : World) (r : Int) (hr : Ld.findI (l.map Ld.O.id) id = r) (hm : l.length = m) (hm2 : m ≤ 1000) (hl : OrdersAt w A l) :
    Calls Tryz.prog 81 #[.slice A m c, .int .i64 id] w fun e w' => e = .returned (.int .i64 r) ∧ Hid (Below w.heap.size w w') := by
  have HL := Lib.hid hl
  have HM := Lib.hid hm
  have HY : Hid (∀ k : Nat, m ≤ k → (∀ j, j < k → (l.map Ld.O.id)[j]? ≠ some id) → r = -1) := fun k hk h => by
    rw [← hr]
    exact Ld.find_none fun j hj => h j (by rw [List.length_map] at hj; omega)
  have HN : Hid (∀ k : Nat, (l.map Ld.O.id)[k]? = some id → (∀ j, j < k → (l.map Ld.O.id)[j]? ≠ some id) → r = (k : Int)) := fun k h1 h2 => by
    rw [← hr]
    exact Ld.find_at h1 h2
  clear hl hm hr
  go_enter Tryz.func81, Tryz.ntmps81
  go_wp2_with fail
  go_loopg [4, 5] m (fun gk s4 s5 W => ∃ (k : Nat), k + gk = m ∧ s4 = .int .i64 0 ∧ s5 = .int .i64 k ∧ W = w ∧ Hid (∀ j, j < k → (l.map Ld.O.id)[j]? ≠ some id))
  case atStart => exact ⟨0, by omega, rfl, rfl, rfl, fun j hj => by omega⟩
  case round =>
    obtain ⟨k, hkg, rfl, rfl, rfl, HK⟩ := hrel
    by_cases hlt : k < m
    · obtain ⟨gk, rfl⟩ : ∃ j, gk = j + 1 := ⟨gk - 1, by omega⟩
      obtain ⟨s, hs⟩ := mlist_at l k (by rw [HM.out]; exact hlt)
      obtain ⟨ad, rfl, hc⟩ := HL.out.at_ hs
      obtain ⟨c0, c1, c2, c3, c4, c5, c6, c7⟩ := hc
      obtain ⟨a0, a1, a2, a3, a4, a5, a6, a7⟩ := s
      simp only at c0 c1 c2 c3 c4 c5 c6 c7
      have hid : (l.map Ld.O.id)[k]? = some a0 := by rw [List.getElem?_map, hs]; rfl
      have HI := Lib.hid hid
      clear hs hid c1 c2 c3 c4 c5 c6 c7
      by_cases h1 : a0 = id
      · subst h1
        have d1 : (a0 == a0) = true := by simp
        have HR := Lib.hid (HN.out k HI.out HK.out)
        go_wp2
        go_ret
        exact ⟨by rw [HR.out]; rfl, Below.refl _ _⟩
      · have d1 : (a0 == id) = false := by simp [h1]
        have HK2 : Hid (∀ j, j < k + 1 → (l.map Ld.O.id)[j]? ≠ some id) := fun j hj => by
          by_cases h : j < k
          · exact HK.out j h
          · obtain rfl : j = k := by omega
            rw [HI.out]
            intro e
            exact h1 (Option.some.inj e)
        go_wp2
        go_roundg gk
        case measure => omega
        case rel => exact ⟨k + 1, by omega, rfl, by first | rfl | go_num, rfl, HK2.out⟩
    · have HR := Lib.hid (HY.out k (by omega) HK.out)
      have hk : k = m := by omega
      subst hk
      go_wp2
      go_ret
      exact ⟨by rw [HR.out]; rfl, Below.refl _ _⟩
end Go.Proofs.YtgjmlnpfkmpfgaaGreat
end

section
/-! Contracts of the document's Sum and Carries. -/
namespace Go.Proofs.YtgjmlnpfkmpfgaaGreat
open Go.RowKit
set_option linter.unusedVariables false

theorem wpList_append_n {P : Program} {w : World} {ops : Array Oper} {rest : List Oper} {o : Oper} {a : Act} {Q : Exit → Act → World → Prop} (hgd : o.guard = none) (s x : Operand) (t tn : TypeId)
    (ho : o.op = .call { callee := .builtin .append, args := #[s, x], argTypes := #[t, tn] }) (vs vx : Value) (hs : a.eval s = vs) (hx : a.eval x = vx)
    (R : Value → World → Prop) (hr : ∃ v' w', (Builtin.append_ #[t, tn] o.type #[vs, vx]).run P w = .ok v' w' ∧ R v' w')
    (h : ∀ v' w', R v' w' → wpList P ops Q rest (a.put o.dst v') w') : wpList P ops Q (o :: rest) a w := by
  obtain ⟨v', w', hr, h2⟩ := hr
  exact Lib.wpList_append_run w hgd s x t tn ho vs vx hs hx v' w' hr (h v' w' h2)

def OwnN (W : World) (base : Nat) (v : Value) (l : List Int) : Prop := W.ownsRow base 2 1 v l.length (l.map (Value.int .i64))
theorem OwnN.blocks {W W' : World} {base : Nat} {A : Option Addr} {n c : Nat} {l : List Int} (h : OwnN W base (.slice A n c) l) (hb : ∀ ad, A = some ad → ad.block < W.heap.size → W'.heap[ad.block]? = W.heap[ad.block]?) : OwnN W' base (.slice A n c) l := by
  obtain ⟨h1, h2⟩ := h
  refine ⟨h1, ?_⟩
  rcases h2 with h2 | ⟨g, cap, cur, hv, hg, hh, r⟩
  · exact .inl h2
  · injection hv with e1 e2 e3
    exact .inr ⟨g, cap, cur, by rw [e1, e2, e3], hg, (hb _ e1 (Array.getElem?_eq_some_iff.1 hh).1).trans hh, r⟩
theorem OwnN.place {W : World} {base : Nat} {A : Option Addr} {n c : Nat} {l : List Int} (h : OwnN W base (.slice A n c) l) : ∀ ad, A = some ad → base ≤ ad.block ∧ ad.block < W.heap.size := by
  intro ad e
  rcases h.2 with ⟨hv, _⟩ | ⟨g, cap, cur, hv, hg, hh, _⟩
  · injection hv with e1 e2 e3
    rw [e1] at e
    cases e
  · injection hv with e1 e2 e3
    rw [e1] at e
    obtain rfl := Option.some.inj e
    exact ⟨hg, (Array.getElem?_eq_some_iff.1 hh).1⟩
theorem OwnN.ints {W : World} {base : Nat} {A : Option Addr} {n c : Nat} {l : List Int} (h : OwnN W base (.slice A n c) l) : IntsAt W A l := by
  have h' := h
  rcases h'.2 with ⟨hv, h2⟩ | ⟨g, cap, cur, hv, hbg, hg, hnc, hcm, _⟩
  · have : l = [] := List.eq_nil_of_length_eq_zero h2
    subst this
    exact IntsAt.nil _ _
  · injection hv with e1 e2 e3
    subst e1 e2 e3
    refine fun k z hz => ⟨_, rfl, World.ownsRow.cells h (g := g) rfl k _ ?_⟩
    rw [List.getElem?_map, hz]
    rfl
theorem OwnN.start (W : World) (base : Nat) (h : base ≤ W.heap.size) : OwnN (W.alloc (.cells #[] 2)) base (.slice (some ⟨W.heap.size, 0, none⟩) 0 0) [] :=
  ⟨by simp, .inr ⟨W.heap.size, 0, #[], rfl, h, heap_alloc_new W _, Nat.le_refl _, by decide, by simp, by simp⟩⟩

/-- two lists of numbers, each in a row of its own -/
structure Two (w : World) (A : Option Addr) (n ca : Nat) (la : List Int) (B : Option Addr) (m cb : Nat) (lb : List Int) (W : World) : Prop where
  bel : Below w.heap.size w W
  na : la.length = n
  nb : lb.length = m
  oa : OwnN W w.heap.size (.slice A n ca) la
  ob : OwnN W w.heap.size (.slice B m cb) lb
  ap : ∀ x y, A = some x → B = some y → x.block ≠ y.block
theorem Two.swap {w W : World} {A B : Option Addr} {n ca m cb : Nat} {la lb : List Int} (h : Two w A n ca la B m cb lb W) : Two w B m cb lb A n ca la W :=
  ⟨h.bel, h.nb, h.na, h.ob, h.oa, fun x y e1 e2 => (h.ap y x e2 e1).symm⟩
theorem Two.start (w : World) : Two w (some ⟨w.heap.size, 0, none⟩) 0 0 [] (some ⟨w.heap.size + 1, 0, none⟩) 0 0 [] ((w.alloc (.cells #[] 2)).alloc (.cells #[] 2)) := by
  have hsz : (w.alloc (.cells #[] 2)).heap.size = w.heap.size + 1 := by simp
  refine ⟨below_more (below_alloc _ _) _, rfl, rfl, (OwnN.start w w.heap.size (Nat.le_refl _)).blocks fun ad e hlt => heap_alloc_old _ _ hlt, ?_, ?_⟩
  · have := OwnN.start (w.alloc (.cells #[] 2)) w.heap.size (by omega)
    rw [hsz] at this
    exact this
  · intro x y e1 e2
    obtain rfl := Option.some.inj e1
    obtain rfl := Option.some.inj e2
    show w.heap.size ≠ w.heap.size + 1
    omega

/-- what putting one more number behind the first list leaves -/
def PutN (w : World) (n : Nat) (la : List Int) (B : Option Addr) (m cb : Nat) (lb : List Int) (v' : Value) (W' : World) : Prop := ∃ A' c', v' = .slice A' n c' ∧ Hid (Two w A' n c' la B m cb lb W')
theorem Two.put {w W : World} {A B : Option Addr} {n ca m cb : Nat} {la lb : List Int} (h : Two w A n ca la B m cb lb W) (z : Int) (la' : List Int) (n' : Nat) (hl : la ++ [z] = la') (hn : n + 1 = n') (hs : n ≤ 1000) :
    ∃ v' w', (Builtin.append_ #[22, 22] 22 #[.slice A n ca, .slice (some ⟨W.heap.size, 0, none⟩) 1 1]).run Tryz.prog (W.alloc (.cells #[.int .i64 z] 2)) = .ok v' w' ∧ PutN w n' la' B m cb lb v' w' := by
  subst hl hn
  obtain ⟨i0, hi0, hz0, hz1, hz2⟩ := info_parts4 int64_info
  have hbx : Box (W.alloc (.cells #[.int .i64 z] 2)) W.heap.size #[.int .i64 z] 2 := Box.new _ _ _
  have hna := h.na
  have hoa : OwnN (W.alloc (.cells #[.int .i64 z] 2)) w.heap.size (.slice A n ca) la := h.oa.blocks fun ad e hlt => heap_alloc_old _ _ hlt
  have hbw := h.bel.size
  obtain ⟨v', w', h1, h2, h3, _, h5⟩ := run_append_own_at (P := Tryz.prog) (W.alloc (.cells #[.int .i64 z] 2)) w.heap.size 22 22 2 i0 _ 1 8 Tryz.underlying22 hi0 hz0 hz1 hz2 rfl (by omega) (.slice A n ca) la.length (la.map (Value.int .i64)) hoa ⟨W.heap.size, 0, none⟩ 1 1 [.int .i64 z] rfl
    (fun j u hu => by
      rw [Addr.add_mid, Nat.zero_add]
      exact hbx.cell j u (by simpa using hu)) (by simp [Value.oneCell']) (by unfold maxLen; omega) (by omega) (Nat.le_trans hbw (below_alloc W _).size)
  have ho : OwnN w' w.heap.size v' (la ++ [z]) := by
    unfold OwnN
    rw [List.length_append, List.map_append]
    exact h2
  obtain ⟨A', c', e⟩ : ∃ A' c', v' = .slice A' (n + 1) c' := by
    rcases ho.2 with ⟨_, h0⟩ | ⟨g, cap, cur, hv, _⟩
    · simp at h0
    · exact ⟨_, cap, by rw [hv, List.length_append, hna]; rfl⟩
  subst e
  have hblk : ∀ k, k < W.heap.size → (∀ x, A = some x → x.block ≠ k) → w'.heap[k]? = W.heap[k]? := fun k hk hx => by
    rw [h3.block k (Nat.lt_of_lt_of_le hk (below_alloc W _).size) (fun e => by
      cases A with
      | none => cases e
      | some ad => exact hx ad rfl (Option.some.inj e).symm)]
    exact heap_alloc_old _ _ hk
  refine ⟨_, w', h1, A', c', rfl, ?_, by rw [List.length_append, hna]; rfl, h.nb, ho, h.ob.blocks fun ad e hlt => hblk _ hlt fun x hx => h.ap x ad hx e, ?_⟩
  · have hbl : Below w.heap.size W w' := ⟨h3.os, h3.tape, h3.output, Nat.le_trans (below_alloc W _).size h3.size, fun k hk => hblk k (Nat.lt_of_lt_of_le hk hbw) fun x hx => by have := (h.oa.place x hx).1; omega⟩
    exact h.bel.trans hbl
  · intro x y e1 e2
    have hy := h.ob.place y e2
    rcases h5 with h5 | h5
    · cases A with
      | none => rw [e1] at h5; cases h5
      | some ad =>
        rw [e1] at h5
        have : x.block = ad.block := Option.some.inj h5
        rw [this]
        exact h.ap ad y rfl e2
    · rw [e1] at h5
      have : x.block = (W.alloc (.cells #[.int .i64 z] 2)).heap.size := Option.some.inj h5
      have := (below_alloc W (.cells #[.int .i64 z] 2)).size
      omega

theorem rsum_at {W : World} {A : Option Addr} {n c : Nat} {l : List Int} {a e0 : Int} (h : IntsAt W A l) (hl : l.length = n) (hn : n ≤ 1000) (hr : Grp.sumS l = (a, e0)) :
    Calls Tryz.prog 142 #[.slice A n c] W fun e w' => e = .returned (.tuple #[.int .i64 a, .int .i64 e0]) ∧ W = w' := by
  subst hl
  have h2 := rmon_sum A c l W (by unfold maxLen; omega) h
  rw [hr] at h2
  exact h2

set_option maxHeartbeats 2000000 in
set_option maxRecDepth 100000 in
theorem rsum_val (A : Option Addr) (m c : Nat) (l : List Ld.O) (w : World) (a b e0 : Int) (hr : Ld.sumE l = (a, b, e0)) (hm : l.length = m) (hm2 : m ≤ 1000) (hl : OrdersAt w A l) :
    Calls Tryz.prog 121 #[.slice A m c] w fun e w' => e = .returned (.tuple #[.int .i64 a, .int .i64 b, .int .i64 e0]) ∧ Hid (Below w.heap.size w w') := by
  obtain ⟨x, ex, hx⟩ : ∃ x ex, Grp.sumS (l.map Ld.O.weight) = (x, ex) := ⟨_, _, rfl⟩
  obtain ⟨y, ey, hy⟩ : ∃ y ey, Grp.sumS (l.map Ld.O.volume) = (y, ey) := ⟨_, _, rfl⟩
  have HL := Lib.hid hl
  have HM := Lib.hid hm
  have HSX := Lib.hid hx
  have HSY := Lib.hid hy
  have HR := Lib.hid hr
  have HT0 := Lib.hid (Two.start w)
  have HWL : Hid ((l.map Ld.O.weight).length = m) := by unfold Hid; rw [List.length_map]; exact hm
  have HVL : Hid ((l.map Ld.O.volume).length = m) := by unfold Hid; rw [List.length_map]; exact hm
  clear hl hm hx hy hr
  go_enter Tryz.func121, Tryz.ntmps121
  go_wp2_with fail
  go_loopg [5, 6, 7] m (fun gk s5 s6 s7 Wx => ∃ (W : World) (k : Nat) (P : Option Addr) (cp : Nat) (Q : Option Addr) (cq : Nat), W = Wx ∧ k + gk = m ∧ s5 = .slice P k cp ∧ s6 = .slice Q k cq ∧ s7 = .int .i64 k ∧ Hid (Two w P k cp ((l.map Ld.O.weight).take k) Q k cq ((l.map Ld.O.volume).take k) W))
  case atStart => exact ⟨_, 0, _, 0, _, 0, rfl, by omega, rfl, rfl, rfl, HT0.out⟩
  case round =>
    obtain ⟨W, k, P, cp, Q, cq, rfl, hkg, rfl, rfl, rfl, HT⟩ := hrel
    by_cases hlt : k < m
    · obtain ⟨gk, rfl⟩ : ∃ j, gk = j + 1 := ⟨gk - 1, by omega⟩
      obtain ⟨s, hs⟩ := mlist_at l k (by rw [HM.out]; exact hlt)
      obtain ⟨ad, rfl, hc⟩ := (HL.out.below HT.out.bel).at_ hs
      obtain ⟨c0, c1, c2, c3, c4, c5, c6, c7⟩ := hc
      obtain ⟨a0, a1, a2, a3, a4, a5, a6, a7⟩ := s
      simp only at c0 c1 c2 c3 c4 c5 c6 c7
      have HA1 := Lib.hid (HT.out.put a3 ((l.map Ld.O.weight).take (k + 1)) (k + 1) (by rw [List.take_add_one, List.getElem?_map, hs]; rfl) rfl (by omega))
      have HA2 : Hid (∀ (W1 : World) (P1 : Option Addr) (c1 : Nat), Two w P1 (k + 1) c1 ((l.map Ld.O.weight).take (k + 1)) Q k cq ((l.map Ld.O.volume).take k) W1 → ∃ v' w', (Builtin.append_ #[22, 22] 22 #[.slice Q k cq, .slice (some ⟨W1.heap.size, 0, none⟩) 1 1]).run Tryz.prog (W1.alloc (.cells #[.int .i64 a4] 2)) = .ok v' w' ∧ PutN w (k + 1) ((l.map Ld.O.volume).take (k + 1)) P1 (k + 1) c1 ((l.map Ld.O.weight).take (k + 1)) v' w') := fun W1 P1 c1 h1 =>
        h1.swap.put a4 ((l.map Ld.O.volume).take (k + 1)) (k + 1) (by rw [List.take_add_one, List.getElem?_map, hs]; rfl) rfl (by omega)
      have HC4 : Hid (∀ (W1 : World), Below w.heap.size w W1 → W1.cell? ⟨(ad.add (k * 8)).block, (ad.add (k * 8)).off + 4, none⟩ = some (.int .i64 a4)) := fun W1 hb => by
        obtain ⟨ad', e, hc⟩ := (HL.out.below hb).at_ hs
        obtain rfl := Option.some.inj e
        exact hc.c4
      clear hs c0 c1 c2 c4 c5 c6 c7
      go_wp2_with (first
        | (at_builtin; refine wpList_append_n rfl (.tmp 28) (.tmp 34) 22 22 rfl _ _ rfl rfl _ (HA2.out _ _ _ HP1.out) ?_; intro v2 w2 hap; obtain ⟨A2, q2, rfl, HP2⟩ := hap)
        | (at_builtin; refine wpList_append_n rfl (.tmp 20) (.tmp 26) 22 22 rfl _ _ rfl rfl _ HA1.out ?_; intro v1 w1 hap; obtain ⟨A1, q1, rfl, HP1⟩ := hap; have x4 := HC4.out w1 HP1.out.bel))
      go_roundg gk
      case measure => omega
      case rel => exact ⟨_, k + 1, _, _, _, _, rfl, by omega, rfl, rfl, by first | rfl | go_num, HP2.out.swap⟩
    · have hk : k = m := by omega
      subst hk
      have HB := Lib.hid HT.out.bel
      have ha := HT.out.oa.ints
      have hb := HT.out.ob.ints
      rw [List.take_of_length_le (by rw [HWL.out]; exact Nat.le_refl _)] at ha
      rw [List.take_of_length_le (by rw [HVL.out]; exact Nat.le_refl _)] at hb
      have HC1 := Lib.hid (rsum_at (c := cp) ha HWL.out hm2 HSX.out)
      have HC2 := Lib.hid (rsum_at (c := cq) hb HVL.out hm2 HSY.out)
      clear ha hb HT
      by_cases h1 : ex = 0
      · subst h1
        by_cases h2 : ey = 0
        · subst h2
          have hr := HR.out
          rw [Ld.sum_ok HSX.out HSY.out] at hr
          injection hr with r1 hr
          injection hr with r2 r3
          subst r1 r2 r3
          go_wp2_with (first
            | (go_at_call 142; with_reducible refine HC1.out.mono ?_; rintro e w1 ⟨rfl, rfl⟩)
            | (go_at_call 142; with_reducible refine HC2.out.mono ?_; rintro e w1 ⟨rfl, rfl⟩))
          go_ret3
          exact ⟨rfl, HB.out⟩
        · have hr := HR.out
          rw [Ld.sum_v HSX.out HSY.out h2] at hr
          injection hr with r1 hr
          injection hr with r2 r3
          subst r1 r2 r3
          have d2 : (ey != 0) = true := bne_iff_ne.2 h2
          clear h2
          go_wp2_with (first
            | (go_at_call 142; with_reducible refine HC1.out.mono ?_; rintro e w1 ⟨rfl, rfl⟩)
            | (go_at_call 142; with_reducible refine HC2.out.mono ?_; rintro e w1 ⟨rfl, rfl⟩))
          go_ret3
          exact ⟨rfl, HB.out⟩
      · have hr := HR.out
        rw [Ld.sum_w HSX.out h1] at hr
        injection hr with r1 hr
        injection hr with r2 r3
        subst r1 r2 r3
        have d1 : (ex != 0) = true := bne_iff_ne.2 h1
        clear h1
        go_wp2_with (first
          | (go_at_call 142; with_reducible refine HC1.out.mono ?_; rintro e w1 ⟨rfl, rfl⟩)
          | (go_at_call 142; with_reducible refine HC2.out.mono ?_; rintro e w1 ⟨rfl, rfl⟩))
        go_ret3
        exact ⟨rfl, HB.out⟩

set_option maxHeartbeats 1000000 in
theorem rcar_val (t : Ld.T) (A : Option Addr) (m c : Nat) (l : List Ld.O) (w : World) (r : Int) (hr : Ld.carE t l = r) (hm : l.length = m) (hm2 : m ≤ 1000) (hl : OrdersAt w A l) :
    Calls Tryz.prog 82 #[.agg #[.int .i64 t.id, .int .i64 t.weight, .int .i64 t.volume, .int .i64 t.start, .int .i64 t.fin, .int .i64 t.fixed, .int .i64 t.rate], .slice A m c] w fun e w' => e = .returned (.int .i64 r) ∧ Hid (Below w.heap.size w w') := by
  obtain ⟨a, b, e0, hs⟩ : ∃ a b e0, Ld.sumE l = (a, b, e0) := ⟨_, _, _, rfl⟩
  have HR := Lib.hid hr
  obtain ⟨a0, a1, a2, a3, a4, a5, a6⟩ := t
  have HB0 : Hid (Below w.heap.size w (w.alloc (.cells #[.int .i64 a0, .int .i64 a1, .int .i64 a2, .int .i64 a3, .int .i64 a4, .int .i64 a5, .int .i64 a6] 54))) := below_alloc _ _
  have HX : Hid (Box (w.alloc (.cells #[.int .i64 a0, .int .i64 a1, .int .i64 a2, .int .i64 a3, .int .i64 a4, .int .i64 a5, .int .i64 a6] 54)) w.heap.size #[.int .i64 a0, .int .i64 a1, .int .i64 a2, .int .i64 a3, .int .i64 a4, .int .i64 a5, .int .i64 a6] 54) := Box.new _ _ _
  have HC := Lib.hid (rsum_val A m c l _ a b e0 hs hm hm2 (hl.below HB0.out))
  clear hl hm hr
  by_cases h1 : e0 = 0
  · subst h1
    by_cases h2 : a1 < a
    · have HR2 := Lib.hid (Ld.car_more (t := ⟨a0, a1, a2, a3, a4, a5, a6⟩) hs (.inl h2))
      have d1 : decide (a1 < a) = true := decide_eq_true h2
      clear hs h2
      go_enter Tryz.func82, Tryz.ntmps82
      go_wp2_with fail
      with_reducible refine HC.out.mono ?_
      rintro e w1 ⟨rfl, hb1⟩
      have x1 : w1.cell? ⟨w.heap.size, 1, none⟩ = some (.int .i64 a1) := (HX.out.below hb1.out).cell 1 _ rfl
      go_wp2
      go_ret
      exact ⟨by rw [← HR.out, HR2.out]; rfl, below_next HB0.out hb1.out⟩
    · have d1 : decide (a1 < a) = false := decide_eq_false h2
      by_cases h3 : a2 < b
      · have HR2 := Lib.hid (Ld.car_more (t := ⟨a0, a1, a2, a3, a4, a5, a6⟩) hs (.inr h3))
        have d2 : decide (a2 < b) = true := decide_eq_true h3
        clear hs h2 h3
        go_enter Tryz.func82, Tryz.ntmps82
        go_wp2_with fail
        with_reducible refine HC.out.mono ?_
        rintro e w1 ⟨rfl, hb1⟩
        have x1 : w1.cell? ⟨w.heap.size, 1, none⟩ = some (.int .i64 a1) := (HX.out.below hb1.out).cell 1 _ rfl
        have x2 : w1.cell? ⟨w.heap.size, 2, none⟩ = some (.int .i64 a2) := (HX.out.below hb1.out).cell 2 _ rfl
        go_wp2
        go_ret
        exact ⟨by rw [← HR.out, HR2.out]; rfl, below_next HB0.out hb1.out⟩
      · have HR2 := Lib.hid (Ld.car_ok (t := ⟨a0, a1, a2, a3, a4, a5, a6⟩) hs (by show a ≤ a1; omega) (by show b ≤ a2; omega))
        have d2 : decide (a2 < b) = false := decide_eq_false h3
        clear hs h2 h3
        go_enter Tryz.func82, Tryz.ntmps82
        go_wp2_with fail
        with_reducible refine HC.out.mono ?_
        rintro e w1 ⟨rfl, hb1⟩
        have x1 : w1.cell? ⟨w.heap.size, 1, none⟩ = some (.int .i64 a1) := (HX.out.below hb1.out).cell 1 _ rfl
        have x2 : w1.cell? ⟨w.heap.size, 2, none⟩ = some (.int .i64 a2) := (HX.out.below hb1.out).cell 2 _ rfl
        go_wp2
        go_ret
        exact ⟨by rw [← HR.out, HR2.out]; rfl, below_next HB0.out hb1.out⟩
  · have HR2 := Lib.hid (Ld.car_err (t := ⟨a0, a1, a2, a3, a4, a5, a6⟩) hs h1)
    have d1 : (e0 == 0) = false := by simp [h1]
    clear hs h1
    go_enter Tryz.func82, Tryz.ntmps82
    go_wp2_with fail
    with_reducible refine HC.out.mono ?_
    rintro e w1 ⟨rfl, hb1⟩
    go_wp2
    go_ret
    exact ⟨by rw [← HR.out, HR2.out]; rfl, below_next HB0.out hb1.out⟩
end Go.Proofs.YtgjmlnpfkmpfgaaGreat
end

section
/-! Contract of the document's World. -/
namespace Ld
theorem tw_snoc {ids : List Int} {i : Nat} {x : Int} (h : ids[i]? = some x) : twB (ids.take (i + 1)) = (twB (ids.take i) || (ids.take i).any (fun y => y == x)) := by
  have e : ids.take (i + 1) = ids.take i ++ [x] := by rw [List.take_add_one, h]; rfl
  rw [e]
  unfold twB
  rw [Bool.eq_iff_iff]
  simp only [Bool.not_eq_true', decide_eq_false_iff_not, Bool.or_eq_true, List.any_eq_true, beq_iff_eq]
  unfold List.Nodup
  rw [List.pairwise_append]
  constructor
  · intro hn
    by_cases h1 : (ids.take i).Pairwise (· ≠ ·)
    · refine .inr ?_
      by_cases h2 : ∃ y, y ∈ ids.take i ∧ y = x
      · exact h2
      · exact absurd ⟨h1, by simp, fun a ha b hb e => h2 ⟨a, ha, by rw [e]; simpa using hb⟩⟩ hn
    · exact .inl h1
  · rintro (h1 | ⟨y, hy, rfl⟩) ⟨a, _, b⟩
    · exact h1 a
    · exact b y hy y (by simp) rfl
theorem any_snoc {ids : List Int} {k : Nat} {y x : Int} (h : ids[k]? = some y) : (ids.take (k + 1)).any (fun z => z == x) = ((ids.take k).any (fun z => z == x) || (y == x)) := by
  rw [List.take_add_one, h, List.any_append]
  simp
theorem or_go {t u p : Bool} {a : Bool} (h : a = (t || u)) : (a || p) = (t || (u || p)) := by rw [h]; cases t <;> cases u <;> rfl
end Ld
namespace Go.Proofs.YtgjmlnpfkmpfgaaGreat
open Go.RowKit
set_option linter.unusedVariables false

theorem below_drewN {b : Nat} {w W : World} (h : Below b w W) (n : Nat) : Below b w (W.drewN n) := h.trans ⟨rfl, rfl, rfl, Nat.le_refl _, fun _ _ => rfl⟩

set_option maxHeartbeats 4000000 in
set_option maxRecDepth 100000 in
theorem rworld_val (N : Int) (v1 v2 : Value) (A : Option Addr) (m c : Nat) (os : List Ld.O) (B : Option Addr) (n d : Nat) (ts : List Ld.T) (w : World) (r : Int) (hr : Ld.worldE N os ts = r) (hm : os.length = m) (hm2 : m ≤ 1000) (hk : ts.length = n) (hk2 : n ≤ 1000) (hos : OrdersAt w A os) (hts : TrucksAt w B ts) :
    Calls Tryz.prog 79 #[.agg #[.int .i64 N, v1, v2, .slice A m c, .slice B n d]] w fun e w' => e = .returned (.int .i64 r) ∧ Hid (Below w.heap.size w w') := by
  have HB0 : Hid (Below w.heap.size w (w.alloc (.cells #[.int .i64 N, v1, v2, .slice A m c, .slice B n d] 28))) := below_alloc _ _
  have HX := Lib.hid (WBox.new (N := N) (v1 := v1) (v2 := v2) (m := m) (c := c) (k := n) (d := d) hos hts)
  have HM := Lib.hid hm
  have HK := Lib.hid hk
  have HR := Lib.hid hr
  clear hos hts hm hk hr
  by_cases h1 : 12 < m
  · have HR2 := Lib.hid (Ld.world_full (N := N) (os := os) (ts := ts) (.inl (by rw [HM.out]; exact h1)))
    have d1 : decide ((12 : Int) < (m : Int)) = true := decide_eq_true (by omega)
    clear h1
    go_enter Tryz.func79, Tryz.ntmps79
    go_wp2
    go_ret
    exact ⟨by rw [← HR.out, HR2.out]; rfl, HB0.out⟩
  have d1 : decide ((12 : Int) < (m : Int)) = false := decide_eq_false (by omega)
  by_cases h2 : 6 < n
  · have HR2 := Lib.hid (Ld.world_full (N := N) (os := os) (ts := ts) (.inr (by rw [HK.out]; exact h2)))
    have d2 : decide ((6 : Int) < (n : Int)) = true := decide_eq_true (by omega)
    clear h1 h2
    go_enter Tryz.func79, Tryz.ntmps79
    go_wp2
    go_ret
    exact ⟨by rw [← HR.out, HR2.out]; rfl, HB0.out⟩
  have d2 : decide ((6 : Int) < (n : Int)) = false := decide_eq_false (by omega)
  have l1 : Hid (os.length ≤ 12) := by unfold Hid; rw [HM.out]; omega
  have l2 : Hid (ts.length ≤ 6) := by unfold Hid; rw [HK.out]; omega
  have hm12 : m ≤ 12 := by omega
  have hn6 : n ≤ 6 := by omega
  clear h1 h2 hm2 hk2
  go_enter Tryz.func79, Tryz.ntmps79
  go_wp2_with fail
  generalize w.alloc (.cells #[.int .i64 N, v1, v2, .slice A m c, .slice B n d] 28) = w1 at *
  clear d1 d2
  go_loopg [3, 4] m (fun gk s3 s4 Wx => ∃ (W : World) (i : Nat) (t : Bool), W = Wx ∧ i + gk = m ∧ s3 = .bool t ∧ s4 = .int .i64 i ∧ Hid (Below w1.heap.size w1 W) ∧ Hid ((os.take i).all (fun o => Ld.oB o N) = true) ∧ Hid (t = Ld.twB ((os.map Ld.O.id).take i)))
  case atStart => exact ⟨_, 0, false, rfl, by omega, rfl, rfl, Below.refl _ _, rfl, rfl⟩
  case round =>
    obtain ⟨W, i, t, rfl, hig, rfl, rfl, HB, HALL, HT⟩ := hrel
    have HXW := Lib.hid (HX.out.below HB.out)
    by_cases hlt : i < m
    · obtain ⟨go, rfl⟩ : ∃ j, gk = j + 1 := ⟨gk - 1, by omega⟩
      obtain ⟨s, hs⟩ := mlist_at os i (by rw [HM.out]; exact hlt)
      obtain ⟨ad, rfl, hc⟩ := HXW.out.os.at_ hs
      have HATI : Hid (∀ U : World, Below w1.heap.size w1 U → OAt U (ad.add (i * 8)) s) := fun U hb => by
        obtain ⟨ad', e, hc'⟩ := (HX.out.below hb).os.at_ hs
        obtain rfl := Option.some.inj e
        exact hc'
      obtain ⟨c0, c1, c2, c3, c4, c5, c6, c7⟩ := hc
      obtain ⟨a0, a1, a2, a3, a4, a5, a6, a7⟩ := s
      simp only at c0 c1 c2 c3 c4 c5 c6 c7
      have hidI : (os.map Ld.O.id)[i]? = some a0 := by rw [List.getElem?_map, hs]; rfl
      have HSN := Lib.hid (Ld.tw_snoc hidI)
      clear hidI
      have x0 := HXW.out.c0
      have x3 := HXW.out.c3
      have i0 : (0 : Int) ≤ (i : Int) := by omega
      have i1 : (i : Int) < (m : Int) := by omega
      have hB := HB.out.drew
      have HCE : Hid (∀ U, Below w1.heap.size w1 U → U.cell? ⟨w.heap.size, 0, none⟩ = some (.int .i64 N) ∧ U.cell? ⟨w.heap.size, 3, none⟩ = some (.slice (some ad) m c) ∧ U.cell? (ad.add (i * 8)) = some (.int .i64 a0) ∧ U.cell? ⟨(ad.add (i * 8)).block, (ad.add (i * 8)).off + 1, none⟩ = some (.int .i64 a1) ∧ U.cell? ⟨(ad.add (i * 8)).block, (ad.add (i * 8)).off + 2, none⟩ = some (.int .i64 a2) ∧ U.cell? ⟨(ad.add (i * 8)).block, (ad.add (i * 8)).off + 3, none⟩ = some (.int .i64 a3) ∧ U.cell? ⟨(ad.add (i * 8)).block, (ad.add (i * 8)).off + 4, none⟩ = some (.int .i64 a4) ∧ U.cell? ⟨(ad.add (i * 8)).block, (ad.add (i * 8)).off + 5, none⟩ = some (.int .i64 a5) ∧ U.cell? ⟨(ad.add (i * 8)).block, (ad.add (i * 8)).off + 6, none⟩ = some (.int .i64 a6) ∧ U.cell? ⟨(ad.add (i * 8)).block, (ad.add (i * 8)).off + 7, none⟩ = some (.int .i64 a7) ∧ Below w1.heap.size w1 U) := fun U hb => ⟨(HX.out.below hb).c0, (HX.out.below hb).c3, (HATI.out U hb).c0, (HATI.out U hb).c1, (HATI.out U hb).c2, (HATI.out U hb).c3, (HATI.out U hb).c4, (HATI.out U hb).c5, (HATI.out U hb).c6, (HATI.out U hb).c7, hb⟩
      cases g1 : Ld.oB ⟨a0, a1, a2, a3, a4, a5, a6, a7⟩ N with
      | false =>
          have HR2 := Lib.hid (Ld.world_arg (N := N) l1.out l2.out (.inl (Ld.all_stop (p := (fun o => Ld.oB o N)) hs g1)))
          have HC : Hid (∀ U, (U.cell? ⟨w.heap.size, 0, none⟩ = some (.int .i64 N) ∧ U.cell? ⟨w.heap.size, 3, none⟩ = some (.slice (some ad) m c) ∧ U.cell? (ad.add (i * 8)) = some (.int .i64 a0) ∧ U.cell? ⟨(ad.add (i * 8)).block, (ad.add (i * 8)).off + 1, none⟩ = some (.int .i64 a1) ∧ U.cell? ⟨(ad.add (i * 8)).block, (ad.add (i * 8)).off + 2, none⟩ = some (.int .i64 a2) ∧ U.cell? ⟨(ad.add (i * 8)).block, (ad.add (i * 8)).off + 3, none⟩ = some (.int .i64 a3) ∧ U.cell? ⟨(ad.add (i * 8)).block, (ad.add (i * 8)).off + 4, none⟩ = some (.int .i64 a4) ∧ U.cell? ⟨(ad.add (i * 8)).block, (ad.add (i * 8)).off + 5, none⟩ = some (.int .i64 a5) ∧ U.cell? ⟨(ad.add (i * 8)).block, (ad.add (i * 8)).off + 6, none⟩ = some (.int .i64 a6) ∧ U.cell? ⟨(ad.add (i * 8)).block, (ad.add (i * 8)).off + 7, none⟩ = some (.int .i64 a7) ∧ Below w1.heap.size w1 U) → Calls Tryz.prog 119 #[.agg #[.int .i64 a0, .int .i64 a1, .int .i64 a2, .int .i64 a3, .int .i64 a4, .int .i64 a5, .int .i64 a6, .int .i64 a7], .int .i64 N] U fun e U => e = .returned (.int .i64 1) ∧ U.cell? ⟨w.heap.size, 0, none⟩ = some (.int .i64 N) ∧ U.cell? ⟨w.heap.size, 3, none⟩ = some (.slice (some ad) m c) ∧ U.cell? (ad.add (i * 8)) = some (.int .i64 a0) ∧ U.cell? ⟨(ad.add (i * 8)).block, (ad.add (i * 8)).off + 1, none⟩ = some (.int .i64 a1) ∧ U.cell? ⟨(ad.add (i * 8)).block, (ad.add (i * 8)).off + 2, none⟩ = some (.int .i64 a2) ∧ U.cell? ⟨(ad.add (i * 8)).block, (ad.add (i * 8)).off + 3, none⟩ = some (.int .i64 a3) ∧ U.cell? ⟨(ad.add (i * 8)).block, (ad.add (i * 8)).off + 4, none⟩ = some (.int .i64 a4) ∧ U.cell? ⟨(ad.add (i * 8)).block, (ad.add (i * 8)).off + 5, none⟩ = some (.int .i64 a5) ∧ U.cell? ⟨(ad.add (i * 8)).block, (ad.add (i * 8)).off + 6, none⟩ = some (.int .i64 a6) ∧ U.cell? ⟨(ad.add (i * 8)).block, (ad.add (i * 8)).off + 7, none⟩ = some (.int .i64 a7) ∧ Below w1.heap.size w1 U) := by
            rintro U ⟨_, _, _, _, _, _, _, _, _, _, h⟩
            exact (rorder_any ⟨a0, a1, a2, a3, a4, a5, a6, a7⟩ N U 1 (Ld.oE_no g1)).mono fun _ _ ⟨e1, e2⟩ => ⟨e1, HCE.out _ (below_next h e2.out)⟩
          clear hs g1
          go_wp2
          go_region_held3 (fun U : World => U.cell? ⟨w.heap.size, 0, none⟩ = some (.int .i64 N) ∧ U.cell? ⟨w.heap.size, 3, none⟩ = some (.slice (some ad) m c) ∧ U.cell? (ad.add (i * 8)) = some (.int .i64 a0) ∧ U.cell? ⟨(ad.add (i * 8)).block, (ad.add (i * 8)).off + 1, none⟩ = some (.int .i64 a1) ∧ U.cell? ⟨(ad.add (i * 8)).block, (ad.add (i * 8)).off + 2, none⟩ = some (.int .i64 a2) ∧ U.cell? ⟨(ad.add (i * 8)).block, (ad.add (i * 8)).off + 3, none⟩ = some (.int .i64 a3) ∧ U.cell? ⟨(ad.add (i * 8)).block, (ad.add (i * 8)).off + 4, none⟩ = some (.int .i64 a4) ∧ U.cell? ⟨(ad.add (i * 8)).block, (ad.add (i * 8)).off + 5, none⟩ = some (.int .i64 a5) ∧ U.cell? ⟨(ad.add (i * 8)).block, (ad.add (i * 8)).off + 6, none⟩ = some (.int .i64 a6) ∧ U.cell? ⟨(ad.add (i * 8)).block, (ad.add (i * 8)).off + 7, none⟩ = some (.int .i64 a7) ∧ Below w1.heap.size w1 U) (first | exact ⟨x0, x3, c0, c1, c2, c3, c4, c5, c6, c7, hB⟩ | exact ⟨k0, k1, k2, k3, k4, k5, k6, k7, k8, k9, kb⟩ | assumption)
            (first | (go_at_call 119; ((with_reducible refine (HC.out _ (by assumption)).mono ?_)); rintro e w7 ⟨rfl, k0, k1, k2, k3, k4, k5, k6, k7, k8, k9, kb⟩))
          have KB := Lib.hid kb
          clear k0 k1 k2 k3 k4 k5 k6 k7 k8 k9 kb x0 x3 c0 c1 c2 c3 c4 c5 c6 c7 hB HC
          go_wp2
          go_ret
          exact ⟨by rw [← HR.out, HR2.out]; rfl, below_next HB0.out KB.out⟩
      | true =>
          have HALL2 := Lib.hid (Ld.all_snoc (p := (fun o => Ld.oB o N)) hs HALL.out g1)
          have HC : Hid (∀ U, (U.cell? ⟨w.heap.size, 0, none⟩ = some (.int .i64 N) ∧ U.cell? ⟨w.heap.size, 3, none⟩ = some (.slice (some ad) m c) ∧ U.cell? (ad.add (i * 8)) = some (.int .i64 a0) ∧ U.cell? ⟨(ad.add (i * 8)).block, (ad.add (i * 8)).off + 1, none⟩ = some (.int .i64 a1) ∧ U.cell? ⟨(ad.add (i * 8)).block, (ad.add (i * 8)).off + 2, none⟩ = some (.int .i64 a2) ∧ U.cell? ⟨(ad.add (i * 8)).block, (ad.add (i * 8)).off + 3, none⟩ = some (.int .i64 a3) ∧ U.cell? ⟨(ad.add (i * 8)).block, (ad.add (i * 8)).off + 4, none⟩ = some (.int .i64 a4) ∧ U.cell? ⟨(ad.add (i * 8)).block, (ad.add (i * 8)).off + 5, none⟩ = some (.int .i64 a5) ∧ U.cell? ⟨(ad.add (i * 8)).block, (ad.add (i * 8)).off + 6, none⟩ = some (.int .i64 a6) ∧ U.cell? ⟨(ad.add (i * 8)).block, (ad.add (i * 8)).off + 7, none⟩ = some (.int .i64 a7) ∧ Below w1.heap.size w1 U) → Calls Tryz.prog 119 #[.agg #[.int .i64 a0, .int .i64 a1, .int .i64 a2, .int .i64 a3, .int .i64 a4, .int .i64 a5, .int .i64 a6, .int .i64 a7], .int .i64 N] U fun e U => e = .returned (.int .i64 0) ∧ U.cell? ⟨w.heap.size, 0, none⟩ = some (.int .i64 N) ∧ U.cell? ⟨w.heap.size, 3, none⟩ = some (.slice (some ad) m c) ∧ U.cell? (ad.add (i * 8)) = some (.int .i64 a0) ∧ U.cell? ⟨(ad.add (i * 8)).block, (ad.add (i * 8)).off + 1, none⟩ = some (.int .i64 a1) ∧ U.cell? ⟨(ad.add (i * 8)).block, (ad.add (i * 8)).off + 2, none⟩ = some (.int .i64 a2) ∧ U.cell? ⟨(ad.add (i * 8)).block, (ad.add (i * 8)).off + 3, none⟩ = some (.int .i64 a3) ∧ U.cell? ⟨(ad.add (i * 8)).block, (ad.add (i * 8)).off + 4, none⟩ = some (.int .i64 a4) ∧ U.cell? ⟨(ad.add (i * 8)).block, (ad.add (i * 8)).off + 5, none⟩ = some (.int .i64 a5) ∧ U.cell? ⟨(ad.add (i * 8)).block, (ad.add (i * 8)).off + 6, none⟩ = some (.int .i64 a6) ∧ U.cell? ⟨(ad.add (i * 8)).block, (ad.add (i * 8)).off + 7, none⟩ = some (.int .i64 a7) ∧ Below w1.heap.size w1 U) := by
            rintro U ⟨_, _, _, _, _, _, _, _, _, _, h⟩
            exact (rorder_any ⟨a0, a1, a2, a3, a4, a5, a6, a7⟩ N U 0 (Ld.oE_yes g1)).mono fun _ _ ⟨e1, e2⟩ => ⟨e1, HCE.out _ (below_next h e2.out)⟩
          clear hs g1
          go_wp2
          go_region_held3 (fun U : World => U.cell? ⟨w.heap.size, 0, none⟩ = some (.int .i64 N) ∧ U.cell? ⟨w.heap.size, 3, none⟩ = some (.slice (some ad) m c) ∧ U.cell? (ad.add (i * 8)) = some (.int .i64 a0) ∧ U.cell? ⟨(ad.add (i * 8)).block, (ad.add (i * 8)).off + 1, none⟩ = some (.int .i64 a1) ∧ U.cell? ⟨(ad.add (i * 8)).block, (ad.add (i * 8)).off + 2, none⟩ = some (.int .i64 a2) ∧ U.cell? ⟨(ad.add (i * 8)).block, (ad.add (i * 8)).off + 3, none⟩ = some (.int .i64 a3) ∧ U.cell? ⟨(ad.add (i * 8)).block, (ad.add (i * 8)).off + 4, none⟩ = some (.int .i64 a4) ∧ U.cell? ⟨(ad.add (i * 8)).block, (ad.add (i * 8)).off + 5, none⟩ = some (.int .i64 a5) ∧ U.cell? ⟨(ad.add (i * 8)).block, (ad.add (i * 8)).off + 6, none⟩ = some (.int .i64 a6) ∧ U.cell? ⟨(ad.add (i * 8)).block, (ad.add (i * 8)).off + 7, none⟩ = some (.int .i64 a7) ∧ Below w1.heap.size w1 U) (first | exact ⟨x0, x3, c0, c1, c2, c3, c4, c5, c6, c7, hB⟩ | exact ⟨k0, k1, k2, k3, k4, k5, k6, k7, k8, k9, kb⟩ | assumption)
            (first | (go_at_call 119; ((with_reducible refine (HC.out _ (by assumption)).mono ?_)); rintro e w7 ⟨rfl, k0, k1, k2, k3, k4, k5, k6, k7, k8, k9, kb⟩))
          have KB := Lib.hid kb
          clear k0 k1 k2 k3 k4 k5 k6 k7 k8 k9 kb x0 x3 c0 c1 c2 c3 c4 c5 c6 c7 hB HC
          clear HXW HCE
          go_wp2
          go_loopg [3, 5] i (fun gk s3 s5 Wx => ∃ (V : World) (k : Nat) (u : Bool), V = Wx ∧ k + gk = i ∧ s3 = .bool u ∧ s5 = .int .i64 k ∧ Hid (Below w1.heap.size w1 V) ∧ Hid (u = (t || ((os.map Ld.O.id).take k).any (fun z => z == a0))))
          case atStart => exact ⟨_, 0, t, rfl, by omega, rfl, rfl, KB.out, by unfold Hid; cases t <;> rfl⟩
          case round =>
            obtain ⟨V, k, u, rfl, hkg, rfl, rfl, HBV, HU⟩ := hrel
            by_cases hki : k < i
            · obtain ⟨gi, rfl⟩ : ∃ j, gk = j + 1 := ⟨gk - 1, by omega⟩
              obtain ⟨s, hs⟩ := mlist_at os k (by rw [HM.out]; omega)
              obtain ⟨ad', e, hc⟩ := (HX.out.below HBV.out).os.at_ hs
              obtain rfl := Option.some.inj e
              obtain ⟨y0, _⟩ := s
              have hc0 := hc.c0
              simp only at hc0
              have hcI := (HATI.out V HBV.out).c0
              simp only at hcI
              have hidK : (os.map Ld.O.id)[k]? = some y0 := by rw [List.getElem?_map, hs]; rfl
              have HU2 : Hid ((u || (y0 == a0)) = (t || ((os.map Ld.O.id).take (k + 1)).any (fun z => z == a0))) := by
                unfold Hid
                rw [Ld.any_snoc hidK]
                exact Ld.or_go HU.out
              have x3 := (HX.out.below HBV.out).c3
              have q0 : (0 : Int) ≤ (k : Int) := by omega
              have q1 : (k : Int) < (m : Int) := by omega
              clear hs hc hidK
              cases u with
              | true =>
                clear hc0 hcI
                go_wp2
                go_quiet (fail)
                go_wp2
                go_roundg gi
                case measure => omega
                case rel => exact ⟨_, k + 1, true, rfl, by omega, rfl, by first | rfl | go_num, below_drewN HBV.out _, HU2.out⟩
              | false =>
                cases g2 : (y0 == a0) with
                | true =>
                  rw [g2] at HU2
                  go_wp2
                  go_quiet (fail)
                  go_wp2
                  go_roundg gi
                  case measure => omega
                  case rel => exact ⟨_, k + 1, true, rfl, by omega, rfl, by first | rfl | go_num, below_drewN HBV.out _, HU2.out⟩
                | false =>
                  rw [g2] at HU2
                  go_wp2
                  go_quiet (fail)
                  go_wp2
                  go_roundg gi
                  case measure => omega
                  case rel => exact ⟨_, k + 1, false, rfl, by omega, rfl, by first | rfl | go_num, below_drewN HBV.out _, HU2.out⟩
            · obtain rfl : k = i := by omega
              have HU3 : Hid (u = Ld.twB ((os.map Ld.O.id).take (k + 1))) := by unfold Hid; rw [HSN.out, ← HT.out]; exact HU.out
              clear hki
              go_wp2
              go_roundg go
              case measure => omega
              case rel => exact ⟨_, k + 1, u, rfl, by omega, rfl, by first | rfl | go_num, HBV.out, HALL2.out, HU3.out⟩
    · obtain rfl : i = m := by omega
      have HALLO := Lib.hid (Ld.all_full (by rw [HM.out]; exact Nat.le_refl _) HALL.out)
      have HTO : Hid (t = Ld.twB (os.map Ld.O.id)) := by
        unfold Hid
        rw [HT.out, List.take_of_length_le (by rw [List.length_map, HM.out]; exact Nat.le_refl _)]
      have x3 := HXW.out.c3
      have HBE := Lib.hid HB.out
      clear HALL HT hlt
      go_wp2_with fail
      clear x3 HXW
      generalize t = t0 at *
      go_loopg [3, 6] n (fun gk s3 s4 Wx => ∃ (W : World) (i : Nat) (t : Bool), W = Wx ∧ i + gk = n ∧ s3 = .bool t ∧ s4 = .int .i64 i ∧ Hid (Below w1.heap.size w1 W) ∧ Hid ((ts.take i).all Ld.tB = true) ∧ Hid (t = (t0 || Ld.twB ((ts.map Ld.T.id).take i))))
      case atStart => exact ⟨_, 0, t0, rfl, by omega, rfl, rfl, HBE.out, rfl, by unfold Hid; cases t0 <;> rfl⟩
      case round =>
        obtain ⟨W, i, t, rfl, hig, rfl, rfl, HB, HALL, HT⟩ := hrel
        have HXW := Lib.hid (HX.out.below HB.out)
        by_cases hlt : i < n
        · obtain ⟨go, rfl⟩ : ∃ j, gk = j + 1 := ⟨gk - 1, by omega⟩
          obtain ⟨s, hs⟩ := mlist_at ts i (by rw [HK.out]; exact hlt)
          obtain ⟨bd, rfl, hc⟩ := HXW.out.ts.at_ hs
          have HATI : Hid (∀ U : World, Below w1.heap.size w1 U → TAt U (bd.add (i * 7)) s) := fun U hb => by
            obtain ⟨ad', e, hc'⟩ := (HX.out.below hb).ts.at_ hs
            obtain rfl := Option.some.inj e
            exact hc'
          obtain ⟨c0, c1, c2, c3, c4, c5, c6⟩ := hc
          obtain ⟨a0, a1, a2, a3, a4, a5, a6⟩ := s
          simp only at c0 c1 c2 c3 c4 c5 c6
          have hidI : (ts.map Ld.T.id)[i]? = some a0 := by rw [List.getElem?_map, hs]; rfl
          have HSN := Lib.hid (Ld.tw_snoc hidI)
          clear hidI
          have x3 := HXW.out.c4
          have i0 : (0 : Int) ≤ (i : Int) := by omega
          have i1 : (i : Int) < (n : Int) := by omega
          have hB := HB.out.drew
          have HCE : Hid (∀ U, Below w1.heap.size w1 U → U.cell? ⟨w.heap.size, 4, none⟩ = some (.slice (some bd) n d) ∧ U.cell? (bd.add (i * 7)) = some (.int .i64 a0) ∧ U.cell? ⟨(bd.add (i * 7)).block, (bd.add (i * 7)).off + 1, none⟩ = some (.int .i64 a1) ∧ U.cell? ⟨(bd.add (i * 7)).block, (bd.add (i * 7)).off + 2, none⟩ = some (.int .i64 a2) ∧ U.cell? ⟨(bd.add (i * 7)).block, (bd.add (i * 7)).off + 3, none⟩ = some (.int .i64 a3) ∧ U.cell? ⟨(bd.add (i * 7)).block, (bd.add (i * 7)).off + 4, none⟩ = some (.int .i64 a4) ∧ U.cell? ⟨(bd.add (i * 7)).block, (bd.add (i * 7)).off + 5, none⟩ = some (.int .i64 a5) ∧ U.cell? ⟨(bd.add (i * 7)).block, (bd.add (i * 7)).off + 6, none⟩ = some (.int .i64 a6) ∧ Below w1.heap.size w1 U) := fun U hb => ⟨(HX.out.below hb).c4, (HATI.out U hb).c0, (HATI.out U hb).c1, (HATI.out U hb).c2, (HATI.out U hb).c3, (HATI.out U hb).c4, (HATI.out U hb).c5, (HATI.out U hb).c6, hb⟩
          cases g1 : Ld.tB ⟨a0, a1, a2, a3, a4, a5, a6⟩ with
          | false =>
              have HR2 := Lib.hid (Ld.world_arg (N := N) l1.out l2.out (.inr (Ld.all_stop (p := Ld.tB) hs g1)))
              have HC : Hid (Calls Tryz.prog 120 #[.agg #[.int .i64 a0, .int .i64 a1, .int .i64 a2, .int .i64 a3, .int .i64 a4, .int .i64 a5, .int .i64 a6]] W fun e U => e = .returned (.int .i64 1) ∧ Hid (Below w1.heap.size w1 U)) :=
                (rtruck_any ⟨a0, a1, a2, a3, a4, a5, a6⟩ W 1 (Ld.tE_no g1)).mono fun _ _ ⟨e1, e2⟩ => ⟨e1, below_next HB.out e2.out⟩
              clear hs g1
              go_wp2_with fail
              with_reducible refine HC.out.mono ?_
              rintro e w7 ⟨rfl, KB⟩
              clear x3 c0 c1 c2 c3 c4 c5 c6 hB HC
              go_wp2
              go_ret
              exact ⟨by rw [← HR.out, HR2.out]; rfl, below_next HB0.out KB.out⟩
          | true =>
              have HALL2 := Lib.hid (Ld.all_snoc (p := Ld.tB) hs HALL.out g1)
              have HC : Hid (Calls Tryz.prog 120 #[.agg #[.int .i64 a0, .int .i64 a1, .int .i64 a2, .int .i64 a3, .int .i64 a4, .int .i64 a5, .int .i64 a6]] W fun e U => e = .returned (.int .i64 0) ∧ Hid (Below w1.heap.size w1 U)) :=
                (rtruck_any ⟨a0, a1, a2, a3, a4, a5, a6⟩ W 0 (Ld.tE_yes g1)).mono fun _ _ ⟨e1, e2⟩ => ⟨e1, below_next HB.out e2.out⟩
              clear hs g1
              go_wp2_with fail
              with_reducible refine HC.out.mono ?_
              rintro e w7 ⟨rfl, KB⟩
              clear x3 c0 c1 c2 c3 c4 c5 c6 hB HC
              clear HXW HCE
              go_wp2
              go_loopg [3, 7] i (fun gk s3 s5 Wx => ∃ (V : World) (k : Nat) (u : Bool), V = Wx ∧ k + gk = i ∧ s3 = .bool u ∧ s5 = .int .i64 k ∧ Hid (Below w1.heap.size w1 V) ∧ Hid (u = (t || ((ts.map Ld.T.id).take k).any (fun z => z == a0))))
              case atStart => exact ⟨_, 0, t, rfl, by omega, rfl, rfl, KB.out, by unfold Hid; cases t <;> rfl⟩
              case round =>
                obtain ⟨V, k, u, rfl, hkg, rfl, rfl, HBV, HU⟩ := hrel
                by_cases hki : k < i
                · obtain ⟨gi, rfl⟩ : ∃ j, gk = j + 1 := ⟨gk - 1, by omega⟩
                  obtain ⟨s, hs⟩ := mlist_at ts k (by rw [HK.out]; omega)
                  obtain ⟨ad', e, hc⟩ := (HX.out.below HBV.out).ts.at_ hs
                  obtain rfl := Option.some.inj e
                  obtain ⟨y0, _⟩ := s
                  have hc0 := hc.c0
                  simp only at hc0
                  have hcI := (HATI.out V HBV.out).c0
                  simp only at hcI
                  have hidK : (ts.map Ld.T.id)[k]? = some y0 := by rw [List.getElem?_map, hs]; rfl
                  have HU2 : Hid ((u || (y0 == a0)) = (t || ((ts.map Ld.T.id).take (k + 1)).any (fun z => z == a0))) := by
                    unfold Hid
                    rw [Ld.any_snoc hidK]
                    exact Ld.or_go HU.out
                  have x3 := (HX.out.below HBV.out).c4
                  have q0 : (0 : Int) ≤ (k : Int) := by omega
                  have q1 : (k : Int) < (n : Int) := by omega
                  clear hs hc hidK
                  cases u with
                  | true =>
                    clear hc0 hcI
                    go_wp2
                    go_quiet (fail)
                    go_wp2
                    go_roundg gi
                    case measure => omega
                    case rel => exact ⟨_, k + 1, true, rfl, by omega, rfl, by first | rfl | go_num, below_drewN HBV.out _, HU2.out⟩
                  | false =>
                    cases g2 : (y0 == a0) with
                    | true =>
                      rw [g2] at HU2
                      go_wp2
                      go_quiet (fail)
                      go_wp2
                      go_roundg gi
                      case measure => omega
                      case rel => exact ⟨_, k + 1, true, rfl, by omega, rfl, by first | rfl | go_num, below_drewN HBV.out _, HU2.out⟩
                    | false =>
                      rw [g2] at HU2
                      go_wp2
                      go_quiet (fail)
                      go_wp2
                      go_roundg gi
                      case measure => omega
                      case rel => exact ⟨_, k + 1, false, rfl, by omega, rfl, by first | rfl | go_num, below_drewN HBV.out _, HU2.out⟩
                · obtain rfl : k = i := by omega
                  have HU3 : Hid (u = (t0 || Ld.twB ((ts.map Ld.T.id).take (k + 1)))) := by unfold Hid; rw [HSN.out, HU.out, HT.out, Bool.or_assoc]
                  clear hki
                  go_wp2
                  go_roundg go
                  case measure => omega
                  case rel => exact ⟨_, k + 1, u, rfl, by omega, rfl, by first | rfl | go_num, HBV.out, HALL2.out, HU3.out⟩
        · obtain rfl : i = n := by omega
          have HALLT := Lib.hid (Ld.all_full (by rw [HK.out]; exact Nat.le_refl _) HALL.out)
          have HTT : Hid (t = (Ld.twB (os.map Ld.O.id) || Ld.twB (ts.map Ld.T.id))) := by
            unfold Hid
            rw [HT.out, List.take_of_length_le (by rw [List.length_map, HK.out]; exact Nat.le_refl _), HTO.out]
          have x4 := HXW.out.c4
          clear HALL HT hlt
          cases t with
          | true =>
            have HR2 := Lib.hid (Ld.world_two (N := N) l1.out l2.out HALLO.out HALLT.out (by have := HTT.out; rwa [eq_comm, Bool.or_eq_true] at this))
            go_wp2
            go_ret
            exact ⟨by rw [← HR.out, HR2.out]; rfl, below_next HB0.out HB.out⟩
          | false =>
            have hno : Ld.twB (os.map Ld.O.id) = false ∧ Ld.twB (ts.map Ld.T.id) = false := by have := HTT.out; rwa [eq_comm, Bool.or_eq_false_iff] at this
            have HR2 := Lib.hid (Ld.world_ok (N := N) l1.out l2.out HALLO.out HALLT.out hno.1 hno.2)
            clear hno
            go_wp2
            go_ret
            exact ⟨by rw [← HR.out, HR2.out]; rfl, below_next HB0.out HB.out⟩
end Go.Proofs.YtgjmlnpfkmpfgaaGreat
end
