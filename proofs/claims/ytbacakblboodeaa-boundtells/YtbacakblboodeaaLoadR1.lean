/- Contracts of the document's Order, Truck, Find. -/
import Derived.Test.YtbacakblboodeaaLoadRow
namespace Go.Proofs.Ytbacakblboodeaa
open Go.RowKit
set_option linter.unusedVariables false

set_option maxHeartbeats 4000000 in
theorem rorder_val (a0 a1 a2 a3 a4 a5 a6 a7 n : Int) (w : World) :
    Calls Try.prog 78 #[.agg #[.int .i64 a0, .int .i64 a1, .int .i64 a2, .int .i64 a3, .int .i64 a4, .int .i64 a5, .int .i64 a6, .int .i64 a7], .int .i64 n] w fun e w' => e = .returned (.int .i64 (Ld.oE ⟨a0, a1, a2, a3, a4, a5, a6, a7⟩ n)) ∧ Below w.heap.size w w' := by
  by_cases t0 : a0 < 1
  · have HR := Lib.hid (Ld.oB_not (o := ⟨a0, a1, a2, a3, a4, a5, a6, a7⟩) (n := n) fun h => by have h0 : 1 ≤ a0 := h.id0; omega)
    have d0 : decide (a0 < 1) = true := decide_eq_true t0
    go_enter Try.func78, Try.ntmps78
    go_wp2
    go_ret
    exact ⟨by rw [HR.out]; rfl, below_alloc _ _⟩
  have d0 : decide (a0 < 1) = false := decide_eq_false t0
  by_cases t1 : 1000000 < a0
  · have HR := Lib.hid (Ld.oB_not (o := ⟨a0, a1, a2, a3, a4, a5, a6, a7⟩) (n := n) fun h => by have h0 : a0 ≤ 1000000 := h.id1; omega)
    have d1 : decide (1000000 < a0) = true := decide_eq_true t1
    go_enter Try.func78, Try.ntmps78
    go_wp2
    go_ret
    exact ⟨by rw [HR.out]; rfl, below_alloc _ _⟩
  have d1 : decide (1000000 < a0) = false := decide_eq_false t1
  by_cases t2 : a1 < 0
  · have HR := Lib.hid (Ld.oB_not (o := ⟨a0, a1, a2, a3, a4, a5, a6, a7⟩) (n := n) fun h => by have h0 : 0 ≤ a1 := h.ow0; omega)
    have d2 : decide (a1 < 0) = true := decide_eq_true t2
    go_enter Try.func78, Try.ntmps78
    go_wp2
    go_ret
    exact ⟨by rw [HR.out]; rfl, below_alloc _ _⟩
  have d2 : decide (a1 < 0) = false := decide_eq_false t2
  by_cases t3 : 31 < a1
  · have HR := Lib.hid (Ld.oB_not (o := ⟨a0, a1, a2, a3, a4, a5, a6, a7⟩) (n := n) fun h => by have h0 : a1 ≤ 31 := h.ow1; omega)
    have d3 : decide (31 < a1) = true := decide_eq_true t3
    go_enter Try.func78, Try.ntmps78
    go_wp2
    go_ret
    exact ⟨by rw [HR.out]; rfl, below_alloc _ _⟩
  have d3 : decide (31 < a1) = false := decide_eq_false t3
  by_cases t4 : a2 < 1
  · have HR := Lib.hid (Ld.oB_not (o := ⟨a0, a1, a2, a3, a4, a5, a6, a7⟩) (n := n) fun h => by have h0 : 1 ≤ a2 := h.no0; omega)
    have d4 : decide (a2 < 1) = true := decide_eq_true t4
    go_enter Try.func78, Try.ntmps78
    go_wp2
    go_ret
    exact ⟨by rw [HR.out]; rfl, below_alloc _ _⟩
  have d4 : decide (a2 < 1) = false := decide_eq_false t4
  by_cases t5 : n ≤ a2
  · have HR := Lib.hid (Ld.oB_not (o := ⟨a0, a1, a2, a3, a4, a5, a6, a7⟩) (n := n) fun h => by have h0 : a2 < n := h.no1; omega)
    have d5 : decide (n ≤ a2) = true := decide_eq_true t5
    go_enter Try.func78, Try.ntmps78
    go_wp2
    go_ret
    exact ⟨by rw [HR.out]; rfl, below_alloc _ _⟩
  have d5 : decide (n ≤ a2) = false := decide_eq_false t5
  by_cases t6 : a3 < 1
  · have HR := Lib.hid (Ld.oB_not (o := ⟨a0, a1, a2, a3, a4, a5, a6, a7⟩) (n := n) fun h => by have h0 : 1 ≤ a3 := h.we0; omega)
    have d6 : decide (a3 < 1) = true := decide_eq_true t6
    go_enter Try.func78, Try.ntmps78
    go_wp2
    go_ret
    exact ⟨by rw [HR.out]; rfl, below_alloc _ _⟩
  have d6 : decide (a3 < 1) = false := decide_eq_false t6
  by_cases t7 : 1000000 < a3
  · have HR := Lib.hid (Ld.oB_not (o := ⟨a0, a1, a2, a3, a4, a5, a6, a7⟩) (n := n) fun h => by have h0 : a3 ≤ 1000000 := h.we1; omega)
    have d7 : decide (1000000 < a3) = true := decide_eq_true t7
    go_enter Try.func78, Try.ntmps78
    go_wp2
    go_ret
    exact ⟨by rw [HR.out]; rfl, below_alloc _ _⟩
  have d7 : decide (1000000 < a3) = false := decide_eq_false t7
  by_cases t8 : a4 < 1
  · have HR := Lib.hid (Ld.oB_not (o := ⟨a0, a1, a2, a3, a4, a5, a6, a7⟩) (n := n) fun h => by have h0 : 1 ≤ a4 := h.vo0; omega)
    have d8 : decide (a4 < 1) = true := decide_eq_true t8
    go_enter Try.func78, Try.ntmps78
    go_wp2
    go_ret
    exact ⟨by rw [HR.out]; rfl, below_alloc _ _⟩
  have d8 : decide (a4 < 1) = false := decide_eq_false t8
  by_cases t9 : 1000000 < a4
  · have HR := Lib.hid (Ld.oB_not (o := ⟨a0, a1, a2, a3, a4, a5, a6, a7⟩) (n := n) fun h => by have h0 : a4 ≤ 1000000 := h.vo1; omega)
    have d9 : decide (1000000 < a4) = true := decide_eq_true t9
    go_enter Try.func78, Try.ntmps78
    go_wp2
    go_ret
    exact ⟨by rw [HR.out]; rfl, below_alloc _ _⟩
  have d9 : decide (1000000 < a4) = false := decide_eq_false t9
  by_cases t10 : a5 < 0
  · have HR := Lib.hid (Ld.oB_not (o := ⟨a0, a1, a2, a3, a4, a5, a6, a7⟩) (n := n) fun h => by have h0 : 0 ≤ a5 := h.fr0; omega)
    have d10 : decide (a5 < 0) = true := decide_eq_true t10
    go_enter Try.func78, Try.ntmps78
    go_wp2
    go_ret
    exact ⟨by rw [HR.out]; rfl, below_alloc _ _⟩
  have d10 : decide (a5 < 0) = false := decide_eq_false t10
  by_cases t11 : a6 < a5
  · have HR := Lib.hid (Ld.oB_not (o := ⟨a0, a1, a2, a3, a4, a5, a6, a7⟩) (n := n) fun h => by have h0 : a5 ≤ a6 := h.fr1; omega)
    have d11 : decide (a6 < a5) = true := decide_eq_true t11
    go_enter Try.func78, Try.ntmps78
    go_wp2
    go_ret
    exact ⟨by rw [HR.out]; rfl, below_alloc _ _⟩
  have d11 : decide (a6 < a5) = false := decide_eq_false t11
  by_cases t12 : 1000000 < a6
  · have HR := Lib.hid (Ld.oB_not (o := ⟨a0, a1, a2, a3, a4, a5, a6, a7⟩) (n := n) fun h => by have h0 : a6 ≤ 1000000 := h.to1; omega)
    have d12 : decide (1000000 < a6) = true := decide_eq_true t12
    go_enter Try.func78, Try.ntmps78
    go_wp2
    go_ret
    exact ⟨by rw [HR.out]; rfl, below_alloc _ _⟩
  have d12 : decide (1000000 < a6) = false := decide_eq_false t12
  by_cases t13 : a7 < 0
  · have HR := Lib.hid (Ld.oB_not (o := ⟨a0, a1, a2, a3, a4, a5, a6, a7⟩) (n := n) fun h => by have h0 : 0 ≤ a7 := h.se0; omega)
    have d13 : decide (a7 < 0) = true := decide_eq_true t13
    go_enter Try.func78, Try.ntmps78
    go_wp2
    go_ret
    exact ⟨by rw [HR.out]; rfl, below_alloc _ _⟩
  have d13 : decide (a7 < 0) = false := decide_eq_false t13
  by_cases t14 : 10000 < a7
  · have HR := Lib.hid (Ld.oB_not (o := ⟨a0, a1, a2, a3, a4, a5, a6, a7⟩) (n := n) fun h => by have h0 : a7 ≤ 10000 := h.se1; omega)
    have d14 : decide (10000 < a7) = true := decide_eq_true t14
    go_enter Try.func78, Try.ntmps78
    go_wp2
    go_ret
    exact ⟨by rw [HR.out]; rfl, below_alloc _ _⟩
  have d14 : decide (10000 < a7) = false := decide_eq_false t14
  have HR := Lib.hid (Ld.oB_ok (o := ⟨a0, a1, a2, a3, a4, a5, a6, a7⟩) (n := n) ⟨by show 1 ≤ a0; omega, by show a0 ≤ 1000000; omega, by show 0 ≤ a1; omega, by show a1 ≤ 31; omega, by show 1 ≤ a2; omega, by show a2 < n; omega, by show 1 ≤ a3; omega, by show a3 ≤ 1000000; omega, by show 1 ≤ a4; omega, by show a4 ≤ 1000000; omega, by show 0 ≤ a5; omega, by show a5 ≤ a6; omega, by show a6 ≤ 1000000; omega, by show 0 ≤ a7; omega, by show a7 ≤ 10000; omega⟩)
  go_enter Try.func78, Try.ntmps78
  go_wp2
  go_ret
  exact ⟨by rw [HR.out]; rfl, below_alloc _ _⟩

set_option maxHeartbeats 4000000 in
theorem rtruck_val (a0 a1 a2 a3 a4 a5 a6 : Int) (w : World) :
    Calls Try.prog 79 #[.agg #[.int .i64 a0, .int .i64 a1, .int .i64 a2, .int .i64 a3, .int .i64 a4, .int .i64 a5, .int .i64 a6]] w fun e w' => e = .returned (.int .i64 (Ld.tE ⟨a0, a1, a2, a3, a4, a5, a6⟩)) ∧ Below w.heap.size w w' := by
  by_cases t0 : a0 < 1
  · have HR := Lib.hid (Ld.tB_not (t := ⟨a0, a1, a2, a3, a4, a5, a6⟩) fun h => by have h0 : 1 ≤ a0 := h.id0; omega)
    have d0 : decide (a0 < 1) = true := decide_eq_true t0
    go_enter Try.func79, Try.ntmps79
    go_wp2
    go_ret
    exact ⟨by rw [HR.out]; rfl, below_alloc _ _⟩
  have d0 : decide (a0 < 1) = false := decide_eq_false t0
  by_cases t1 : 1000000 < a0
  · have HR := Lib.hid (Ld.tB_not (t := ⟨a0, a1, a2, a3, a4, a5, a6⟩) fun h => by have h0 : a0 ≤ 1000000 := h.id1; omega)
    have d1 : decide (1000000 < a0) = true := decide_eq_true t1
    go_enter Try.func79, Try.ntmps79
    go_wp2
    go_ret
    exact ⟨by rw [HR.out]; rfl, below_alloc _ _⟩
  have d1 : decide (1000000 < a0) = false := decide_eq_false t1
  by_cases t2 : a1 < 1
  · have HR := Lib.hid (Ld.tB_not (t := ⟨a0, a1, a2, a3, a4, a5, a6⟩) fun h => by have h0 : 1 ≤ a1 := h.we0; omega)
    have d2 : decide (a1 < 1) = true := decide_eq_true t2
    go_enter Try.func79, Try.ntmps79
    go_wp2
    go_ret
    exact ⟨by rw [HR.out]; rfl, below_alloc _ _⟩
  have d2 : decide (a1 < 1) = false := decide_eq_false t2
  by_cases t3 : 1000000 < a1
  · have HR := Lib.hid (Ld.tB_not (t := ⟨a0, a1, a2, a3, a4, a5, a6⟩) fun h => by have h0 : a1 ≤ 1000000 := h.we1; omega)
    have d3 : decide (1000000 < a1) = true := decide_eq_true t3
    go_enter Try.func79, Try.ntmps79
    go_wp2
    go_ret
    exact ⟨by rw [HR.out]; rfl, below_alloc _ _⟩
  have d3 : decide (1000000 < a1) = false := decide_eq_false t3
  by_cases t4 : a2 < 1
  · have HR := Lib.hid (Ld.tB_not (t := ⟨a0, a1, a2, a3, a4, a5, a6⟩) fun h => by have h0 : 1 ≤ a2 := h.vo0; omega)
    have d4 : decide (a2 < 1) = true := decide_eq_true t4
    go_enter Try.func79, Try.ntmps79
    go_wp2
    go_ret
    exact ⟨by rw [HR.out]; rfl, below_alloc _ _⟩
  have d4 : decide (a2 < 1) = false := decide_eq_false t4
  by_cases t5 : 1000000 < a2
  · have HR := Lib.hid (Ld.tB_not (t := ⟨a0, a1, a2, a3, a4, a5, a6⟩) fun h => by have h0 : a2 ≤ 1000000 := h.vo1; omega)
    have d5 : decide (1000000 < a2) = true := decide_eq_true t5
    go_enter Try.func79, Try.ntmps79
    go_wp2
    go_ret
    exact ⟨by rw [HR.out]; rfl, below_alloc _ _⟩
  have d5 : decide (1000000 < a2) = false := decide_eq_false t5
  by_cases t6 : a3 < 0
  · have HR := Lib.hid (Ld.tB_not (t := ⟨a0, a1, a2, a3, a4, a5, a6⟩) fun h => by have h0 : 0 ≤ a3 := h.st0; omega)
    have d6 : decide (a3 < 0) = true := decide_eq_true t6
    go_enter Try.func79, Try.ntmps79
    go_wp2
    go_ret
    exact ⟨by rw [HR.out]; rfl, below_alloc _ _⟩
  have d6 : decide (a3 < 0) = false := decide_eq_false t6
  by_cases t7 : a4 < a3
  · have HR := Lib.hid (Ld.tB_not (t := ⟨a0, a1, a2, a3, a4, a5, a6⟩) fun h => by have h0 : a3 ≤ a4 := h.st1; omega)
    have d7 : decide (a4 < a3) = true := decide_eq_true t7
    go_enter Try.func79, Try.ntmps79
    go_wp2
    go_ret
    exact ⟨by rw [HR.out]; rfl, below_alloc _ _⟩
  have d7 : decide (a4 < a3) = false := decide_eq_false t7
  by_cases t8 : 1000000 < a4
  · have HR := Lib.hid (Ld.tB_not (t := ⟨a0, a1, a2, a3, a4, a5, a6⟩) fun h => by have h0 : a4 ≤ 1000000 := h.fi1; omega)
    have d8 : decide (1000000 < a4) = true := decide_eq_true t8
    go_enter Try.func79, Try.ntmps79
    go_wp2
    go_ret
    exact ⟨by rw [HR.out]; rfl, below_alloc _ _⟩
  have d8 : decide (1000000 < a4) = false := decide_eq_false t8
  by_cases t9 : a5 < 0
  · have HR := Lib.hid (Ld.tB_not (t := ⟨a0, a1, a2, a3, a4, a5, a6⟩) fun h => by have h0 : 0 ≤ a5 := h.fx0; omega)
    have d9 : decide (a5 < 0) = true := decide_eq_true t9
    go_enter Try.func79, Try.ntmps79
    go_wp2
    go_ret
    exact ⟨by rw [HR.out]; rfl, below_alloc _ _⟩
  have d9 : decide (a5 < 0) = false := decide_eq_false t9
  by_cases t10 : 1000000 < a5
  · have HR := Lib.hid (Ld.tB_not (t := ⟨a0, a1, a2, a3, a4, a5, a6⟩) fun h => by have h0 : a5 ≤ 1000000 := h.fx1; omega)
    have d10 : decide (1000000 < a5) = true := decide_eq_true t10
    go_enter Try.func79, Try.ntmps79
    go_wp2
    go_ret
    exact ⟨by rw [HR.out]; rfl, below_alloc _ _⟩
  have d10 : decide (1000000 < a5) = false := decide_eq_false t10
  by_cases t11 : a6 < 0
  · have HR := Lib.hid (Ld.tB_not (t := ⟨a0, a1, a2, a3, a4, a5, a6⟩) fun h => by have h0 : 0 ≤ a6 := h.ra0; omega)
    have d11 : decide (a6 < 0) = true := decide_eq_true t11
    go_enter Try.func79, Try.ntmps79
    go_wp2
    go_ret
    exact ⟨by rw [HR.out]; rfl, below_alloc _ _⟩
  have d11 : decide (a6 < 0) = false := decide_eq_false t11
  by_cases t12 : 1000 < a6
  · have HR := Lib.hid (Ld.tB_not (t := ⟨a0, a1, a2, a3, a4, a5, a6⟩) fun h => by have h0 : a6 ≤ 1000 := h.ra1; omega)
    have d12 : decide (1000 < a6) = true := decide_eq_true t12
    go_enter Try.func79, Try.ntmps79
    go_wp2
    go_ret
    exact ⟨by rw [HR.out]; rfl, below_alloc _ _⟩
  have d12 : decide (1000 < a6) = false := decide_eq_false t12
  have HR := Lib.hid (Ld.tB_ok (t := ⟨a0, a1, a2, a3, a4, a5, a6⟩) ⟨by show 1 ≤ a0; omega, by show a0 ≤ 1000000; omega, by show 1 ≤ a1; omega, by show a1 ≤ 1000000; omega, by show 1 ≤ a2; omega, by show a2 ≤ 1000000; omega, by show 0 ≤ a3; omega, by show a3 ≤ a4; omega, by show a4 ≤ 1000000; omega, by show 0 ≤ a5; omega, by show a5 ≤ 1000000; omega, by show 0 ≤ a6; omega, by show a6 ≤ 1000; omega⟩)
  go_enter Try.func79, Try.ntmps79
  go_wp2
  go_ret
  exact ⟨by rw [HR.out]; rfl, below_alloc _ _⟩

theorem rorder_any (o : Ld.O) (n : Int) (w : World) (r : Int) (hr : Ld.oE o n = r) :
    Calls Try.prog 78 #[.agg #[.int .i64 o.id, .int .i64 o.owner, .int .i64 o.node, .int .i64 o.weight, .int .i64 o.volume, .int .i64 o.frm, .int .i64 o.to, .int .i64 o.service], .int .i64 n] w fun e w' => e = .returned (.int .i64 r) ∧ Hid (Below w.heap.size w w') := by
  subst hr
  exact rorder_val _ _ _ _ _ _ _ _ n w
theorem rtruck_any (t : Ld.T) (w : World) (r : Int) (hr : Ld.tE t = r) :
    Calls Try.prog 79 #[.agg #[.int .i64 t.id, .int .i64 t.weight, .int .i64 t.volume, .int .i64 t.start, .int .i64 t.fin, .int .i64 t.fixed, .int .i64 t.rate]] w fun e w' => e = .returned (.int .i64 r) ∧ Hid (Below w.heap.size w w') := by
  subst hr
  exact rtruck_val _ _ _ _ _ _ _ w

set_option maxHeartbeats 1000000 in
theorem rfind_val (A : Option Addr) (m c : Nat) (l : List Ld.O) (id : Int) (w : World) (r : Int) (hr : Ld.findI (l.map Ld.O.id) id = r) (hm : l.length = m) (hm2 : m ≤ 1000) (hl : OrdersAt w A l) :
    Calls Try.prog 55 #[.slice A m c, .int .i64 id] w fun e w' => e = .returned (.int .i64 r) ∧ Hid (Below w.heap.size w w') := by
  have HL := Lib.hid hl
  have HM := Lib.hid hm
  have HY : Hid (∀ k : Nat, m ≤ k → (∀ j, j < k → (l.map Ld.O.id)[j]? ≠ some id) → r = -1) := fun k hk h => by
    rw [← hr]
    exact Ld.find_none fun j hj => h j (by rw [List.length_map] at hj; omega)
  have HN : Hid (∀ k : Nat, (l.map Ld.O.id)[k]? = some id → (∀ j, j < k → (l.map Ld.O.id)[j]? ≠ some id) → r = (k : Int)) := fun k h1 h2 => by
    rw [← hr]
    exact Ld.find_at h1 h2
  clear hl hm hr
  go_enter Try.func55, Try.ntmps55
  go_wp2_with fail
  go_loopg [4, 5] m (fun gk s4 s5 W => ∃ (k : Nat), k + gk = m ∧ s4 = .int .i64 0 ∧ s5 = .int .i64 k ∧ W = w ∧ Hid (∀ j, j < k → (l.map Ld.O.id)[j]? ≠ some id))
  case atStart => exact ⟨0, by omega, rfl, rfl, rfl, fun j hj => by omega⟩
  case round =>
    obtain ⟨k, hkg, rfl, rfl, rfl, HK⟩ := hrel
    by_cases hlt : k < m
    · obtain ⟨gk, rfl⟩ : ∃ j, gk = j + 1 := ⟨gk - 1, by omega⟩
      obtain ⟨s, hs⟩ := mlist_at l k (by rw [HM.out]; exact hlt)
      obtain ⟨ad, rfl, hc⟩ := HL.out.at_ hs
      obtain ⟨c0, c1, c2, c3, c4, c5, c6, c7⟩ := hc
      obtain ⟨a0, a1, a2, a3, a4, a5, a6, a7⟩ := s
      simp only at c0 c1 c2 c3 c4 c5 c6 c7
      have hid : (l.map Ld.O.id)[k]? = some a0 := by rw [List.getElem?_map, hs]; rfl
      have HI := Lib.hid hid
      clear hs hid c1 c2 c3 c4 c5 c6 c7
      by_cases h1 : a0 = id
      · subst h1
        have d1 : (a0 == a0) = true := by simp
        have HR := Lib.hid (HN.out k HI.out HK.out)
        go_wp2
        go_ret
        exact ⟨by rw [HR.out]; rfl, Below.refl _ _⟩
      · have d1 : (a0 == id) = false := by simp [h1]
        have HK2 : Hid (∀ j, j < k + 1 → (l.map Ld.O.id)[j]? ≠ some id) := fun j hj => by
          by_cases h : j < k
          · exact HK.out j h
          · obtain rfl : j = k := by omega
            rw [HI.out]
            intro e
            exact h1 (Option.some.inj e)
        go_wp2
        go_roundg gk
        case measure => omega
        case rel => exact ⟨k + 1, by omega, rfl, by first | rfl | go_num, rfl, HK2.out⟩
    · have HR := Lib.hid (HY.out k (by omega) HK.out)
      have hk : k = m := by omega
      subst hk
      go_wp2
      go_ret
      exact ⟨by rw [HR.out]; rfl, Below.refl _ _⟩
end Go.Proofs.Ytbacakblboodeaa
