/- The law's own wake-up call over package load returns true. -/
import Derived.Test.YtgdgdalegoabpaaLoadS
namespace Go.Proofs.Ytgdgdalegoabpaa
open Go.RowKit
set_option linter.unusedVariables false

theorem orders_new (W : World) (b : Nat) (cs : Array Value) (t : TypeId) (l : List Ld.O) (hb : b = W.heap.size) (hcs : cs = ((l.flatMap Ld.O.ints).map (Value.int .i64)).toArray) : OrdersAt (W.alloc (.cells cs t)) (some ⟨b, 0, none⟩) l := by
  subst hb
  exact box_ints (Box.new W cs _) hcs
theorem trucks_new (W : World) (b : Nat) (cs : Array Value) (t : TypeId) (l : List Ld.T) (hb : b = W.heap.size) (hcs : cs = ((l.flatMap Ld.T.ints).map (Value.int .i64)).toArray) : TrucksAt (W.alloc (.cells cs t)) (some ⟨b, 0, none⟩) l := by
  subst hb
  exact box_ints (Box.new W cs _) hcs
theorem orders_nil (W : World) (A : Option Addr) : OrdersAt W A [] := IntsAt.nil _ _
theorem trucks_nil (W : World) (A : Option Addr) : TrucksAt W A [] := IntsAt.nil _ _
def wkO : Ld.O := ⟨7, 0, 1, 4, 5, 0, 9, 0⟩
def wkP : Ld.O := ⟨8, 0, 1, 7, 5, 0, 9, 0⟩
def wkT : Ld.T := ⟨1, 10, 10, 0, 9, 0, 0⟩
def AwB (V : World) (b0 b1 b2 : Nat) : Prop := Box V b0 #[.int .i64 7, .int .i64 0, .int .i64 1, .int .i64 4, .int .i64 5, .int .i64 0, .int .i64 9, .int .i64 0] 33 ∧ Box V b1 #[.int .i64 8, .int .i64 0, .int .i64 1, .int .i64 7, .int .i64 5, .int .i64 0, .int .i64 9, .int .i64 0] 33 ∧ Box V b2 #[.int .i64 1, .int .i64 10, .int .i64 10, .int .i64 0, .int .i64 9, .int .i64 0, .int .i64 0] 30
theorem AwB.below {V V' : World} {b0 b1 b2 : Nat} (h : AwB V b0 b1 b2) (hb : Below V.heap.size V V') : AwB V' b0 b1 b2 := ⟨h.1.below hb, h.2.1.below hb, h.2.2.below hb⟩
theorem AwB.new (w : World) : AwB (((w.alloc (.cells #[.int .i64 7, .int .i64 0, .int .i64 1, .int .i64 4, .int .i64 5, .int .i64 0, .int .i64 9, .int .i64 0] 33)).alloc (.cells #[.int .i64 8, .int .i64 0, .int .i64 1, .int .i64 7, .int .i64 5, .int .i64 0, .int .i64 9, .int .i64 0] 33)).alloc (.cells #[.int .i64 1, .int .i64 10, .int .i64 10, .int .i64 0, .int .i64 9, .int .i64 0, .int .i64 0] 30)) w.heap.size (w.heap.size + 1) (w.heap.size + 1 + 1) := by
  refine ⟨((Box.new w _ _).below (below_alloc _ _)).below (below_alloc _ _), ?_, ?_⟩
  · rw [size_one w (.cells #[.int .i64 7, .int .i64 0, .int .i64 1, .int .i64 4, .int .i64 5, .int .i64 0, .int .i64 9, .int .i64 0] 33)]
    exact (Box.new _ _ _).below (below_alloc _ _)
  · rw [size_one w (.cells #[.int .i64 7, .int .i64 0, .int .i64 1, .int .i64 4, .int .i64 5, .int .i64 0, .int .i64 9, .int .i64 0] 33), size_one (w.alloc (.cells #[.int .i64 7, .int .i64 0, .int .i64 1, .int .i64 4, .int .i64 5, .int .i64 0, .int .i64 9, .int .i64 0] 33)) (.cells #[.int .i64 8, .int .i64 0, .int .i64 1, .int .i64 7, .int .i64 5, .int .i64 0, .int .i64 9, .int .i64 0] 33)]
    exact Box.new _ _ _
theorem wk_sum : Ld.sumE [wkO, wkP] = (11, 10, 0) := by decide
theorem wk_o2 : Ld.oE wkO 2 = 0 := by decide
theorem wk_o1 : Ld.oE wkO 1 = 1 := by decide
theorem wk_t : Ld.tE wkT = 0 := by decide
theorem wk_t0 : Ld.tE ⟨0, 0, 0, 0, 0, 0, 0⟩ = 1 := by decide
theorem wk_c1 : Ld.carE wkT [wkO] = 0 := by decide
theorem wk_c2 : Ld.carE wkT [wkO, wkP] = 9 := by decide
theorem wk_f1 : Ld.findI ([wkO, wkP].map Ld.O.id) 8 = 1 := by decide
theorem wk_f0 : Ld.findI (([] : List Ld.O).map Ld.O.id) 8 = -1 := by decide
theorem wk_w0 : Ld.worldE 2 [wkO, wkP] [wkT] = 0 := by decide
theorem wk_w6 : Ld.worldE 2 [wkO, wkO] [] = 6 := by decide

set_option maxHeartbeats 4000000 in
set_option maxRecDepth 100000 in
theorem awake_any (w : World) : Calls Try.prog 6 #[] w fun e w' => e = .returned (.bool true) ∧ Below w.heap.size w w' := by
  have HV0 := Lib.hid (AwB.new w)
  have HB00 : Hid (Below w.heap.size w (((w.alloc (.cells #[.int .i64 7, .int .i64 0, .int .i64 1, .int .i64 4, .int .i64 5, .int .i64 0, .int .i64 9, .int .i64 0] 33)).alloc (.cells #[.int .i64 8, .int .i64 0, .int .i64 1, .int .i64 7, .int .i64 5, .int .i64 0, .int .i64 9, .int .i64 0] 33)).alloc (.cells #[.int .i64 1, .int .i64 10, .int .i64 10, .int .i64 0, .int .i64 9, .int .i64 0, .int .i64 0] 30))) := below_more (below_more (below_alloc _ _) _) _
  have HSZ : Hid (w.heap.size + 1 + 1 + 1 = (((w.alloc (.cells #[.int .i64 7, .int .i64 0, .int .i64 1, .int .i64 4, .int .i64 5, .int .i64 0, .int .i64 9, .int .i64 0] 33)).alloc (.cells #[.int .i64 8, .int .i64 0, .int .i64 1, .int .i64 7, .int .i64 5, .int .i64 0, .int .i64 9, .int .i64 0] 33)).alloc (.cells #[.int .i64 1, .int .i64 10, .int .i64 10, .int .i64 0, .int .i64 9, .int .i64 0, .int .i64 0] 30)).heap.size) := by unfold Hid; simp
  go_enter Try.func6, Try.ntmps6
  go_wp2_with fail
  generalize (((w.alloc (.cells #[.int .i64 7, .int .i64 0, .int .i64 1, .int .i64 4, .int .i64 5, .int .i64 0, .int .i64 9, .int .i64 0] 33)).alloc (.cells #[.int .i64 8, .int .i64 0, .int .i64 1, .int .i64 7, .int .i64 5, .int .i64 0, .int .i64 9, .int .i64 0] 33)).alloc (.cells #[.int .i64 1, .int .i64 10, .int .i64 10, .int .i64 0, .int .i64 9, .int .i64 0, .int .i64 0] 30)) = V at *
  generalize w.heap.size + 1 + 1 + 1 = b3 at *
  generalize w.heap.size + 1 + 1 = b2 at *
  generalize w.heap.size + 1 = b1 at *
  have HB : Hid (∀ W, Below V.heap.size V W → AwB W w.heap.size b1 b2) := fun W hb => HV0.out.below hb
  have HW : Hid (∀ W, Below V.heap.size V W → Below w.heap.size w W) := fun W hb => below_next HB00.out hb
  generalize w.heap.size = b0 at HB HV0 ⊢
  refine (sum_val (some ⟨b3, 0, none⟩) 2 2 [wkO, wkP] _ 11 10 0 wk_sum rfl (by omega) (orders_new V b3 _ _ _ HSZ.out rfl)).mono ?_
  rintro e w1 ⟨rfl, hb1⟩
  have HQ1 : Hid (Below V.heap.size V w1) := below_next (below_alloc _ _) hb1.out
  clear hb1
  have o0 : w1.cell? ⟨b0, 0, none⟩ = some (.int .i64 7) := (HB.out w1 HQ1.out).1.cell 0 _ rfl
  have o1 : w1.cell? ⟨b0, 1, none⟩ = some (.int .i64 0) := (HB.out w1 HQ1.out).1.cell 1 _ rfl
  have o2 : w1.cell? ⟨b0, 2, none⟩ = some (.int .i64 1) := (HB.out w1 HQ1.out).1.cell 2 _ rfl
  have o3 : w1.cell? ⟨b0, 3, none⟩ = some (.int .i64 4) := (HB.out w1 HQ1.out).1.cell 3 _ rfl
  have o4 : w1.cell? ⟨b0, 4, none⟩ = some (.int .i64 5) := (HB.out w1 HQ1.out).1.cell 4 _ rfl
  have o5 : w1.cell? ⟨b0, 5, none⟩ = some (.int .i64 0) := (HB.out w1 HQ1.out).1.cell 5 _ rfl
  have o6 : w1.cell? ⟨b0, 6, none⟩ = some (.int .i64 9) := (HB.out w1 HQ1.out).1.cell 6 _ rfl
  have o7 : w1.cell? ⟨b0, 7, none⟩ = some (.int .i64 0) := (HB.out w1 HQ1.out).1.cell 7 _ rfl
  go_wp2_with fail
  refine (order_any wkO 2 w1 0 wk_o2 (by omega)).mono ?_
  rintro e w2 ⟨rfl, hb2⟩
  have HQ2 : Hid (Below V.heap.size V w2) := below_next (HQ1.out) hb2.out
  clear hb2
  clear o0 o1 o2 o3 o4 o5 o6 o7
  have o0 : w2.cell? ⟨b0, 0, none⟩ = some (.int .i64 7) := (HB.out w2 HQ2.out).1.cell 0 _ rfl
  have o1 : w2.cell? ⟨b0, 1, none⟩ = some (.int .i64 0) := (HB.out w2 HQ2.out).1.cell 1 _ rfl
  have o2 : w2.cell? ⟨b0, 2, none⟩ = some (.int .i64 1) := (HB.out w2 HQ2.out).1.cell 2 _ rfl
  have o3 : w2.cell? ⟨b0, 3, none⟩ = some (.int .i64 4) := (HB.out w2 HQ2.out).1.cell 3 _ rfl
  have o4 : w2.cell? ⟨b0, 4, none⟩ = some (.int .i64 5) := (HB.out w2 HQ2.out).1.cell 4 _ rfl
  have o5 : w2.cell? ⟨b0, 5, none⟩ = some (.int .i64 0) := (HB.out w2 HQ2.out).1.cell 5 _ rfl
  have o6 : w2.cell? ⟨b0, 6, none⟩ = some (.int .i64 9) := (HB.out w2 HQ2.out).1.cell 6 _ rfl
  have o7 : w2.cell? ⟨b0, 7, none⟩ = some (.int .i64 0) := (HB.out w2 HQ2.out).1.cell 7 _ rfl
  go_wp2_with fail
  refine (order_any wkO 1 w2 1 wk_o1 (by omega)).mono ?_
  rintro e w3 ⟨rfl, hb3⟩
  have HQ3 : Hid (Below V.heap.size V w3) := below_next (HQ2.out) hb3.out
  clear hb3
  clear o0 o1 o2 o3 o4 o5 o6 o7
  have t0 : w3.cell? ⟨b2, 0, none⟩ = some (.int .i64 1) := (HB.out w3 HQ3.out).2.2.cell 0 _ rfl
  have t1 : w3.cell? ⟨b2, 1, none⟩ = some (.int .i64 10) := (HB.out w3 HQ3.out).2.2.cell 1 _ rfl
  have t2 : w3.cell? ⟨b2, 2, none⟩ = some (.int .i64 10) := (HB.out w3 HQ3.out).2.2.cell 2 _ rfl
  have t3 : w3.cell? ⟨b2, 3, none⟩ = some (.int .i64 0) := (HB.out w3 HQ3.out).2.2.cell 3 _ rfl
  have t4 : w3.cell? ⟨b2, 4, none⟩ = some (.int .i64 9) := (HB.out w3 HQ3.out).2.2.cell 4 _ rfl
  have t5 : w3.cell? ⟨b2, 5, none⟩ = some (.int .i64 0) := (HB.out w3 HQ3.out).2.2.cell 5 _ rfl
  have t6 : w3.cell? ⟨b2, 6, none⟩ = some (.int .i64 0) := (HB.out w3 HQ3.out).2.2.cell 6 _ rfl
  go_wp2_with fail
  refine (truck_any wkT w3 0 wk_t).mono ?_
  rintro e w4 ⟨rfl, hb4⟩
  have HQ4 : Hid (Below V.heap.size V w4) := below_next (HQ3.out) hb4.out
  clear hb4
  clear t0 t1 t2 t3 t4 t5 t6
  go_wp2_with fail
  refine (truck_any ⟨0, 0, 0, 0, 0, 0, 0⟩ w4 1 wk_t0).mono ?_
  rintro e w5 ⟨rfl, hb5⟩
  have HQ5 : Hid (Below V.heap.size V w5) := below_next (HQ4.out) hb5.out
  clear hb5
  have o0 : w5.cell? ⟨b0, 0, none⟩ = some (.int .i64 7) := (HB.out w5 HQ5.out).1.cell 0 _ rfl
  have o1 : w5.cell? ⟨b0, 1, none⟩ = some (.int .i64 0) := (HB.out w5 HQ5.out).1.cell 1 _ rfl
  have o2 : w5.cell? ⟨b0, 2, none⟩ = some (.int .i64 1) := (HB.out w5 HQ5.out).1.cell 2 _ rfl
  have o3 : w5.cell? ⟨b0, 3, none⟩ = some (.int .i64 4) := (HB.out w5 HQ5.out).1.cell 3 _ rfl
  have o4 : w5.cell? ⟨b0, 4, none⟩ = some (.int .i64 5) := (HB.out w5 HQ5.out).1.cell 4 _ rfl
  have o5 : w5.cell? ⟨b0, 5, none⟩ = some (.int .i64 0) := (HB.out w5 HQ5.out).1.cell 5 _ rfl
  have o6 : w5.cell? ⟨b0, 6, none⟩ = some (.int .i64 9) := (HB.out w5 HQ5.out).1.cell 6 _ rfl
  have o7 : w5.cell? ⟨b0, 7, none⟩ = some (.int .i64 0) := (HB.out w5 HQ5.out).1.cell 7 _ rfl
  have t0 : w5.cell? ⟨b2, 0, none⟩ = some (.int .i64 1) := (HB.out w5 HQ5.out).2.2.cell 0 _ rfl
  have t1 : w5.cell? ⟨b2, 1, none⟩ = some (.int .i64 10) := (HB.out w5 HQ5.out).2.2.cell 1 _ rfl
  have t2 : w5.cell? ⟨b2, 2, none⟩ = some (.int .i64 10) := (HB.out w5 HQ5.out).2.2.cell 2 _ rfl
  have t3 : w5.cell? ⟨b2, 3, none⟩ = some (.int .i64 0) := (HB.out w5 HQ5.out).2.2.cell 3 _ rfl
  have t4 : w5.cell? ⟨b2, 4, none⟩ = some (.int .i64 9) := (HB.out w5 HQ5.out).2.2.cell 4 _ rfl
  have t5 : w5.cell? ⟨b2, 5, none⟩ = some (.int .i64 0) := (HB.out w5 HQ5.out).2.2.cell 5 _ rfl
  have t6 : w5.cell? ⟨b2, 6, none⟩ = some (.int .i64 0) := (HB.out w5 HQ5.out).2.2.cell 6 _ rfl
  go_wp2_with fail
  refine (car_val wkT (some ⟨w5.heap.size, 0, none⟩) 1 1 [wkO] _ 0 wk_c1 rfl (by omega) (orders_new w5 _ _ _ _ rfl rfl)).mono ?_
  rintro e w6 ⟨rfl, hb6⟩
  have HQ6 : Hid (Below V.heap.size V w6) := below_next (below_more HQ5.out _) hb6.out
  clear hb6
  clear o0 o1 o2 o3 o4 o5 o6 o7 t0 t1 t2 t3 t4 t5 t6
  have o0 : w6.cell? ⟨b0, 0, none⟩ = some (.int .i64 7) := (HB.out w6 HQ6.out).1.cell 0 _ rfl
  have o1 : w6.cell? ⟨b0, 1, none⟩ = some (.int .i64 0) := (HB.out w6 HQ6.out).1.cell 1 _ rfl
  have o2 : w6.cell? ⟨b0, 2, none⟩ = some (.int .i64 1) := (HB.out w6 HQ6.out).1.cell 2 _ rfl
  have o3 : w6.cell? ⟨b0, 3, none⟩ = some (.int .i64 4) := (HB.out w6 HQ6.out).1.cell 3 _ rfl
  have o4 : w6.cell? ⟨b0, 4, none⟩ = some (.int .i64 5) := (HB.out w6 HQ6.out).1.cell 4 _ rfl
  have o5 : w6.cell? ⟨b0, 5, none⟩ = some (.int .i64 0) := (HB.out w6 HQ6.out).1.cell 5 _ rfl
  have o6 : w6.cell? ⟨b0, 6, none⟩ = some (.int .i64 9) := (HB.out w6 HQ6.out).1.cell 6 _ rfl
  have o7 : w6.cell? ⟨b0, 7, none⟩ = some (.int .i64 0) := (HB.out w6 HQ6.out).1.cell 7 _ rfl
  have p0 : w6.cell? ⟨b1, 0, none⟩ = some (.int .i64 8) := (HB.out w6 HQ6.out).2.1.cell 0 _ rfl
  have p1 : w6.cell? ⟨b1, 1, none⟩ = some (.int .i64 0) := (HB.out w6 HQ6.out).2.1.cell 1 _ rfl
  have p2 : w6.cell? ⟨b1, 2, none⟩ = some (.int .i64 1) := (HB.out w6 HQ6.out).2.1.cell 2 _ rfl
  have p3 : w6.cell? ⟨b1, 3, none⟩ = some (.int .i64 7) := (HB.out w6 HQ6.out).2.1.cell 3 _ rfl
  have p4 : w6.cell? ⟨b1, 4, none⟩ = some (.int .i64 5) := (HB.out w6 HQ6.out).2.1.cell 4 _ rfl
  have p5 : w6.cell? ⟨b1, 5, none⟩ = some (.int .i64 0) := (HB.out w6 HQ6.out).2.1.cell 5 _ rfl
  have p6 : w6.cell? ⟨b1, 6, none⟩ = some (.int .i64 9) := (HB.out w6 HQ6.out).2.1.cell 6 _ rfl
  have p7 : w6.cell? ⟨b1, 7, none⟩ = some (.int .i64 0) := (HB.out w6 HQ6.out).2.1.cell 7 _ rfl
  have t0 : w6.cell? ⟨b2, 0, none⟩ = some (.int .i64 1) := (HB.out w6 HQ6.out).2.2.cell 0 _ rfl
  have t1 : w6.cell? ⟨b2, 1, none⟩ = some (.int .i64 10) := (HB.out w6 HQ6.out).2.2.cell 1 _ rfl
  have t2 : w6.cell? ⟨b2, 2, none⟩ = some (.int .i64 10) := (HB.out w6 HQ6.out).2.2.cell 2 _ rfl
  have t3 : w6.cell? ⟨b2, 3, none⟩ = some (.int .i64 0) := (HB.out w6 HQ6.out).2.2.cell 3 _ rfl
  have t4 : w6.cell? ⟨b2, 4, none⟩ = some (.int .i64 9) := (HB.out w6 HQ6.out).2.2.cell 4 _ rfl
  have t5 : w6.cell? ⟨b2, 5, none⟩ = some (.int .i64 0) := (HB.out w6 HQ6.out).2.2.cell 5 _ rfl
  have t6 : w6.cell? ⟨b2, 6, none⟩ = some (.int .i64 0) := (HB.out w6 HQ6.out).2.2.cell 6 _ rfl
  go_wp2_with fail
  refine (car_val wkT (some ⟨w6.heap.size, 0, none⟩) 2 2 [wkO, wkP] _ 9 wk_c2 rfl (by omega) (orders_new w6 _ _ _ _ rfl rfl)).mono ?_
  rintro e w7 ⟨rfl, hb7⟩
  have HQ7 : Hid (Below V.heap.size V w7) := below_next (below_more HQ6.out _) hb7.out
  clear hb7
  clear o0 o1 o2 o3 o4 o5 o6 o7 p0 p1 p2 p3 p4 p5 p6 p7 t0 t1 t2 t3 t4 t5 t6
  have o0 : w7.cell? ⟨b0, 0, none⟩ = some (.int .i64 7) := (HB.out w7 HQ7.out).1.cell 0 _ rfl
  have o1 : w7.cell? ⟨b0, 1, none⟩ = some (.int .i64 0) := (HB.out w7 HQ7.out).1.cell 1 _ rfl
  have o2 : w7.cell? ⟨b0, 2, none⟩ = some (.int .i64 1) := (HB.out w7 HQ7.out).1.cell 2 _ rfl
  have o3 : w7.cell? ⟨b0, 3, none⟩ = some (.int .i64 4) := (HB.out w7 HQ7.out).1.cell 3 _ rfl
  have o4 : w7.cell? ⟨b0, 4, none⟩ = some (.int .i64 5) := (HB.out w7 HQ7.out).1.cell 4 _ rfl
  have o5 : w7.cell? ⟨b0, 5, none⟩ = some (.int .i64 0) := (HB.out w7 HQ7.out).1.cell 5 _ rfl
  have o6 : w7.cell? ⟨b0, 6, none⟩ = some (.int .i64 9) := (HB.out w7 HQ7.out).1.cell 6 _ rfl
  have o7 : w7.cell? ⟨b0, 7, none⟩ = some (.int .i64 0) := (HB.out w7 HQ7.out).1.cell 7 _ rfl
  have p0 : w7.cell? ⟨b1, 0, none⟩ = some (.int .i64 8) := (HB.out w7 HQ7.out).2.1.cell 0 _ rfl
  have p1 : w7.cell? ⟨b1, 1, none⟩ = some (.int .i64 0) := (HB.out w7 HQ7.out).2.1.cell 1 _ rfl
  have p2 : w7.cell? ⟨b1, 2, none⟩ = some (.int .i64 1) := (HB.out w7 HQ7.out).2.1.cell 2 _ rfl
  have p3 : w7.cell? ⟨b1, 3, none⟩ = some (.int .i64 7) := (HB.out w7 HQ7.out).2.1.cell 3 _ rfl
  have p4 : w7.cell? ⟨b1, 4, none⟩ = some (.int .i64 5) := (HB.out w7 HQ7.out).2.1.cell 4 _ rfl
  have p5 : w7.cell? ⟨b1, 5, none⟩ = some (.int .i64 0) := (HB.out w7 HQ7.out).2.1.cell 5 _ rfl
  have p6 : w7.cell? ⟨b1, 6, none⟩ = some (.int .i64 9) := (HB.out w7 HQ7.out).2.1.cell 6 _ rfl
  have p7 : w7.cell? ⟨b1, 7, none⟩ = some (.int .i64 0) := (HB.out w7 HQ7.out).2.1.cell 7 _ rfl
  go_wp2_with fail
  refine (find_val (some ⟨w7.heap.size, 0, none⟩) 2 2 [wkO, wkP] 8 _ 1 wk_f1 rfl (by omega) (orders_new w7 _ _ _ _ rfl rfl)).mono ?_
  rintro e w8 ⟨rfl, hb8⟩
  have HQ8 : Hid (Below V.heap.size V w8) := below_next (below_more HQ7.out _) hb8.out
  clear hb8
  clear o0 o1 o2 o3 o4 o5 o6 o7 p0 p1 p2 p3 p4 p5 p6 p7
  go_wp2_with fail
  refine (find_val none 0 0 [] 8 w8 (-1) wk_f0 rfl (by omega) (orders_nil _ _)).mono ?_
  rintro e w9 ⟨rfl, hb9⟩
  have HQ9 : Hid (Below V.heap.size V w9) := below_next (HQ8.out) hb9.out
  clear hb9
  have o0 : w9.cell? ⟨b0, 0, none⟩ = some (.int .i64 7) := (HB.out w9 HQ9.out).1.cell 0 _ rfl
  have o1 : w9.cell? ⟨b0, 1, none⟩ = some (.int .i64 0) := (HB.out w9 HQ9.out).1.cell 1 _ rfl
  have o2 : w9.cell? ⟨b0, 2, none⟩ = some (.int .i64 1) := (HB.out w9 HQ9.out).1.cell 2 _ rfl
  have o3 : w9.cell? ⟨b0, 3, none⟩ = some (.int .i64 4) := (HB.out w9 HQ9.out).1.cell 3 _ rfl
  have o4 : w9.cell? ⟨b0, 4, none⟩ = some (.int .i64 5) := (HB.out w9 HQ9.out).1.cell 4 _ rfl
  have o5 : w9.cell? ⟨b0, 5, none⟩ = some (.int .i64 0) := (HB.out w9 HQ9.out).1.cell 5 _ rfl
  have o6 : w9.cell? ⟨b0, 6, none⟩ = some (.int .i64 9) := (HB.out w9 HQ9.out).1.cell 6 _ rfl
  have o7 : w9.cell? ⟨b0, 7, none⟩ = some (.int .i64 0) := (HB.out w9 HQ9.out).1.cell 7 _ rfl
  have p0 : w9.cell? ⟨b1, 0, none⟩ = some (.int .i64 8) := (HB.out w9 HQ9.out).2.1.cell 0 _ rfl
  have p1 : w9.cell? ⟨b1, 1, none⟩ = some (.int .i64 0) := (HB.out w9 HQ9.out).2.1.cell 1 _ rfl
  have p2 : w9.cell? ⟨b1, 2, none⟩ = some (.int .i64 1) := (HB.out w9 HQ9.out).2.1.cell 2 _ rfl
  have p3 : w9.cell? ⟨b1, 3, none⟩ = some (.int .i64 7) := (HB.out w9 HQ9.out).2.1.cell 3 _ rfl
  have p4 : w9.cell? ⟨b1, 4, none⟩ = some (.int .i64 5) := (HB.out w9 HQ9.out).2.1.cell 4 _ rfl
  have p5 : w9.cell? ⟨b1, 5, none⟩ = some (.int .i64 0) := (HB.out w9 HQ9.out).2.1.cell 5 _ rfl
  have p6 : w9.cell? ⟨b1, 6, none⟩ = some (.int .i64 9) := (HB.out w9 HQ9.out).2.1.cell 6 _ rfl
  have p7 : w9.cell? ⟨b1, 7, none⟩ = some (.int .i64 0) := (HB.out w9 HQ9.out).2.1.cell 7 _ rfl
  have t0 : w9.cell? ⟨b2, 0, none⟩ = some (.int .i64 1) := (HB.out w9 HQ9.out).2.2.cell 0 _ rfl
  have t1 : w9.cell? ⟨b2, 1, none⟩ = some (.int .i64 10) := (HB.out w9 HQ9.out).2.2.cell 1 _ rfl
  have t2 : w9.cell? ⟨b2, 2, none⟩ = some (.int .i64 10) := (HB.out w9 HQ9.out).2.2.cell 2 _ rfl
  have t3 : w9.cell? ⟨b2, 3, none⟩ = some (.int .i64 0) := (HB.out w9 HQ9.out).2.2.cell 3 _ rfl
  have t4 : w9.cell? ⟨b2, 4, none⟩ = some (.int .i64 9) := (HB.out w9 HQ9.out).2.2.cell 4 _ rfl
  have t5 : w9.cell? ⟨b2, 5, none⟩ = some (.int .i64 0) := (HB.out w9 HQ9.out).2.2.cell 5 _ rfl
  have t6 : w9.cell? ⟨b2, 6, none⟩ = some (.int .i64 0) := (HB.out w9 HQ9.out).2.2.cell 6 _ rfl
  have s0 : (w9.alloc (.cells #[.int .i64 7, .int .i64 0, .int .i64 1, .int .i64 4, .int .i64 5, .int .i64 0, .int .i64 9, .int .i64 0, .int .i64 8, .int .i64 0, .int .i64 1, .int .i64 7, .int .i64 5, .int .i64 0, .int .i64 9, .int .i64 0] 33)).cell? ⟨b2, 0, none⟩ = some (.int .i64 1) := (HB.out _ (below_more HQ9.out _)).2.2.cell 0 _ rfl
  have s1 : (w9.alloc (.cells #[.int .i64 7, .int .i64 0, .int .i64 1, .int .i64 4, .int .i64 5, .int .i64 0, .int .i64 9, .int .i64 0, .int .i64 8, .int .i64 0, .int .i64 1, .int .i64 7, .int .i64 5, .int .i64 0, .int .i64 9, .int .i64 0] 33)).cell? ⟨b2, 1, none⟩ = some (.int .i64 10) := (HB.out _ (below_more HQ9.out _)).2.2.cell 1 _ rfl
  have s2 : (w9.alloc (.cells #[.int .i64 7, .int .i64 0, .int .i64 1, .int .i64 4, .int .i64 5, .int .i64 0, .int .i64 9, .int .i64 0, .int .i64 8, .int .i64 0, .int .i64 1, .int .i64 7, .int .i64 5, .int .i64 0, .int .i64 9, .int .i64 0] 33)).cell? ⟨b2, 2, none⟩ = some (.int .i64 10) := (HB.out _ (below_more HQ9.out _)).2.2.cell 2 _ rfl
  have s3 : (w9.alloc (.cells #[.int .i64 7, .int .i64 0, .int .i64 1, .int .i64 4, .int .i64 5, .int .i64 0, .int .i64 9, .int .i64 0, .int .i64 8, .int .i64 0, .int .i64 1, .int .i64 7, .int .i64 5, .int .i64 0, .int .i64 9, .int .i64 0] 33)).cell? ⟨b2, 3, none⟩ = some (.int .i64 0) := (HB.out _ (below_more HQ9.out _)).2.2.cell 3 _ rfl
  have s4 : (w9.alloc (.cells #[.int .i64 7, .int .i64 0, .int .i64 1, .int .i64 4, .int .i64 5, .int .i64 0, .int .i64 9, .int .i64 0, .int .i64 8, .int .i64 0, .int .i64 1, .int .i64 7, .int .i64 5, .int .i64 0, .int .i64 9, .int .i64 0] 33)).cell? ⟨b2, 4, none⟩ = some (.int .i64 9) := (HB.out _ (below_more HQ9.out _)).2.2.cell 4 _ rfl
  have s5 : (w9.alloc (.cells #[.int .i64 7, .int .i64 0, .int .i64 1, .int .i64 4, .int .i64 5, .int .i64 0, .int .i64 9, .int .i64 0, .int .i64 8, .int .i64 0, .int .i64 1, .int .i64 7, .int .i64 5, .int .i64 0, .int .i64 9, .int .i64 0] 33)).cell? ⟨b2, 5, none⟩ = some (.int .i64 0) := (HB.out _ (below_more HQ9.out _)).2.2.cell 5 _ rfl
  have s6 : (w9.alloc (.cells #[.int .i64 7, .int .i64 0, .int .i64 1, .int .i64 4, .int .i64 5, .int .i64 0, .int .i64 9, .int .i64 0, .int .i64 8, .int .i64 0, .int .i64 1, .int .i64 7, .int .i64 5, .int .i64 0, .int .i64 9, .int .i64 0] 33)).cell? ⟨b2, 6, none⟩ = some (.int .i64 0) := (HB.out _ (below_more HQ9.out _)).2.2.cell 6 _ rfl
  go_wp2_with fail
  refine (world_b 2 (.slice none 0 0) (.slice none 0 0) (some ⟨w9.heap.size, 0, none⟩) 2 2 [wkO, wkP] (some ⟨w9.heap.size + 1, 0, none⟩) 1 1 [wkT] _ 0 wk_w0 (by omega) rfl (by omega) rfl (by omega) ((orders_new w9 _ _ _ _ rfl rfl).below (below_alloc _ _)) (trucks_new _ _ _ _ _ (size_one _ _) rfl)).mono ?_
  rintro e w10 ⟨rfl, hb10⟩
  have HQ10 : Hid (Below V.heap.size V w10) := below_next (below_more (below_more HQ9.out _) _) hb10.out
  clear hb10
  clear o0 o1 o2 o3 o4 o5 o6 o7 p0 p1 p2 p3 p4 p5 p6 p7 t0 t1 t2 t3 t4 t5 t6
  clear s0 s1 s2 s3 s4 s5 s6
  have o0 : w10.cell? ⟨b0, 0, none⟩ = some (.int .i64 7) := (HB.out w10 HQ10.out).1.cell 0 _ rfl
  have o1 : w10.cell? ⟨b0, 1, none⟩ = some (.int .i64 0) := (HB.out w10 HQ10.out).1.cell 1 _ rfl
  have o2 : w10.cell? ⟨b0, 2, none⟩ = some (.int .i64 1) := (HB.out w10 HQ10.out).1.cell 2 _ rfl
  have o3 : w10.cell? ⟨b0, 3, none⟩ = some (.int .i64 4) := (HB.out w10 HQ10.out).1.cell 3 _ rfl
  have o4 : w10.cell? ⟨b0, 4, none⟩ = some (.int .i64 5) := (HB.out w10 HQ10.out).1.cell 4 _ rfl
  have o5 : w10.cell? ⟨b0, 5, none⟩ = some (.int .i64 0) := (HB.out w10 HQ10.out).1.cell 5 _ rfl
  have o6 : w10.cell? ⟨b0, 6, none⟩ = some (.int .i64 9) := (HB.out w10 HQ10.out).1.cell 6 _ rfl
  have o7 : w10.cell? ⟨b0, 7, none⟩ = some (.int .i64 0) := (HB.out w10 HQ10.out).1.cell 7 _ rfl
  go_wp2_with fail
  refine (world_b 2 (.slice none 0 0) (.slice none 0 0) (some ⟨w10.heap.size, 0, none⟩) 2 2 [wkO, wkO] none 0 0 [] _ 6 wk_w6 (by omega) rfl (by omega) rfl (by omega) (orders_new w10 _ _ _ _ rfl rfl) (trucks_nil _ _)).mono ?_
  rintro e w11 ⟨rfl, hb11⟩
  have HQ11 : Hid (Below V.heap.size V w11) := below_next (below_more HQ10.out _) hb11.out
  clear hb11
  clear o0 o1 o2 o3 o4 o5 o6 o7
  go_wp2
  go_ret
  exact ⟨rfl, HW.out _ HQ11.out⟩
end Go.Proofs.Ytgdgdalegoabpaa
