/- Contracts of package load: check, Order, Truck. -/
import Derived.Test.YtbacakblboodeaaLoadMem
namespace Go.Proofs.Ytbacakblboodeaa
open Go.RowKit
set_option linter.unusedVariables false

set_option maxHeartbeats 1000000 in
theorem check_sp (A : Option Addr) (m c : Nat) (l : List (Int × Int × Int)) (w : World) (hm : l.length = m) (hm2 : m ≤ 1000) (hl : IntsAt w A (Ld.flat3 l)) :
    Calls Try.prog 96 #[.slice A m c] w fun e w' => e = .returned (.int .i64 (Ld.chkE l)) ∧ Below w.heap.size w w' := by
  have HL := Lib.hid hl
  have HM := Lib.hid hm
  have HY : Hid (∀ k : Nat, m ≤ k → (∀ (i : Nat) s, i < k → l[i]? = some s → Ld.spB s = true) → Ld.chkE l = 0) := fun k hk h => Ld.chk_yes fun i s hs => h i s (by have := (List.getElem?_eq_some_iff.1 hs).1; omega) hs
  have HN : Hid (∀ (k : Nat) s, l[k]? = some s → Ld.spB s = false → Ld.chkE l = 1) := fun k s h1 h2 => Ld.chk_no h1 h2
  clear hl hm
  generalize Ld.chkE l = r at *
  go_enter Try.func96, Try.ntmps96
  go_wp2_with fail
  go_loopg [2, 7] m (fun gk s2 s7 W => ∃ (k : Nat), k + gk = m ∧ s2 = .int .i64 0 ∧ s7 = .int .i64 k ∧ Hid (Below w.heap.size w W) ∧ Hid (∀ (i : Nat) s, i < k → l[i]? = some s → Ld.spB s = true))
  case atStart => exact ⟨0, by omega, rfl, rfl, Below.refl _ _, fun i s hi => by omega⟩
  case round =>
    obtain ⟨k, hkg, rfl, rfl, HB, HK⟩ := hrel
    by_cases hlt : k < m
    · obtain ⟨gk, rfl⟩ : ∃ j, gk = j + 1 := ⟨gk - 1, by omega⟩
      obtain ⟨s, hs⟩ := mlist_at l k (by rw [HM.out]; exact hlt)
      obtain ⟨ad, rfl, hc⟩ := spans_at (HL.out.below HB.out) hs
      obtain ⟨c0, c1, c2⟩ := hc
      have HN2 := Lib.hid (HN.out k s hs)
      have HS := Lib.hid hs
      clear hs
      obtain ⟨x, a, b⟩ := s
      simp only at c0 c1 c2
      have HB2 := Lib.hid (below_more HB.out)
      by_cases h1 : x < a
      · have d1 : decide (x < a) = true := decide_eq_true h1
        have HR := Lib.hid (HN2.out (Ld.spB_less h1))
        go_wp2
        go_ret
        exact ⟨by rw [HR.out]; rfl, HB2.out _⟩
      · have d1 : decide (x < a) = false := decide_eq_false h1
        by_cases h2 : b < x
        · have d2 : decide (b < x) = true := decide_eq_true h2
          have HR := Lib.hid (HN2.out (Ld.spB_more h2))
          go_wp2
          go_ret
          exact ⟨by rw [HR.out]; rfl, HB2.out _⟩
        · have d2 : decide (b < x) = false := decide_eq_false h2
          have HK2 : Hid (∀ (i : Nat) s, i < k + 1 → l[i]? = some s → Ld.spB s = true) := fun i s hi hs => by
            by_cases h : i < k
            · exact HK.out i s h hs
            · obtain rfl : i = k := by omega
              rw [HS.out] at hs
              obtain rfl := Option.some.inj hs
              exact Ld.spB_yes (by omega) (by omega)
          go_wp2
          go_roundg gk
          case measure => omega
          case rel => exact ⟨k + 1, by omega, rfl, by first | rfl | go_num, HB2.out _, HK2.out⟩
    · have HR := Lib.hid (HY.out k (by omega) HK.out)
      have hk : k = m := by omega
      subst hk
      go_wp2
      go_ret
      exact ⟨by rw [HR.out]; rfl, HB.out⟩

theorem check_new (W : World) (b m : Nat) (cs : Array Value) (l : List (Int × Int × Int)) (hb : b = W.heap.size) (hcs : cs = ((Ld.flat3 l).map (Value.int .i64)).toArray) (hm : l.length = m) (hm2 : m ≤ 1000) :
    Calls Try.prog 96 #[.slice (some ⟨b, 0, none⟩) m m] (W.alloc (.cells cs 139)) fun e w' => e = .returned (.int .i64 (Ld.chkE l)) ∧ Hid (Below W.heap.size W w') := by
  subst hb
  exact (check_sp _ m m l _ hm hm2 (box_ints (Box.new W cs _) hcs)).mono fun _ _ ⟨h1, h2⟩ => ⟨h1, below_box h2⟩
def spO (a0 a1 a2 a3 a4 a5 a6 a7 m : Int) : List (Int × Int × Int) :=
  [(a0, 1, 1000000), (a1, 0, 31), (a2, 1, m), (a3, 1, 1000000), (a4, 1, 1000000), (a5, 0, a6), (a6, 0, 1000000), (a7, 0, 10000)]
theorem spO_eq (a0 a1 a2 a3 a4 a5 a6 a7 n m : Int) (h : max n 1 - 1 = m) : Ld.oE ⟨a0, a1, a2, a3, a4, a5, a6, a7⟩ n = Ld.chkE (spO a0 a1 a2 a3 a4 a5 a6 a7 m) := by subst h; rfl
theorem size_one (w : World) (o : Obj) : w.heap.size + 1 = (w.alloc o).heap.size := by simp

set_option maxHeartbeats 1000000 in
theorem order_val (a0 a1 a2 a3 a4 a5 a6 a7 n : Int) (w : World) (hn : n ≤ 9223372036854775807) :
    Calls Try.prog 64 #[.agg #[.int .i64 a0, .int .i64 a1, .int .i64 a2, .int .i64 a3, .int .i64 a4, .int .i64 a5, .int .i64 a6, .int .i64 a7], .int .i64 n] w fun e w' => e = .returned (.int .i64 (Ld.oE ⟨a0, a1, a2, a3, a4, a5, a6, a7⟩ n)) ∧ Below w.heap.size w w' := by
  by_cases h1 : 1 < n
  · have HE := Lib.hid (spO_eq a0 a1 a2 a3 a4 a5 a6 a7 n (n - 1) (by omega))
    have h2 : ¬ n < 1 := by omega
    have h3 : ¬ n ≤ 1 := by omega
    go_enter Try.func64, Try.ntmps64
    go_wp2_with fail
    refine (check_new _ _ 8 _ (spO a0 a1 a2 a3 a4 a5 a6 a7 (n - 1)) (size_one _ _) rfl rfl (by omega)).mono ?_
    rintro e w1 ⟨rfl, hb1⟩
    go_wp2
    go_ret
    exact ⟨by rw [HE.out]; rfl, below_box hb1.out⟩
  by_cases h3 : n < 1
  · have HE := Lib.hid (spO_eq a0 a1 a2 a3 a4 a5 a6 a7 n 0 (by omega))
    have h2 : n ≤ 1 := by omega
    go_enter Try.func64, Try.ntmps64
    go_wp2_with fail
    refine (check_new _ _ 8 _ (spO a0 a1 a2 a3 a4 a5 a6 a7 0) (size_one _ _) rfl rfl (by omega)).mono ?_
    rintro e w1 ⟨rfl, hb1⟩
    go_wp2
    go_ret
    exact ⟨by rw [HE.out]; rfl, below_box hb1.out⟩
  · obtain rfl : n = 1 := by omega
    have HE := Lib.hid (spO_eq a0 a1 a2 a3 a4 a5 a6 a7 1 0 (by omega))
    clear h1 h3 hn
    go_enter Try.func64, Try.ntmps64
    go_wp2_with fail
    refine (check_new _ _ 8 _ (spO a0 a1 a2 a3 a4 a5 a6 a7 0) (size_one _ _) rfl rfl (by omega)).mono ?_
    rintro e w1 ⟨rfl, hb1⟩
    go_wp2
    go_ret
    exact ⟨by rw [HE.out]; rfl, below_box hb1.out⟩

def spT (a0 a1 a2 a3 a4 a5 a6 : Int) : List (Int × Int × Int) :=
  [(a0, 1, 1000000), (a1, 1, 1000000), (a2, 1, 1000000), (a3, 0, a4), (a4, 0, 1000000), (a5, 0, 1000000), (a6, 0, 1000)]
set_option maxHeartbeats 1000000 in
theorem truck_val (a0 a1 a2 a3 a4 a5 a6 : Int) (w : World) :
    Calls Try.prog 67 #[.agg #[.int .i64 a0, .int .i64 a1, .int .i64 a2, .int .i64 a3, .int .i64 a4, .int .i64 a5, .int .i64 a6]] w fun e w' => e = .returned (.int .i64 (Ld.tE ⟨a0, a1, a2, a3, a4, a5, a6⟩)) ∧ Below w.heap.size w w' := by
  have HE : Hid (Ld.tE ⟨a0, a1, a2, a3, a4, a5, a6⟩ = Ld.chkE (spT a0 a1 a2 a3 a4 a5 a6)) := by unfold Hid; rfl
  go_enter Try.func67, Try.ntmps67
  go_wp2_with fail
  refine (check_new _ _ 7 _ (spT a0 a1 a2 a3 a4 a5 a6) (size_one _ _) rfl rfl (by omega)).mono ?_
  rintro e w1 ⟨rfl, hb1⟩
  go_wp2
  go_ret
  exact ⟨by rw [HE.out]; rfl, below_box hb1.out⟩

theorem order_any (o : Ld.O) (n : Int) (w : World) (r : Int) (hr : Ld.oE o n = r) (hn : n ≤ 9223372036854775807) :
    Calls Try.prog 64 #[.agg #[.int .i64 o.id, .int .i64 o.owner, .int .i64 o.node, .int .i64 o.weight, .int .i64 o.volume, .int .i64 o.frm, .int .i64 o.to, .int .i64 o.service], .int .i64 n] w fun e w' => e = .returned (.int .i64 r) ∧ Hid (Below w.heap.size w w') := by
  subst hr
  exact order_val _ _ _ _ _ _ _ _ n w hn
theorem truck_any (t : Ld.T) (w : World) (r : Int) (hr : Ld.tE t = r) :
    Calls Try.prog 67 #[.agg #[.int .i64 t.id, .int .i64 t.weight, .int .i64 t.volume, .int .i64 t.start, .int .i64 t.fin, .int .i64 t.fixed, .int .i64 t.rate]] w fun e w' => e = .returned (.int .i64 r) ∧ Hid (Below w.heap.size w w') := by
  subst hr
  exact truck_val _ _ _ _ _ _ _ w
end Go.Proofs.Ytbacakblboodeaa
