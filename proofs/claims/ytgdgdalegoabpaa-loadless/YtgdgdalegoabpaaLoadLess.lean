/- Every call of the law that a truck which carries some orders carries fewer, and each of two parts of a list that it carries, answers true: for every truck, every list of orders and every place. No conditions. -/
import Derived.Test.YtgdgdalegoabpaaRows
import Derived.Test.YtgdgdalegoabpaaLoadCut
import Derived.WalkKit
import Derived.ProofKit
import Derived.OpenShut
import Derived.ShutString
import Derived.ChangeOld
import Derived.Below
import Derived.SizedLaws
namespace Go.Proofs.Ytgdgdalegoabpaa.loadLess
open Go.ChangeShapes Go.WideShapes Go.ChangeAt Go.RowKit
open Go.ChangeMaps (open_string shut_string)
set_option linter.unusedVariables false

theorem own : ownKnob Try.prog.godebug = none := by kernel_rfl
theorem laidOut : laidOutB Try.prog = true := by kernel_rfl


open Go.Proofs.Ytgdgdalegoabpaa

theorem out_any (t0 t1 t2 t3 t4 t5 t6 : Int) (A : Option Addr) (m c : Nat) (at' : Int) (w : World) (hm : m ≤ maxLen) (h : 200 < m ∨ at' < 0 ∨ (m : Int) < at') :
    Calls Try.prog 4 #[.agg #[.int .i64 t0, .int .i64 t1, .int .i64 t2, .int .i64 t3, .int .i64 t4, .int .i64 t5, .int .i64 t6], .slice A m c, .int .i64 at'] w fun e w' => e = .returned (.bool true) ∧ Below w.heap.size w w' := by
  unfold maxLen at hm
  have HB0 : Hid (Below w.heap.size w (w.alloc (.cells #[.int .i64 t0, .int .i64 t1, .int .i64 t2, .int .i64 t3, .int .i64 t4, .int .i64 t5, .int .i64 t6] 30))) := below_alloc _ _
  by_cases h1 : 200 < m
  · have d1 : decide ((200 : Int) < (m : Int)) = true := decide_eq_true (by omega)
    clear h
    go_enter Try.func4, Try.ntmps4
    go_wp2_with (go_at_call 6; refine (awake_any _).mono ?_; rintro e w1 ⟨rfl, hb1⟩)
    go_ret
    exact ⟨rfl, below_next HB0.out hb1⟩
  · have d1 : decide ((200 : Int) < (m : Int)) = false := decide_eq_false (by omega)
    by_cases h2 : at' < 0
    · have d2 : decide (at' < 0) = true := decide_eq_true h2
      clear h
      go_enter Try.func4, Try.ntmps4
      go_wp2_with (go_at_call 6; refine (awake_any _).mono ?_; rintro e w1 ⟨rfl, hb1⟩)
      go_ret
      exact ⟨rfl, below_next HB0.out hb1⟩
    · have d2 : decide (at' < 0) = false := decide_eq_false h2
      have d3 : decide ((m : Int) < at') = true := decide_eq_true (by omega)
      clear h
      go_enter Try.func4, Try.ntmps4
      go_wp2_with (go_at_call 6; refine (awake_any _).mono ?_; rintro e w1 ⟨rfl, hb1⟩)
      go_ret
      exact ⟨rfl, below_next HB0.out hb1⟩

set_option maxHeartbeats 4000000 in
set_option maxRecDepth 100000 in
theorem in_any (t0 t1 t2 t3 t4 t5 t6 : Int) (A : Option Addr) (m c : Nat) (l : List Ld.O) (k : Nat) (w : World) (hm : l.length = m) (hmc : m ≤ c) (hm2 : m ≤ 200) (hk : k ≤ m) (hl : OrdersAt w A l) :
    Calls Try.prog 4 #[.agg #[.int .i64 t0, .int .i64 t1, .int .i64 t2, .int .i64 t3, .int .i64 t4, .int .i64 t5, .int .i64 t6], .slice A m c, .int .i64 (k : Int)] w fun e w' => e = .returned (.bool true) ∧ Below w.heap.size w w' := by
  have HB0 : Hid (Below w.heap.size w (w.alloc (.cells #[.int .i64 t0, .int .i64 t1, .int .i64 t2, .int .i64 t3, .int .i64 t4, .int .i64 t5, .int .i64 t6] 30))) := below_alloc _ _
  have HX : Hid (Box (w.alloc (.cells #[.int .i64 t0, .int .i64 t1, .int .i64 t2, .int .i64 t3, .int .i64 t4, .int .i64 t5, .int .i64 t6] 30)) w.heap.size #[.int .i64 t0, .int .i64 t1, .int .i64 t2, .int .i64 t3, .int .i64 t4, .int .i64 t5, .int .i64 t6] 30) := Box.new _ _ _
  have HL := Lib.hid (hl.below HB0.out)
  have HM := Lib.hid hm
  have HF1 := Lib.hid (front_os A m c k hmc hk)
  obtain ⟨A2, c2, hs2, hb2⟩ := back_os A m c k hmc hk
  obtain ⟨mk, hmk⟩ : ∃ mk, m - k = mk := ⟨_, rfl⟩
  rw [hmk] at hs2
  have HF2 := Lib.hid hs2
  have HS2 := Lib.hid hb2
  have HMK := Lib.hid hmk
  have hmk2 : mk ≤ 200 := by omega
  have d1 : decide ((200 : Int) < (m : Int)) = false := decide_eq_false (by omega)
  have d2 : decide ((k : Int) < 0) = false := decide_eq_false (by omega)
  have d3 : decide ((m : Int) < (k : Int)) = false := decide_eq_false (by omega)
  have d3' : decide (m < k) = false := decide_eq_false (by omega)
  clear hl hm hs2 hb2 hmk
  go_enter Try.func4, Try.ntmps4
  go_wp2_with fail
  generalize (w.alloc (.cells #[.int .i64 t0, .int .i64 t1, .int .i64 t2, .int .i64 t3, .int .i64 t4, .int .i64 t5, .int .i64 t6] 30)) = W at *
  with_reducible refine (awake_any W).mono ?_
  rintro e w1 ⟨rfl, hb1⟩
  have HX1 := Lib.hid (HX.out.below hb1)
  have HL1 := Lib.hid (HL.out.below hb1)
  have HB1 := Lib.hid (below_next HB0.out hb1)
  clear hb1 HX HL HB0
  go_wp2_with fail
  go_loopg [6, 35] m (fun gk s6 s35 Wx => ∃ (j : Nat), j + gk = m ∧ s6 = .bool false ∧ s35 = .int .i64 j ∧ Hid (Below w1.heap.size w1 Wx) ∧ Hid ((l.take j).all (fun o => Ld.oB o 16) = true))
  case atStart => exact ⟨0, by omega, rfl, rfl, Below.refl _ _, rfl⟩
  case round =>
    obtain ⟨j, hjg, rfl, rfl, HB, HK⟩ := hrel
    by_cases hlt : j < m
    · obtain ⟨gk, rfl⟩ : ∃ i, gk = i + 1 := ⟨gk - 1, by omega⟩
      obtain ⟨s, hs⟩ := mlist_at l j (by rw [HM.out]; exact hlt)
      obtain ⟨ad, rfl, hc⟩ := (HL1.out.below HB.out).at_ hs
      obtain ⟨c0, c1, c2, c3, c4, c5, c6, c7⟩ := hc
      obtain ⟨a0, a1, a2, a3, a4, a5, a6, a7⟩ := s
      simp only at c0 c1 c2 c3 c4 c5 c6 c7
      have HB2 := Lib.hid (below_more HB.out)
      cases h1 : Ld.oB ⟨a0, a1, a2, a3, a4, a5, a6, a7⟩ 16
      · have HC : Hid (∀ W, Below w1.heap.size w1 W → Calls Try.prog 7 #[.agg #[.int .i64 a0, .int .i64 a1, .int .i64 a2, .int .i64 a3, .int .i64 a4, .int .i64 a5, .int .i64 a6, .int .i64 a7], .int .i64 16] W fun e w' => e = .returned (.int .i64 1) ∧ Hid (Below w1.heap.size w1 w')) := fun W hb =>
          (order_any ⟨a0, a1, a2, a3, a4, a5, a6, a7⟩ 16 W 1 (Ld.oE_no h1) (by omega)).mono fun _ _ ⟨e1, e2⟩ => ⟨e1, below_next hb e2.out⟩
        clear hs h1
        go_wp2_with (go_at_call 7; refine (HC.out _ (HB2.out _)).mono ?_; rintro e w2 ⟨rfl, hb2⟩)
        go_ret
        exact ⟨rfl, below_next HB1.out hb2.out⟩
      · have HK2 := Lib.hid (Ld.all_snoc hs HK.out h1)
        have HC : Hid (∀ W, Below w1.heap.size w1 W → Calls Try.prog 7 #[.agg #[.int .i64 a0, .int .i64 a1, .int .i64 a2, .int .i64 a3, .int .i64 a4, .int .i64 a5, .int .i64 a6, .int .i64 a7], .int .i64 16] W fun e w' => e = .returned (.int .i64 0) ∧ Hid (Below w1.heap.size w1 w')) := fun W hb =>
          (order_any ⟨a0, a1, a2, a3, a4, a5, a6, a7⟩ 16 W 0 (Ld.oE_yes h1) (by omega)).mono fun _ _ ⟨e1, e2⟩ => ⟨e1, below_next hb e2.out⟩
        clear hs h1
        go_wp2_with (go_at_call 7; refine (HC.out _ (HB2.out _)).mono ?_; rintro e w2 ⟨rfl, hb2⟩)
        go_roundg gk
        case measure => omega
        case rel => exact ⟨j + 1, by omega, rfl, by first | rfl | go_num, hb2.out, HK2.out⟩
    · have hj : j = m := by omega
      subst hj
      have hall := Ld.all_full (by rw [HM.out]; exact Nat.le_refl _) HK.out
      obtain ⟨ww, vv, a, b, cc, dd, hless⟩ := Ld.less_of (Ld.fine_of (l := l) (n := 16) (fun o ho => (Ld.oB_iff o 16).1 (List.all_eq_true.1 hall o ho)) (by rw [HM.out]; exact hm2)) k
      obtain ⟨q0, q1, q2, rfl, rfl, a0, a1, b0, b1, e0, e1, f0, f1⟩ := hless
      have HQ0 := Lib.hid q0
      have HQ1 := Lib.hid q1
      have HQ2 := Lib.hid q2
      have HT := Lib.hid (HL1.out.take k)
      have HD := Lib.hid (HS2.out w1 l HM.out HL1.out)
      have HLT : Hid ((l.take k).length = k) := by unfold Hid; rw [List.length_take, HM.out]; omega
      have HLD : Hid ((l.drop k).length = mk) := by unfold Hid; rw [List.length_drop, HM.out]; exact HMK.out
      clear q0 q1 q2 hall HK HS2
      have hF1 := HF1.out
      have hF2 := HF2.out
      go_wp2_with fail
      with_reducible refine (sum_val A j c l _ (a + cc) (b + dd) 0 HQ0.out HM.out (by omega) (HL1.out.below HB.out)).mono ?_
      rintro e w2 ⟨rfl, hb2⟩
      have HP2 := Lib.hid (below_next HB.out hb2.out)
      clear hb2
      go_wp2_with fail
      with_reducible refine (sum_val A k c (l.take k) w2 a b 0 HQ1.out HLT.out (by omega) (HT.out.below HP2.out)).mono ?_
      rintro e w3 ⟨rfl, hb3⟩
      have HP3 := Lib.hid (below_next HP2.out hb3.out)
      clear hb3 HP2
      go_wp2_with fail
      with_reducible refine (sum_val A2 mk c2 (l.drop k) w3 cc dd 0 HQ2.out HLD.out (by omega) (HD.out.below HP3.out)).mono ?_
      rintro e w4 ⟨rfl, hb4⟩
      have HP4 := Lib.hid (below_next HP3.out hb4.out)
      clear hb4 HP3
      have x0 : w4.cell? ⟨w.heap.size, 0, none⟩ = some (.int .i64 t0) := (HX1.out.below HP4.out).cell 0 _ rfl
      have x1 : w4.cell? ⟨w.heap.size, 1, none⟩ = some (.int .i64 t1) := (HX1.out.below HP4.out).cell 1 _ rfl
      have x2 : w4.cell? ⟨w.heap.size, 2, none⟩ = some (.int .i64 t2) := (HX1.out.below HP4.out).cell 2 _ rfl
      have x3 : w4.cell? ⟨w.heap.size, 3, none⟩ = some (.int .i64 t3) := (HX1.out.below HP4.out).cell 3 _ rfl
      have x4 : w4.cell? ⟨w.heap.size, 4, none⟩ = some (.int .i64 t4) := (HX1.out.below HP4.out).cell 4 _ rfl
      have x5 : w4.cell? ⟨w.heap.size, 5, none⟩ = some (.int .i64 t5) := (HX1.out.below HP4.out).cell 5 _ rfl
      have x6 : w4.cell? ⟨w.heap.size, 6, none⟩ = some (.int .i64 t6) := (HX1.out.below HP4.out).cell 6 _ rfl
      by_cases g1 : t1 < a + cc ∨ t2 < b + dd
      · have HC := Lib.hid (car_val ⟨t0, t1, t2, t3, t4, t5, t6⟩ A j c l w4 9 (Ld.car_more HQ0.out g1) HM.out (by omega) (HL1.out.below HP4.out))
        go_wp2_with fail
        with_reducible refine HC.out.mono ?_
        rintro e w5 ⟨rfl, hb5⟩
        have HP5 := Lib.hid (below_next HP4.out hb5.out)
        clear hb5 HC x0 x1 x2 x3 x4 x5 x6
        have x1 : w5.cell? ⟨w.heap.size, 1, none⟩ = some (.int .i64 t1) := (HX1.out.below HP5.out).cell 1 _ rfl
        have x2 : w5.cell? ⟨w.heap.size, 2, none⟩ = some (.int .i64 t2) := (HX1.out.below HP5.out).cell 2 _ rfl
        by_cases g2 : t1 < a + cc
        · have d5 : decide (t1 < a + cc) = true := decide_eq_true g2
          clear g1
          go_wp2
          go_ret
          exact ⟨rfl, below_next HB1.out HP5.out⟩
        · have d5 : decide (t1 < a + cc) = false := decide_eq_false g2
          have d6 : decide (t2 < b + dd) = true := decide_eq_true (by omega)
          clear g1
          go_wp2
          go_ret
          exact ⟨rfl, below_next HB1.out HP5.out⟩
      · have HC := Lib.hid (car_val ⟨t0, t1, t2, t3, t4, t5, t6⟩ A j c l w4 0 (Ld.car_ok HQ0.out (by show a + cc ≤ t1; omega) (by show b + dd ≤ t2; omega)) HM.out (by omega) (HL1.out.below HP4.out))
        have HR1 := Lib.hid (Ld.car_ok (t := ⟨t0, t1, t2, t3, t4, t5, t6⟩) HQ1.out (by show a ≤ t1; omega) (by show b ≤ t2; omega))
        have HR2 := Lib.hid (Ld.car_ok (t := ⟨t0, t1, t2, t3, t4, t5, t6⟩) HQ2.out (by show cc ≤ t1; omega) (by show dd ≤ t2; omega))
        go_wp2_with fail
        with_reducible refine HC.out.mono ?_
        rintro e w5 ⟨rfl, hb5⟩
        have HP5 := Lib.hid (below_next HP4.out hb5.out)
        clear hb5 HC x0 x1 x2 x3 x4 x5 x6
        have x0 : w5.cell? ⟨w.heap.size, 0, none⟩ = some (.int .i64 t0) := (HX1.out.below HP5.out).cell 0 _ rfl
        have x1 : w5.cell? ⟨w.heap.size, 1, none⟩ = some (.int .i64 t1) := (HX1.out.below HP5.out).cell 1 _ rfl
        have x2 : w5.cell? ⟨w.heap.size, 2, none⟩ = some (.int .i64 t2) := (HX1.out.below HP5.out).cell 2 _ rfl
        have x3 : w5.cell? ⟨w.heap.size, 3, none⟩ = some (.int .i64 t3) := (HX1.out.below HP5.out).cell 3 _ rfl
        have x4 : w5.cell? ⟨w.heap.size, 4, none⟩ = some (.int .i64 t4) := (HX1.out.below HP5.out).cell 4 _ rfl
        have x5 : w5.cell? ⟨w.heap.size, 5, none⟩ = some (.int .i64 t5) := (HX1.out.below HP5.out).cell 5 _ rfl
        have x6 : w5.cell? ⟨w.heap.size, 6, none⟩ = some (.int .i64 t6) := (HX1.out.below HP5.out).cell 6 _ rfl
        have HCE : Hid (∀ W', Below w1.heap.size w1 W' → W'.cell? ⟨w.heap.size, 0, none⟩ = some (.int .i64 t0) ∧ W'.cell? ⟨w.heap.size, 1, none⟩ = some (.int .i64 t1) ∧ W'.cell? ⟨w.heap.size, 2, none⟩ = some (.int .i64 t2) ∧ W'.cell? ⟨w.heap.size, 3, none⟩ = some (.int .i64 t3) ∧ W'.cell? ⟨w.heap.size, 4, none⟩ = some (.int .i64 t4) ∧ W'.cell? ⟨w.heap.size, 5, none⟩ = some (.int .i64 t5) ∧ W'.cell? ⟨w.heap.size, 6, none⟩ = some (.int .i64 t6) ∧ Below w1.heap.size w1 W') := fun W' hb => ⟨(HX1.out.below hb).cell 0 _ rfl, (HX1.out.below hb).cell 1 _ rfl, (HX1.out.below hb).cell 2 _ rfl, (HX1.out.below hb).cell 3 _ rfl, (HX1.out.below hb).cell 4 _ rfl, (HX1.out.below hb).cell 5 _ rfl, (HX1.out.below hb).cell 6 _ rfl, hb⟩
        have HC1 : Hid (∀ W1, (W1.cell? ⟨w.heap.size, 0, none⟩ = some (.int .i64 t0) ∧ W1.cell? ⟨w.heap.size, 1, none⟩ = some (.int .i64 t1) ∧ W1.cell? ⟨w.heap.size, 2, none⟩ = some (.int .i64 t2) ∧ W1.cell? ⟨w.heap.size, 3, none⟩ = some (.int .i64 t3) ∧ W1.cell? ⟨w.heap.size, 4, none⟩ = some (.int .i64 t4) ∧ W1.cell? ⟨w.heap.size, 5, none⟩ = some (.int .i64 t5) ∧ W1.cell? ⟨w.heap.size, 6, none⟩ = some (.int .i64 t6) ∧ Below w1.heap.size w1 W1) → Calls Try.prog 15 #[.agg #[.int .i64 t0, .int .i64 t1, .int .i64 t2, .int .i64 t3, .int .i64 t4, .int .i64 t5, .int .i64 t6], .slice A k c] W1 fun e W' => e = .returned (.int .i64 0) ∧ W'.cell? ⟨w.heap.size, 0, none⟩ = some (.int .i64 t0) ∧ W'.cell? ⟨w.heap.size, 1, none⟩ = some (.int .i64 t1) ∧ W'.cell? ⟨w.heap.size, 2, none⟩ = some (.int .i64 t2) ∧ W'.cell? ⟨w.heap.size, 3, none⟩ = some (.int .i64 t3) ∧ W'.cell? ⟨w.heap.size, 4, none⟩ = some (.int .i64 t4) ∧ W'.cell? ⟨w.heap.size, 5, none⟩ = some (.int .i64 t5) ∧ W'.cell? ⟨w.heap.size, 6, none⟩ = some (.int .i64 t6) ∧ Below w1.heap.size w1 W') := by
          rintro W1 ⟨_, _, _, _, _, _, _, h⟩
          exact (car_val ⟨t0, t1, t2, t3, t4, t5, t6⟩ A k c (l.take k) W1 0 HR1.out HLT.out (by omega) (HT.out.below h)).mono fun _ _ ⟨e1, e2⟩ => ⟨e1, HCE.out _ (below_next h e2.out)⟩
        have HC2 : Hid (∀ W1, (W1.cell? ⟨w.heap.size, 0, none⟩ = some (.int .i64 t0) ∧ W1.cell? ⟨w.heap.size, 1, none⟩ = some (.int .i64 t1) ∧ W1.cell? ⟨w.heap.size, 2, none⟩ = some (.int .i64 t2) ∧ W1.cell? ⟨w.heap.size, 3, none⟩ = some (.int .i64 t3) ∧ W1.cell? ⟨w.heap.size, 4, none⟩ = some (.int .i64 t4) ∧ W1.cell? ⟨w.heap.size, 5, none⟩ = some (.int .i64 t5) ∧ W1.cell? ⟨w.heap.size, 6, none⟩ = some (.int .i64 t6) ∧ Below w1.heap.size w1 W1) → Calls Try.prog 15 #[.agg #[.int .i64 t0, .int .i64 t1, .int .i64 t2, .int .i64 t3, .int .i64 t4, .int .i64 t5, .int .i64 t6], .slice A2 mk c2] W1 fun e W' => e = .returned (.int .i64 0) ∧ W'.cell? ⟨w.heap.size, 0, none⟩ = some (.int .i64 t0) ∧ W'.cell? ⟨w.heap.size, 1, none⟩ = some (.int .i64 t1) ∧ W'.cell? ⟨w.heap.size, 2, none⟩ = some (.int .i64 t2) ∧ W'.cell? ⟨w.heap.size, 3, none⟩ = some (.int .i64 t3) ∧ W'.cell? ⟨w.heap.size, 4, none⟩ = some (.int .i64 t4) ∧ W'.cell? ⟨w.heap.size, 5, none⟩ = some (.int .i64 t5) ∧ W'.cell? ⟨w.heap.size, 6, none⟩ = some (.int .i64 t6) ∧ Below w1.heap.size w1 W') := by
          rintro W1 ⟨_, _, _, _, _, _, _, h⟩
          exact (car_val ⟨t0, t1, t2, t3, t4, t5, t6⟩ A2 mk c2 (l.drop k) W1 0 HR2.out HLD.out (by omega) (HD.out.below h)).mono fun _ _ ⟨e1, e2⟩ => ⟨e1, HCE.out _ (below_next h e2.out)⟩
        have hB := HP5.out.drew
        clear HCE g1 HT HD HR1 HR2
        go_wp2
        go_region_held3 (fun W' : World => W'.cell? ⟨w.heap.size, 0, none⟩ = some (.int .i64 t0) ∧ W'.cell? ⟨w.heap.size, 1, none⟩ = some (.int .i64 t1) ∧ W'.cell? ⟨w.heap.size, 2, none⟩ = some (.int .i64 t2) ∧ W'.cell? ⟨w.heap.size, 3, none⟩ = some (.int .i64 t3) ∧ W'.cell? ⟨w.heap.size, 4, none⟩ = some (.int .i64 t4) ∧ W'.cell? ⟨w.heap.size, 5, none⟩ = some (.int .i64 t5) ∧ W'.cell? ⟨w.heap.size, 6, none⟩ = some (.int .i64 t6) ∧ Below w1.heap.size w1 W') (first | exact ⟨x0, x1, x2, x3, x4, x5, x6, hB⟩ | exact ⟨k0, k1, k2, k3, k4, k5, k6, kb⟩ | assumption)
          (first
            | (go_at_call 15; ((with_reducible refine (HC1.out _ (by assumption)).mono ?_)); rintro e w6 ⟨rfl, k0, k1, k2, k3, k4, k5, k6, kb⟩)
            | (go_at_call 15; ((with_reducible refine (HC2.out _ (by assumption)).mono ?_)); rintro e w6 ⟨rfl, k0, k1, k2, k3, k4, k5, k6, kb⟩))
        all_goals
          have KB := Lib.hid (below_next HB1.out kb)
          clear k0 k1 k2 k3 k4 k5 k6 kb
          go_wp2
          go_ret
          exact ⟨rfl, KB.out⟩

theorem walk (t : Ld.T) (A : Option Addr) (m c : Nat) (l : List Ld.O) {W : World} (hl : l.length = m) (hmc : m ≤ c) (hcm : c ≤ maxLen) (hv : OrdersAt W A l) (at' : Int) (_h : (Lit.int .i64 at').wf = true) :
    Calls Try.prog 4 #[.agg #[.int .i64 t.id, .int .i64 t.weight, .int .i64 t.volume, .int .i64 t.start, .int .i64 t.fin, .int .i64 t.fixed, .int .i64 t.rate], .slice A m c, .int .i64 at'] W fun e w' => e = .returned (.bool true) ∧ Below W.heap.size W w' := by
  by_cases h : 200 < m ∨ at' < 0 ∨ (m : Int) < at'
  · exact out_any _ _ _ _ _ _ _ A m c at' W (Nat.le_trans hmc hcm) h
  · obtain ⟨k, rfl⟩ := Int.eq_ofNat_of_zero_le (show 0 ≤ at' by omega)
    exact in_any _ _ _ _ _ _ _ A m c l k W hl hmc (by omega) (by omega) hv

set_option maxRecDepth 100000 in
theorem lifted (os : Os) (started : os.Started) (H : Type) (enc : TypeId × Value → H) :
    ReturnsInHanded {} Try.checked os 4 .any (Rows.loadLessSpec.pre6 enc Try.prog Try.f4 Rows.loadLessRow.domain false) (Rows.loadLessSpec.post enc Try.prog Try.f4 false true false false) := by
  refine returnsInHanded_of_change_sized (C := Try.checked) own started (by kernel_rfl) Try.func4
    (ChangeSpec.witness6 (enc := enc) (C := Try.checked) false ⟨#[], #[.agg #[.int .i64 0, .int .i64 0, .int .i64 0, .int .i64 0, .int .i64 0, .int .i64 0, .int .i64 0], .slice none 0 0, .int .i64 0], []⟩ 8 (by kernel_rfl) (by kernel_rfl) (by kernel_rfl) (by kernel_rfl)) ?_
  intro W base args ds gs before hval0 hW _ hsz0 _
  have hsz : (DataW.weightsEach Try.prog (Try.f4.params.toList ++ Rows.loadLessSpec.plain.varTypes Try.prog) (ds ++ gs)).all (· ≤ reachBytes) = true := hsz0
  have hval : ∀ (j : Nat) t v, Try.f4.params[j]? = some t → args[j]? = some v → Value.okWide Try.prog W .any base t v := hval0
  have hW' := hW
  obtain ⟨p, q, hA0, hV, rfl, hfz, hnd⟩ := hW
  have hA : DataW.TrodAll enc Try.prog W 0 (fun _ => true) true Try.f4.params.toList args.toList ds p := hA0
  rw [Try.params4] at hA hval hsz
  obtain ⟨v0, vs0, d0, ds0, p0, q0, hargs, rfl, rfl, h0, r0⟩ := trodAll_cons hA
  obtain ⟨v1, vs1, d1, ds1, p1, q1, rfl, rfl, rfl, h1, r1⟩ := trodAll_cons r0
  obtain ⟨v2, vs2, d2, ds2, p2, q2, rfl, rfl, rfl, h2, r2⟩ := trodAll_cons r1
  obtain ⟨rfl, rfl, rfl⟩ := trodAll_nil r2
  obtain rfl : args = #[v0, v1, v2] := by cases args; simp_all
  obtain ⟨rfl, rfl⟩ := trodVars_none hV
  have k0 := h0
  have lt0 : ∀ x ∈ p0, x.block < W.heap.size := by obtain ⟨m, hm⟩ := k0; exact DataW.trod_lt m _ _ _ hm
  obtain ⟨t0, rfl⟩ := open_truck (hval 0 30 v0 rfl rfl) h0
  have k1 := h1
  have lt1 : ∀ x ∈ p1, x.block < W.heap.size := by obtain ⟨m, hm⟩ := k1; exact DataW.trod_lt m _ _ _ hm
  obtain ⟨a1, len1, cap1, l1, rfl, hl1, hlc1, hcm1, hv1⟩ := open_orders (hval 1 25 v1 rfl rfl) h1
  obtain ⟨a2, rfl, rfl, rfl, w2⟩ := open_int Try.underlying3 (hval 2 3 v2 rfl rfl) h2
  clear hA0 hval0
  refine (walk t0 a1 len1 cap1 l1 hl1 hlc1 hcm1 hv1 a2 w2).mono fun e W' ⟨he, bel⟩ => ?_
  subst he
  exact ⟨_, rfl, _, _, _, [], _, [], hW', trodAll_mk1 (shut_bool Try.underlying4 _), (trodAll_cons_mk (Below.trod laidOut (by kernel_rfl) (of_decide_eq_true (by kernel_rfl)) k0 bel lt0) (trodAll_cons_mk (Below.trod laidOut (by kernel_rfl) (of_decide_eq_true (by kernel_rfl)) k1 bel lt1) (trodAll_cons_mk (shut_int Try.underlying3 w2) trodAll_mk0))), rfl, bel.frame _, fun h => by cases h⟩

theorem over : Rows.loadLessRow.holds Try.pinned (OpenSpec.ofChange Rows.loadLessSpec) :=
  OpenClaim.holds_of_wide 4 Try.f4 rfl rfl rfl rfl rfl rfl rfl ⟨rfl, rfl, rfl, rfl, rfl⟩ rfl rfl rfl rfl rfl (by kernel_rfl) Try.func4 (by kernel_rfl)
    (of_decide_eq_true (by kernel_rfl)) (by unfold Func.isWrapper; first | (rw [if_pos (by decide +kernel)]; kernel_rfl) | (rw [if_neg (by decide +kernel)]; exact ⟨rfl, rfl⟩))
    (fun os started H enc _ => lifted os started H enc)

theorem proved : Rows.LoadLessSaid := over
end Go.Proofs.Ytgdgdalegoabpaa.loadLess
