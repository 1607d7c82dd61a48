/- The document's answer for areas: Tour, whatever it is given; Near. -/
import Derived.Test.YtmidkjlikhngmaaGreatAreaR3
namespace Go.Proofs.YtmidkjlikhngmaaGreat
open Go.RowKit Go.Shelf
set_option linter.unusedVariables false

set_option maxHeartbeats 2000000 in
set_option maxRecDepth 100000 in
theorem rtour_any (N : Int) (dA : Option Addr) (dm dc : Nat) (D : List Int) (tA : Option Addr) (tm tc : Nat) (T : List Int) (A : Option Addr) (m c : Nat) (l : List Int) (w : World) (h : AreaAt w dA dm D tA tm T) (hm : l.length = m) (hm2 : m ≤ 1000) (hl : IntsAt w A l) :
    Calls Tryz.prog 46 #[.agg #[.int .i64 N, .slice dA dm dc, .slice tA tm tc], .slice A m c] w fun e w' => e = .returned (.tuple #[.int .i64 (Ar.tourS N D T l).1, .int .i64 (Ar.tourS N D T l).2.1, .int .i64 (Ar.tourS N D T l).2.2]) ∧ Below w.heap.size w w' := by
  have HB0 : Hid (Below w.heap.size w (w.alloc (.cells #[.int .i64 N, .slice dA dm dc, .slice tA tm tc] 24))) := below_alloc _ _
  have HX := Lib.hid (Boxed.new (N := N) (dc := dc) (tc := tc) h)
  cases hok : Ar.okB N D T with
  | false =>
    have e0 : Ar.tourS N D T l = (0, 0, 1) := by unfold Ar.tourS; rw [Ar.told_arg hok, if_neg (by decide)]
    rw [e0]
    have HC := Lib.hid (rcheck_b (N := N) (dc := dc) (tc := tc) _ 1 (Ar.check_no hok) HX.out.rows)
    clear e0 hok h hl hm
    go_enter Tryz.func46, Tryz.ntmps46
    go_wp2_with fail
    with_reducible refine HC.out.mono ?_
    rintro e w1 ⟨rfl, hb1⟩
    have HB1 := Lib.hid (below_next HB0.out hb1.out)
    clear hb1
    go_wp2
    go_ret3
    exact ⟨rfl, HB1.out⟩
  | true =>
    cases hin : Ar.insB N l with
    | true =>
      by_cases hm100 : m ≤ 100
      · have e0 : Ar.tourS N D T l = (Ar.sumX N D (Ar.tourX l), Ar.sumX N T (Ar.tourX l), 0) := by unfold Ar.tourS; rw [if_pos (Ar.told_ok hok hin), if_neg (by omega)]
        rw [e0]
        exact rtour_in N dA dm dc D tA tm tc T N.toNat A m c l w h hm hm100 hl (Ar.ok_of hok) hok hin
      · have e0 : Ar.tourS N D T l = (0, 0, 4) := by unfold Ar.tourS; rw [if_pos (Ar.told_ok hok hin), if_pos (by omega)]
        rw [e0]
        have HC := Lib.hid (rcheck_b (N := N) (dc := dc) (tc := tc) _ 0 (Ar.check_yes hok) HX.out.rows)
        have HL : Hid (IntsAt (w.alloc (.cells #[.int .i64 N, .slice dA dm dc, .slice tA tm tc] 24)) A l) := hl.below HB0.out
        have HIN := Lib.hid hin
        have HM := Lib.hid hm
        have d100 : decide ((100 : Int) < (m : Int)) = true := decide_eq_true (by omega)
        clear e0 hok hin h hl hm
        go_enter Tryz.func46, Tryz.ntmps46
        go_wp2_with fail
        generalize w.alloc (.cells #[.int .i64 N, .slice dA dm dc, .slice tA tm tc] 24) = W at *
        with_reducible refine HC.out.mono ?_
        rintro e w1 ⟨rfl, hb1⟩
        have HB1 := Lib.hid (below_next HB0.out hb1.out)
        have HL1 := Lib.hid (HL.out.below hb1.out)
        have x0 := (HX.out.below hb1.out).c0
        have x1 := (HX.out.below hb1.out).c1
        have x2 := (HX.out.below hb1.out).c2
        clear hb1 HC
        go_wp2_with fail
        with_reducible refine (rin_b (N := N) A m c l w1 true HIN.out HM.out (by omega) HL1.out).mono ?_
        rintro e w2 ⟨rfl, hb2⟩
        have HB2 := Lib.hid (below_next HB1.out hb2.out)
        clear hb2 x0 x1 x2
        go_wp2
        go_ret3
        exact ⟨rfl, HB2.out⟩
    | false =>
      have e0 : Ar.tourS N D T l = (0, 0, 5) := by unfold Ar.tourS; rw [Ar.told_name hok hin, if_neg (by decide)]
      rw [e0]
      have HC := Lib.hid (rcheck_b (N := N) (dc := dc) (tc := tc) _ 0 (Ar.check_yes hok) HX.out.rows)
      have HL : Hid (IntsAt (w.alloc (.cells #[.int .i64 N, .slice dA dm dc, .slice tA tm tc] 24)) A l) := hl.below HB0.out
      have HIN := Lib.hid hin
      have HM := Lib.hid hm
      clear e0 hok hin h hl hm
      go_enter Tryz.func46, Tryz.ntmps46
      go_wp2_with fail
      generalize w.alloc (.cells #[.int .i64 N, .slice dA dm dc, .slice tA tm tc] 24) = W at *
      with_reducible refine HC.out.mono ?_
      rintro e w1 ⟨rfl, hb1⟩
      have HB1 := Lib.hid (below_next HB0.out hb1.out)
      have HL1 := Lib.hid (HL.out.below hb1.out)
      have x0 := (HX.out.below hb1.out).c0
      have x1 := (HX.out.below hb1.out).c1
      have x2 := (HX.out.below hb1.out).c2
      clear hb1 HC
      go_wp2_with fail
      with_reducible refine (rin_b (N := N) A m c l w1 false HIN.out HM.out (by omega) HL1.out).mono ?_
      rintro e w2 ⟨rfl, hb2⟩
      have HB2 := Lib.hid (below_next HB1.out hb2.out)
      clear hb2 x0 x1 x2
      go_wp2
      go_ret3
      exact ⟨rfl, HB2.out⟩

end Go.Proofs.YtmidkjlikhngmaaGreat
