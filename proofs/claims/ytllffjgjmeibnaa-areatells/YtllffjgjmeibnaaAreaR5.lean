/- The document's answer for areas: Near, whatever it is given; each as the law calls it. -/
import Derived.Test.YtllffjgjmeibnaaAreaR4
namespace Go.Proofs.Ytllffjgjmeibnaa
open Go.RowKit Go.Shelf
set_option linter.unusedVariables false

set_option maxHeartbeats 2000000 in
set_option maxRecDepth 100000 in
theorem rnear_any (N : Int) (dA : Option Addr) (dm dc : Nat) (D : List Int) (tA : Option Addr) (tm tc : Nat) (T : List Int) (t : Int) (A : Option Addr) (m c : Nat) (l : List Int) (w : World) (h : AreaAt w dA dm D tA tm T) (hm : l.length = m) (hm2 : m ≤ 1000) (hl : IntsAt w A l) :
    Calls Try.prog 12 #[.agg #[.int .i64 N, .slice dA dm dc, .slice tA tm tc], .int .i64 t, .slice A m c] w fun e w' => e = .returned (.tuple #[.int .i64 (Ar.nearS N D T t l).1, .int .i64 (Ar.nearS N D T t l).2]) ∧ Below w.heap.size w w' := by
  have HB0 : Hid (Below w.heap.size w (w.alloc (.cells #[.int .i64 N, .slice dA dm dc, .slice tA tm tc] 24))) := below_alloc _ _
  have HX := Lib.hid (Boxed.new (N := N) (dc := dc) (tc := tc) h)
  cases hok : Ar.okB N D T with
  | false =>
    have e0 : Ar.nearS N D T t l = (0, 1) := by unfold Ar.nearS; rw [Ar.told_arg hok, if_neg (by decide)]
    rw [e0]
    have HC := Lib.hid (rcheck_b (N := N) (dc := dc) (tc := tc) _ 1 (Ar.check_no hok) HX.out.rows)
    clear e0 hok h hl hm
    go_enter Try.func12, Try.ntmps12
    go_wp2_with fail
    with_reducible refine HC.out.mono ?_
    rintro e w1 ⟨rfl, hb1⟩
    have HB1 := Lib.hid (below_next HB0.out hb1.out)
    clear hb1
    go_wp2
    go_ret2
    exact ⟨rfl, HB1.out⟩
  | true =>
    have HC := Lib.hid (rcheck_b (N := N) (dc := dc) (tc := tc) _ 0 (Ar.check_yes hok) HX.out.rows)
    have HL : Hid (IntsAt (w.alloc (.cells #[.int .i64 N, .slice dA dm dc, .slice tA tm tc] 24)) A l) := hl.below HB0.out
    have HM := Lib.hid hm
    cases hin : Ar.insB N l with
    | true =>
      cases hbt : Ar.hasB N t with
      | true =>
        by_cases hm100 : m ≤ 100
        · exact rnear_in N dA dm dc D tA tm tc T N.toNat t A m c l w h hm hm100 hl (Ar.ok_of hok) hok hin hbt
        · have e0 : Ar.nearS N D T t l = (0, 4) := by unfold Ar.nearS; rw [if_pos (Ar.told_ok hok hin), if_pos hbt, if_pos (by omega)]
          rw [e0]
          have HIT : Hid (Ar.insB N [t] = true) := by unfold Hid; rw [Ar.ins_cons, hbt]; rfl
          have d100 : decide ((100 : Int) < (m : Int)) = true := decide_eq_true (by omega)
          have HIN := Lib.hid hin
          clear e0 hok hin hbt h hl hm
          go_enter Try.func12, Try.ntmps12
          go_wp2_with fail
          generalize w.alloc (.cells #[.int .i64 N, .slice dA dm dc, .slice tA tm tc] 24) = W at *
          with_reducible refine HC.out.mono ?_
          rintro e w1 ⟨rfl, hb1⟩
          have HB1 := Lib.hid (below_next HB0.out hb1.out)
          have HL1 := Lib.hid (HL.out.below hb1.out)
          have HX1 := Lib.hid (HX.out.below hb1.out)
          have x0 := HX1.out.c0
          have x1 := HX1.out.c1
          have x2 := HX1.out.c2
          clear hb1 HC
          go_wp2_with fail
          with_reducible refine (rin_b (N := N) A m c l w1 true HIN.out HM.out (by omega) HL1.out).mono ?_
          rintro e w2 ⟨rfl, hb2⟩
          have HB2 := Lib.hid (below_next HB1.out hb2.out)
          clear x0 x1 x2
          have x0 := (HX1.out.below hb2.out).c0
          have x1 := (HX1.out.below hb2.out).c1
          have x2 := (HX1.out.below hb2.out).c2
          clear hb2
          go_wp2_with fail
          with_reducible refine (rin_b (N := N) (some ⟨w2.heap.size, 0, none⟩) 1 1 [t] _ true HIT.out rfl (by omega) (ints1 w2 t _)).mono ?_
          rintro e w3 ⟨rfl, hb3⟩
          have HB3 := Lib.hid (below_next (below_next HB2.out (below_alloc _ _)) hb3.out)
          clear hb3 x0 x1 x2
          go_wp2
          go_ret2
          exact ⟨rfl, HB3.out⟩
      | false =>
        have e0 : Ar.nearS N D T t l = (0, 5) := by unfold Ar.nearS; rw [if_pos (Ar.told_ok hok hin), hbt]; rfl
        rw [e0]
        have HIT : Hid (Ar.insB N [t] = false) := by unfold Hid; rw [Ar.ins_cons, hbt]; rfl
        have HIN := Lib.hid hin
        clear e0 hok hin hbt h hl hm
        go_enter Try.func12, Try.ntmps12
        go_wp2_with fail
        generalize w.alloc (.cells #[.int .i64 N, .slice dA dm dc, .slice tA tm tc] 24) = W at *
        with_reducible refine HC.out.mono ?_
        rintro e w1 ⟨rfl, hb1⟩
        have HB1 := Lib.hid (below_next HB0.out hb1.out)
        have HL1 := Lib.hid (HL.out.below hb1.out)
        have HX1 := Lib.hid (HX.out.below hb1.out)
        have x0 := HX1.out.c0
        have x1 := HX1.out.c1
        have x2 := HX1.out.c2
        clear hb1 HC
        go_wp2_with fail
        with_reducible refine (rin_b (N := N) A m c l w1 true HIN.out HM.out (by omega) HL1.out).mono ?_
        rintro e w2 ⟨rfl, hb2⟩
        have HB2 := Lib.hid (below_next HB1.out hb2.out)
        clear x0 x1 x2
        have x0 := (HX1.out.below hb2.out).c0
        have x1 := (HX1.out.below hb2.out).c1
        have x2 := (HX1.out.below hb2.out).c2
        clear hb2
        go_wp2_with fail
        with_reducible refine (rin_b (N := N) (some ⟨w2.heap.size, 0, none⟩) 1 1 [t] _ false HIT.out rfl (by omega) (ints1 w2 t _)).mono ?_
        rintro e w3 ⟨rfl, hb3⟩
        have HB3 := Lib.hid (below_next (below_next HB2.out (below_alloc _ _)) hb3.out)
        clear hb3 x0 x1 x2
        go_wp2
        go_ret2
        exact ⟨rfl, HB3.out⟩
    | false =>
      have e0 : Ar.nearS N D T t l = (0, 5) := by unfold Ar.nearS; rw [Ar.told_name hok hin, if_neg (by decide)]
      rw [e0]
      have HIN := Lib.hid hin
      clear e0 hok hin h hl hm
      go_enter Try.func12, Try.ntmps12
      go_wp2_with fail
      generalize w.alloc (.cells #[.int .i64 N, .slice dA dm dc, .slice tA tm tc] 24) = W at *
      with_reducible refine HC.out.mono ?_
      rintro e w1 ⟨rfl, hb1⟩
      have HB1 := Lib.hid (below_next HB0.out hb1.out)
      have HL1 := Lib.hid (HL.out.below hb1.out)
      have x0 := (HX.out.below hb1.out).c0
      have x1 := (HX.out.below hb1.out).c1
      have x2 := (HX.out.below hb1.out).c2
      clear hb1 HC
      go_wp2_with fail
      with_reducible refine (rin_b (N := N) A m c l w1 false HIN.out HM.out (by omega) HL1.out).mono ?_
      rintro e w2 ⟨rfl, hb2⟩
      have HB2 := Lib.hid (below_next HB1.out hb2.out)
      clear hb2 x0 x1 x2
      go_wp2
      go_ret2
      exact ⟨rfl, HB2.out⟩

section
variable {N : Int} {dA tA : Option Addr} {dm dc tm tc : Nat} {D T : List Int} {w W : World}
theorem rtour_b (A : Option Addr) (m c : Nat) (l : List Int) (r1 r2 r3 : Int) (h : AreaAt w dA dm D tA tm T) (hm : l.length = m) (hm2 : m ≤ 1000) (hl : IntsAt W A l) (hb : Below w.heap.size w W) (hr : Ar.tourS N D T l = (r1, r2, r3)) :
    Calls Try.prog 10 #[.agg #[.int .i64 N, .slice dA dm dc, .slice tA tm tc], .slice A m c] W fun e w' => e = .returned (.tuple #[.int .i64 r1, .int .i64 r2, .int .i64 r3]) ∧ Hid (Below W.heap.size W w') :=
  (rtour_any N dA dm dc D tA tm tc T A m c l W (h.below hb) hm hm2 hl).mono fun _ _ ⟨e1, e2⟩ => ⟨by rw [e1, hr], e2⟩
theorem rnear_b (t : Int) (A : Option Addr) (m c : Nat) (l : List Int) (r1 r2 : Int) (h : AreaAt w dA dm D tA tm T) (hm : l.length = m) (hm2 : m ≤ 1000) (hl : IntsAt W A l) (hb : Below w.heap.size w W) (hr : Ar.nearS N D T t l = (r1, r2)) :
    Calls Try.prog 12 #[.agg #[.int .i64 N, .slice dA dm dc, .slice tA tm tc], .int .i64 t, .slice A m c] W fun e w' => e = .returned (.tuple #[.int .i64 r1, .int .i64 r2]) ∧ Hid (Below W.heap.size W w') :=
  (rnear_any N dA dm dc D tA tm tc T t A m c l W (h.below hb) hm hm2 hl).mono fun _ _ ⟨e1, e2⟩ => ⟨by rw [e1, hr], e2⟩
end
end Go.Proofs.Ytllffjgjmeibnaa
