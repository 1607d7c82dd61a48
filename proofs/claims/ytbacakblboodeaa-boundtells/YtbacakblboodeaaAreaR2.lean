/- The document's answer for areas: Leg. -/
import Derived.Test.YtbacakblboodeaaAreaR1
namespace Go.Proofs.Ytbacakblboodeaa
open Go.RowKit Go.Shelf
set_option linter.unusedVariables false

section
variable {N : Int} {dA tA : Option Addr} {dm dc tm tc : Nat} {D T : List Int}
theorem rcheck_b (W : World) (r : Int) (hr : Ar.checkE N D T = r) (h : AreaAt W dA dm D tA tm T) :
    Calls Try.prog 53 #[.agg #[.int .i64 N, .slice dA dm dc, .slice tA tm tc]] W fun e w' => e = .returned (.int .i64 r) ∧ Hid (Below W.heap.size W w') := by
  subst hr
  exact rcheck_any N dA dm dc D tA tm tc T W h
theorem rin_b (A : Option Addr) (m c : Nat) (l : List Int) (W : World) (r : Bool) (hr : Ar.insB N l = r) (hm : l.length = m) (hm2 : m ≤ 1000) (hl : IntsAt W A l) :
    Calls Try.prog 56 #[.agg #[.int .i64 N, .slice dA dm dc, .slice tA tm tc], .slice A m c] W fun e w' => e = .returned (.bool r) ∧ Hid (Below W.heap.size W w') := by
  subst hr
  exact rin_any N _ _ A m c l W rfl rfl hm hm2 hl
end

set_option maxHeartbeats 2000000 in
set_option maxRecDepth 100000 in
theorem rleg_any (N : Int) (dA : Option Addr) (dm dc : Nat) (D : List Int) (tA : Option Addr) (tm tc : Nat) (T : List Int) (f t : Int) (w : World) (h : AreaAt w dA dm D tA tm T) :
    Calls Try.prog 33 #[.agg #[.int .i64 N, .slice dA dm dc, .slice tA tm tc], .int .i64 f, .int .i64 t] w fun e w' => e = .returned (.tuple #[.int .i64 (Ar.legS N D T f t).1, .int .i64 (Ar.legS N D T f t).2.1, .int .i64 (Ar.legS N D T f t).2.2]) ∧ Below w.heap.size w w' := by
  have HB0 : Hid (Below w.heap.size w (w.alloc (.cells #[.int .i64 N, .slice dA dm dc, .slice tA tm tc] 24))) := below_alloc _ _
  have HX := Lib.hid (Boxed.new (N := N) (dc := dc) (tc := tc) h)
  clear h
  cases hok : Ar.okB N D T with
  | false =>
    have e0 : Ar.legS N D T f t = (0, 0, 1) := by unfold Ar.legS; rw [Ar.told_arg hok, if_neg (by decide)]
    rw [e0]
    have HC := Lib.hid (rcheck_b (N := N) (dc := dc) (tc := tc) _ 1 (Ar.check_no hok) HX.out.rows)
    clear e0 hok
    go_enter Try.func33, Try.ntmps33
    go_wp2_with fail
    with_reducible refine HC.out.mono ?_
    rintro e w1 ⟨rfl, hb1⟩
    have HB1 := Lib.hid (below_next HB0.out hb1.out)
    clear hb1
    go_wp2
    go_ret3
    exact ⟨rfl, HB1.out⟩
  | true =>
    have HC := Lib.hid (rcheck_b (N := N) (dc := dc) (tc := tc) _ 0 (Ar.check_yes hok) HX.out.rows)
    have ho := Ar.ok_of hok
    generalize N.toNat = n at ho
    cases hin : Ar.insB N [f, t] with
    | false =>
      have e0 : Ar.legS N D T f t = (0, 0, 5) := by unfold Ar.legS; rw [Ar.told_name hok hin, if_neg (by decide)]
      rw [e0]
      have HIN := Lib.hid hin
      clear e0 hok hin ho
      go_enter Try.func33, Try.ntmps33
      go_wp2_with fail
      generalize w.alloc (.cells #[.int .i64 N, .slice dA dm dc, .slice tA tm tc] 24) = W at *
      with_reducible refine HC.out.mono ?_
      rintro e w1 ⟨rfl, hb1⟩
      have HB1 := Lib.hid (below_next HB0.out hb1.out)
      have x0 := (HX.out.below hb1.out).c0
      have x1 := (HX.out.below hb1.out).c1
      have x2 := (HX.out.below hb1.out).c2
      clear hb1 HC
      go_wp2_with fail
      with_reducible refine (rin_b (N := N) (some ⟨w1.heap.size, 0, none⟩) 2 2 [f, t] _ false HIN.out rfl (by omega) (box_row2 w1 f t _)).mono ?_
      rintro e w2 ⟨rfl, hb2⟩
      have HB2 := Lib.hid (below_next (below_next HB1.out (below_alloc _ _)) hb2.out)
      clear hb2 x0 x1 x2
      go_wp2
      go_ret3
      exact ⟨rfl, HB2.out⟩
    | true =>
      have e0 : Ar.legS N D T f t = (Ar.at2 N D f t, Ar.at2 N T f t, 0) := by unfold Ar.legS; rw [if_pos (Ar.told_ok hok hin)]
      rw [e0]
      clear e0
      obtain ⟨hf, ht⟩ : Ar.hasB N f = true ∧ Ar.hasB N t = true := by
        rw [Ar.ins_cons, Ar.ins_cons, Bool.and_eq_true, Bool.and_eq_true] at hin
        exact ⟨hin.1, hin.2.1⟩
      obtain ⟨f, rfl, hf'⟩ := Ar.has_nat ho.cast hf
      obtain ⟨t, rfl, ht'⟩ := Ar.has_nat ho.cast ht
      clear hf ht
      obtain ⟨p, ad, at', hp, hpd, hpt, rfl, rfl, hc1, hc2⟩ := at_ok ho HX.out.rows hf' ht'
      obtain ⟨q, hq⟩ : ∃ q, q = f * n := ⟨_, rfl⟩
      have hple := Ar.place_le ho.n16 hf' ht'
      have hmul : (f : Int) * N = (q : Int) := by rw [ho.cast, hq]; simp
      have hqp : (q : Int) + (t : Int) = (p : Int) := by rw [hp, hq]; simp
      have hp256 : p ≤ 256 := by rw [hp]; exact hple.2
      have hq256 : q ≤ 256 := by rw [hq]; exact hple.1
      have wq : IntKind.i64.wrap (q : Int) = (q : Int) := IntWalk.i64_in _ (by omega)
      have wp : IntKind.i64.wrap (p : Int) = (p : Int) := IntWalk.i64_in _ (by omega)
      have HIN := Lib.hid hin
      have HC1 := Lib.hid hc1
      have HC2 := Lib.hid hc2
      clear hc1 hc2 hp hq ho hf' ht' hok hin hple
      generalize Ar.at2 N D (f : Int) (t : Int) = dd at *
      generalize Ar.at2 N T (f : Int) (t : Int) = tt at *
      go_enter Try.func33, Try.ntmps33
      go_wp2_with fail
      generalize w.alloc (.cells #[.int .i64 N, .slice (some ad) dm dc, .slice (some at') tm tc] 24) = W at *
      with_reducible refine HC.out.mono ?_
      rintro e w1 ⟨rfl, hb1⟩
      have HB1 := Lib.hid (below_next HB0.out hb1.out)
      have HX1 := Lib.hid (HX.out.below hb1.out)
      have HD1 : Hid (w1.cell? (ad.add p) = some (.int .i64 dd)) := by unfold Hid; rw [hb1.out.cell (p := ad.add p) (lt_of_cell HC1.out)]; exact HC1.out
      have HD2 : Hid (w1.cell? (at'.add p) = some (.int .i64 tt)) := by unfold Hid; rw [hb1.out.cell (p := at'.add p) (lt_of_cell HC2.out)]; exact HC2.out
      have x0 := HX1.out.c0
      have x1 := HX1.out.c1
      have x2 := HX1.out.c2
      clear hb1 HC HC1 HC2
      go_wp2_with fail
      with_reducible refine (rin_b (N := N) (some ⟨w1.heap.size, 0, none⟩) 2 2 [(f : Int), (t : Int)] _ true HIN.out rfl (by omega) (box_row2 w1 f t _)).mono ?_
      rintro e w2 ⟨rfl, hb2⟩
      have hb12 := below_next (below_alloc w1 (.cells #[.int .i64 (f : Int), .int .i64 (t : Int)] 3)) hb2.out
      have HB2 := Lib.hid (below_next HB1.out hb12)
      clear x0 x1 x2
      have x0 := (HX1.out.below hb12).c0
      have x1 := (HX1.out.below hb12).c1
      have x2 := (HX1.out.below hb12).c2
      have y1 : w2.cell? (ad.add p) = some (.int .i64 dd) := by rw [hb12.cell (p := ad.add p) (lt_of_cell HD1.out)]; exact HD1.out
      have y2 : w2.cell? (at'.add p) = some (.int .i64 tt) := by rw [hb12.cell (p := at'.add p) (lt_of_cell HD2.out)]; exact HD2.out
      have i0 : (0 : Int) ≤ (p : Int) := by omega
      have i1 : (p : Int) < (dm : Int) := by omega
      have i2 : (p : Int) < (tm : Int) := by omega
      clear hb2 hb12 HX1 HB1 HD1 HD2 HX HB0
      go_wp2
      go_quiet (fail)
      go_wp2
      go_ret3
      exact ⟨rfl, HB2.out.trans ⟨rfl, rfl, rfl, Nat.le_refl _, fun _ _ => rfl⟩⟩

theorem rleg_b {N : Int} {dA tA : Option Addr} {dm dc tm tc : Nat} {D T : List Int} {w W : World} (f t r1 r2 r3 : Int) (h : AreaAt w dA dm D tA tm T) (hb : Below w.heap.size w W) (hr : Ar.legS N D T f t = (r1, r2, r3)) :
    Calls Try.prog 33 #[.agg #[.int .i64 N, .slice dA dm dc, .slice tA tm tc], .int .i64 f, .int .i64 t] W fun e w' => e = .returned (.tuple #[.int .i64 r1, .int .i64 r2, .int .i64 r3]) ∧ Hid (Below W.heap.size W w') :=
  (rleg_any N dA dm dc D tA tm tc T f t W (h.below hb)).mono fun _ _ ⟨e1, e2⟩ => ⟨by rw [e1, hr], e2⟩
end Go.Proofs.Ytbacakblboodeaa
