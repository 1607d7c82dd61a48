/- The document's answer for areas: Tour, whatever it is given; Near. -/
import Derived.Test.YtllffjgjmeibnaaAreaR3
namespace Go.Proofs.Ytllffjgjmeibnaa
open Go.RowKit Go.Shelf
set_option linter.unusedVariables false

set_option maxHeartbeats 2000000 in
set_option maxRecDepth 100000 in
theorem rtour_any (N : Int) (dA : Option Addr) (dm dc : Nat) (D : List Int) (tA : Option Addr) (tm tc : Nat) (T : List Int) (A : Option Addr) (m c : Nat) (l : List Int) (w : World) (h : AreaAt w dA dm D tA tm T) (hm : l.length = m) (hm2 : m ≤ 1000) (hl : IntsAt w A l) :
    Calls Try.prog 10 #[.agg #[.int .i64 N, .slice dA dm dc, .slice tA tm tc], .slice A m c] w fun e w' => e = .returned (.tuple #[.int .i64 (Ar.tourS N D T l).1, .int .i64 (Ar.tourS N D T l).2.1, .int .i64 (Ar.tourS N D T l).2.2]) ∧ Below w.heap.size w w' := by
  have HB0 : Hid (Below w.heap.size w (w.alloc (.cells #[.int .i64 N, .slice dA dm dc, .slice tA tm tc] 24))) := below_alloc _ _
  have HX := Lib.hid (Boxed.new (N := N) (dc := dc) (tc := tc) h)
  cases hok : Ar.okB N D T with
  | false =>
    have e0 : Ar.tourS N D T l = (0, 0, 1) := by unfold Ar.tourS; rw [Ar.told_arg hok, if_neg (by decide)]
    rw [e0]
    have HC := Lib.hid (rcheck_b (N := N) (dc := dc) (tc := tc) _ 1 (Ar.check_no hok) HX.out.rows)
    clear e0 hok h hl hm
    go_enter Try.func10, Try.ntmps10
    go_wp2_with fail
    with_reducible refine HC.out.mono ?_
    rintro e w1 ⟨rfl, hb1⟩
    have HB1 := Lib.hid (below_next HB0.out hb1.out)
    clear hb1
    go_wp2
    go_ret3
    exact ⟨rfl, HB1.out⟩
  | true =>
    cases hin : Ar.insB N l with
    | true =>
      by_cases hm100 : m ≤ 100
      · have e0 : Ar.tourS N D T l = (Ar.sumX N D (Ar.tourX l), Ar.sumX N T (Ar.tourX l), 0) := by unfold Ar.tourS; rw [if_pos (Ar.told_ok hok hin), if_neg (by omega)]
        rw [e0]
        exact rtour_in N dA dm dc D tA tm tc T N.toNat A m c l w h hm hm100 hl (Ar.ok_of hok) hok hin
      · have e0 : Ar.tourS N D T l = (0, 0, 4) := by unfold Ar.tourS; rw [if_pos (Ar.told_ok hok hin), if_pos (by omega)]
        rw [e0]
        have HC := Lib.hid (rcheck_b (N := N) (dc := dc) (tc := tc) _ 0 (Ar.check_yes hok) HX.out.rows)
        have HL : Hid (IntsAt (w.alloc (.cells #[.int .i64 N, .slice dA dm dc, .slice tA tm tc] 24)) A l) := hl.below HB0.out
        have HIN := Lib.hid hin
        have HM := Lib.hid hm
        have d100 : decide ((100 : Int) < (m : Int)) = true := decide_eq_true (by omega)
        clear e0 hok hin h hl hm
        go_enter Try.func10, Try.ntmps10
        go_wp2_with fail
        generalize w.alloc (.cells #[.int .i64 N, .slice dA dm dc, .slice tA tm tc] 24) = W at *
        with_reducible refine HC.out.mono ?_
        rintro e w1 ⟨rfl, hb1⟩
        have HB1 := Lib.hid (below_next HB0.out hb1.out)
        have HL1 := Lib.hid (HL.out.below hb1.out)
        have x0 := (HX.out.below hb1.out).c0
        have x1 := (HX.out.below hb1.out).c1
        have x2 := (HX.out.below hb1.out).c2
        clear hb1 HC
        go_wp2_with fail
        with_reducible refine (rin_b (N := N) A m c l w1 true HIN.out HM.out (by omega) HL1.out).mono ?_
        rintro e w2 ⟨rfl, hb2⟩
        have HB2 := Lib.hid (below_next HB1.out hb2.out)
        clear hb2 x0 x1 x2
        go_wp2
        go_ret3
        exact ⟨rfl, HB2.out⟩
    | false =>
      have e0 : Ar.tourS N D T l = (0, 0, 5) := by unfold Ar.tourS; rw [Ar.told_name hok hin, if_neg (by decide)]
      rw [e0]
      have HC := Lib.hid (rcheck_b (N := N) (dc := dc) (tc := tc) _ 0 (Ar.check_yes hok) HX.out.rows)
      have HL : Hid (IntsAt (w.alloc (.cells #[.int .i64 N, .slice dA dm dc, .slice tA tm tc] 24)) A l) := hl.below HB0.out
      have HIN := Lib.hid hin
      have HM := Lib.hid hm
      clear e0 hok hin h hl hm
      go_enter Try.func10, Try.ntmps10
      go_wp2_with fail
      generalize w.alloc (.cells #[.int .i64 N, .slice dA dm dc, .slice tA tm tc] 24) = W at *
      with_reducible refine HC.out.mono ?_
      rintro e w1 ⟨rfl, hb1⟩
      have HB1 := Lib.hid (below_next HB0.out hb1.out)
      have HL1 := Lib.hid (HL.out.below hb1.out)
      have x0 := (HX.out.below hb1.out).c0
      have x1 := (HX.out.below hb1.out).c1
      have x2 := (HX.out.below hb1.out).c2
      clear hb1 HC
      go_wp2_with fail
      with_reducible refine (rin_b (N := N) A m c l w1 false HIN.out HM.out (by omega) HL1.out).mono ?_
      rintro e w2 ⟨rfl, hb2⟩
      have HB2 := Lib.hid (below_next HB1.out hb2.out)
      clear hb2 x0 x1 x2
      go_wp2
      go_ret3
      exact ⟨rfl, HB2.out⟩

theorem nearF_lo {N : Int} {D T : List Int} {n : Nat} (h : Ar.Ok N D T n) {t : Int} (ht : Ar.hasB N t = true) {l : List Int} (hl : Ar.insB N l = true) : Ar.nearF N D t l = -1 ∨ 0 ≤ Ar.nearF N D t l := by
  rcases Ar.near_inv h ht l hl with h | h
  · exact .inl h.1
  · exact .inr h.1

set_option maxHeartbeats 4000000 in
set_option maxRecDepth 100000 in
theorem rnear_in (N : Int) (dA : Option Addr) (dm dc : Nat) (D : List Int) (tA : Option Addr) (tm tc : Nat) (T : List Int) (n : Nat) (t : Int) (A : Option Addr) (m c : Nat) (l : List Int) (w : World) (h : AreaAt w dA dm D tA tm T) (hm : l.length = m) (hm2 : m ≤ 100) (hl : IntsAt w A l)
    (ho : Ar.Ok N D T n) (hok : Ar.okB N D T = true) (hin : Ar.insB N l = true) (hbt : Ar.hasB N t = true) :
    Calls Try.prog 12 #[.agg #[.int .i64 N, .slice dA dm dc, .slice tA tm tc], .int .i64 t, .slice A m c] w fun e w' => e = .returned (.tuple #[.int .i64 (Ar.nearS N D T t l).1, .int .i64 (Ar.nearS N D T t l).2]) ∧ Below w.heap.size w w' := by
  have HB0 : Hid (Below w.heap.size w (w.alloc (.cells #[.int .i64 N, .slice dA dm dc, .slice tA tm tc] 24))) := below_alloc _ _
  have HX := Lib.hid (Boxed.new (N := N) (dc := dc) (tc := tc) h)
  have HL : Hid (IntsAt (w.alloc (.cells #[.int .i64 N, .slice dA dm dc, .slice tA tm tc] 24)) A l) := hl.below HB0.out
  have HM := Lib.hid hm
  have HS : Hid (Ar.nearS N D T t l = if Ar.nearF N D t l = -1 then (0, 2) else (Ar.nearF N D t l, 0)) := by
    unfold Hid Ar.nearS
    rw [if_pos (Ar.told_ok hok hin), if_pos hbt, if_neg (by omega)]
  have HO := Lib.hid ho
  have HOK := Lib.hid hok
  have HIN := Lib.hid hin
  have HBT := Lib.hid hbt
  have HIT : Hid (Ar.insB N [t] = true) := by unfold Hid; rw [Ar.ins_cons, hbt]; rfl
  have HC := Lib.hid (rcheck_b (N := N) (dc := dc) (tc := tc) _ 0 (Ar.check_yes hok) HX.out.rows)
  have d100 : decide ((100 : Int) < (m : Int)) = false := decide_eq_false (by omega)
  clear h hl hm ho hok hin hbt
  generalize Ar.nearS N D T t l = ns at *
  go_enter Try.func12, Try.ntmps12
  go_wp2_with fail
  generalize w.alloc (.cells #[.int .i64 N, .slice dA dm dc, .slice tA tm tc] 24) = W at *
  with_reducible refine HC.out.mono ?_
  rintro e w1 ⟨rfl, hb1⟩
  have HB1 := Lib.hid (below_next HB0.out hb1.out)
  have HX1 := Lib.hid (HX.out.below hb1.out)
  have HL1 := Lib.hid (HL.out.below hb1.out)
  have x0 := HX1.out.c0
  have x1 := HX1.out.c1
  have x2 := HX1.out.c2
  clear hb1 HC HX HL HB0
  go_wp2_with fail
  with_reducible refine (rin_b (N := N) A m c l w1 true HIN.out HM.out (by omega) HL1.out).mono ?_
  rintro e w2 ⟨rfl, hb2⟩
  have HB2 := Lib.hid (below_next HB1.out hb2.out)
  have HX2 := Lib.hid (HX1.out.below hb2.out)
  have HL2 := Lib.hid (HL1.out.below hb2.out)
  clear hb2 HX1 HL1 HB1 x0 x1 x2
  have x0 := HX2.out.c0
  have x1 := HX2.out.c1
  have x2 := HX2.out.c2
  go_wp2_with fail
  with_reducible refine (rin_b (N := N) (some ⟨w2.heap.size, 0, none⟩) 1 1 [t] _ true HIT.out rfl (by omega) (ints1 w2 t _)).mono ?_
  rintro e w3 ⟨rfl, hb3⟩
  have hb23 := below_next (below_alloc w2 (.cells #[.int .i64 t] 3)) hb3.out
  have HB3 := Lib.hid (below_next HB2.out hb23)
  have HX3 := Lib.hid (HX2.out.below hb23)
  have HL3 := Lib.hid (HL2.out.below hb23)
  clear hb3 hb23 HX2 HL2 HB2 x0 x1 x2
  go_wp2
  go_loopg [8, 9] m (fun gk s8 s9 Wr => ∃ (k : Nat), k + gk = m ∧ s8 = .int .i64 (Ar.nearF N D t (l.take k)) ∧ s9 = .int .i64 k ∧ Hid (Below w3.heap.size w3 Wr))
  case atStart => exact ⟨0, by omega, rfl, rfl, Below.refl _ _⟩
  case round =>
    obtain ⟨k, hkg, rfl, rfl, HB⟩ := hrel
    have HX4 := Lib.hid (HX3.out.below HB.out)
    have HB4 := Lib.hid (below_next HB3.out HB.out)
    by_cases hlt : k < m
    · obtain ⟨gk, rfl⟩ : ∃ j, gk = j + 1 := ⟨gk - 1, by omega⟩
      obtain ⟨x, hx, hmem⟩ := Ar.some_at l k (by rw [HM.out]; exact hlt)
      obtain ⟨ad, rfl, c1⟩ := (HL3.out.below HB.out) k x hx
      have hsn := Ar.nearF_snoc N D t (l.take k) x
      rw [← Ar.take_snoc l k x hx] at hsn
      have HSN := Lib.hid hsn
      have hlo := nearF_lo HO.out HBT.out (Ar.ins_take HIN.out k)
      have hh1 := (Ar.ins_iff N l).1 HIN.out x hmem
      have HLS := Lib.hid (legS_in HOK.out hh1 HBT.out)
      have HLEG : Hid (∀ W' : World, (W'.cell? ⟨w.heap.size, 0, none⟩ = some (.int .i64 N) ∧ W'.cell? ⟨w.heap.size, 1, none⟩ = some (.slice dA dm dc) ∧ W'.cell? ⟨w.heap.size, 2, none⟩ = some (.slice tA tm tc) ∧ W'.cell? (ad.add k) = some (.int .i64 x) ∧ Below w3.heap.size w3 W') →
          Calls Try.prog 8 #[.agg #[.int .i64 N, .slice dA dm dc, .slice tA tm tc], .int .i64 x, .int .i64 t] W' fun e w' => e = .returned (.tuple #[.int .i64 (Ar.at2 N D x t), .int .i64 (Ar.at2 N T x t), .int .i64 0]) ∧ (w'.cell? ⟨w.heap.size, 0, none⟩ = some (.int .i64 N) ∧ w'.cell? ⟨w.heap.size, 1, none⟩ = some (.slice dA dm dc) ∧ w'.cell? ⟨w.heap.size, 2, none⟩ = some (.slice tA tm tc) ∧ w'.cell? (ad.add k) = some (.int .i64 x) ∧ Below w3.heap.size w3 w')) := fun W' hW => by
        obtain ⟨e0, e1, e2, e3, e5⟩ := hW
        refine (rleg_b (w := w3) x t _ _ _ HX3.out.rows e5 HLS.out).mono fun _ _ ⟨p1, p2⟩ => ⟨p1, ?_⟩
        have hk : ∀ (pp : Addr) (v : Value), W'.cell? pp = some v → _ := fun pp v hv => (p2.out.cell (p := pp) (lt_of_cell hv)).trans hv
        exact ⟨hk _ _ e0, hk _ _ e1, hk _ _ e2, hk _ _ e3, below_next e5 p2.out⟩
      have i0 : (0 : Int) ≤ (k : Int) := by omega
      have i1 : (k : Int) < (m : Int) := by omega
      have x0 := HX4.out.c0
      have x1 := HX4.out.c1
      have x2 := HX4.out.c2
      have hB := HB.out.drew
      have HA0 : Hid (x = t → Ar.nearF N D t (l.take (k + 1)) = Ar.nearF N D t (l.take k)) := fun h => HSN.out.trans (step_eq h)
      have HA1 : Hid (x ≠ t → (Ar.nearF N D t (l.take k) = -1 ∨ Ar.at2 N D x t < Ar.nearF N D t (l.take k)) → Ar.nearF N D t (l.take (k + 1)) = Ar.at2 N D x t) := fun h h2 => HSN.out.trans (step_new h h2)
      have HA2 : Hid (x ≠ t → ¬ (Ar.nearF N D t (l.take k) = -1 ∨ Ar.at2 N D x t < Ar.nearF N D t (l.take k)) → Ar.nearF N D t (l.take (k + 1)) = Ar.nearF N D t (l.take k)) := fun h h2 => HSN.out.trans (step_old h h2)
      clear hx hmem hsn hh1 HSN
      generalize Ar.at2 N D x t = dd at *
      generalize Ar.at2 N T x t = tt at *
      generalize Ar.nearF N D t (l.take k) = a at *
      have HLO := Lib.hid hlo
      clear hlo
      go_wp2
      go_region_held3 (fun W' : World => W'.cell? ⟨w.heap.size, 0, none⟩ = some (.int .i64 N) ∧ W'.cell? ⟨w.heap.size, 1, none⟩ = some (.slice dA dm dc) ∧ W'.cell? ⟨w.heap.size, 2, none⟩ = some (.slice tA tm tc) ∧ W'.cell? (ad.add k) = some (.int .i64 x) ∧ Below w3.heap.size w3 W') (first | exact ⟨x0, x1, x2, c1, hB⟩ | exact ⟨k0, k1, k2, k3, kb⟩ | assumption)
        (first
          | (go_at_call 8; ((with_reducible refine (HLEG.out _ (by assumption)).mono ?_)); rintro e w7 ⟨rfl, k0, k1, k2, k3, kb⟩))
      have KB := Lib.hid kb
      clear k0 k1 k2 kb x0 x1 x2 c1 hB HLEG
      by_cases hxt : x = t
      · have d1 : (x != t) = false := by rw [hxt]; simp
        have HA3 := Lib.hid (HA0.out hxt)
        clear hxt HA0 HA1 HA2
        go_wp2
        go_roundg gk
        case measure => omega
        case rel => exact ⟨k + 1, by omega, by rw [HA3.out], by first | rfl | go_num, KB.out⟩
      · have d1 : (x != t) = true := bne_iff_ne.2 hxt
        by_cases ha : a < 0
        · have d2 : decide (a < 0) = true := decide_eq_true ha
          have HA3 := Lib.hid (HA1.out hxt (.inl (by have := HLO.out; omega)))
          clear hxt HA0 HA1 HA2
          go_wp2
          go_roundg gk
          case measure => omega
          case rel => exact ⟨k + 1, by omega, by rw [HA3.out], by first | rfl | go_num, KB.out⟩
        · have d2 : decide (a < 0) = false := decide_eq_false ha
          by_cases hd : dd < a
          · have d3 : decide (dd < a) = true := decide_eq_true hd
            have HA3 := Lib.hid (HA1.out hxt (.inr hd))
            clear hxt HA0 HA1 HA2
            go_wp2
            go_roundg gk
            case measure => omega
            case rel => exact ⟨k + 1, by omega, by rw [HA3.out], by first | rfl | go_num, KB.out⟩
          · have d3 : decide (dd < a) = false := decide_eq_false hd
            have HA3 := Lib.hid (HA2.out hxt (fun h => h.elim (fun e => by omega) hd))
            clear hxt HA0 HA1 HA2
            go_wp2
            go_roundg gk
            case measure => omega
            case rel => exact ⟨k + 1, by omega, by rw [HA3.out], by first | rfl | go_num, KB.out⟩
    · have hk : k = m := by omega
      subst hk
      have hlo := nearF_lo HO.out HBT.out HIN.out
      have HTK : Hid (Ar.nearF N D t (l.take k) = Ar.nearF N D t l) := by unfold Hid; rw [List.take_of_length_le (by rw [HM.out]; omega)]
      rw [HTK.out]
      clear HTK
      generalize Ar.nearF N D t l = a at *
      by_cases ha : a < 0
      · have d1 : decide (a < 0) = true := decide_eq_true ha
        have HS2 : Hid (ns = (0, 2)) := by have := HS.out; rw [if_pos (by omega)] at this; exact this
        clear hlo
        go_wp2
        go_ret2
        exact ⟨by rw [HS2.out]; rfl, HB4.out⟩
      · have d1 : decide (a < 0) = false := decide_eq_false ha
        have HS2 : Hid (ns = (a, 0)) := by have := HS.out; rw [if_neg (by omega)] at this; exact this
        clear hlo
        go_wp2
        go_ret2
        exact ⟨by rw [HS2.out]; rfl, HB4.out⟩
end Go.Proofs.Ytllffjgjmeibnaa
