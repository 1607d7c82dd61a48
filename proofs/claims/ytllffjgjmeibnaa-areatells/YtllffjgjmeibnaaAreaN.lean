/- Contracts of package area: Near. -/
import Derived.Test.YtllffjgjmeibnaaAreaC
namespace Go.Proofs.Ytllffjgjmeibnaa
open Go.RowKit
set_option linter.unusedVariables false

theorem step_eq {N : Int} {D : List Int} {to a x : Int} (h : x = to) : Ar.step N D to a x = a := by unfold Ar.step; rw [if_pos h]
theorem step_new {N : Int} {D : List Int} {to a x : Int} (h : x ≠ to) (h2 : a = -1 ∨ Ar.at2 N D x to < a) : Ar.step N D to a x = Ar.at2 N D x to := by unfold Ar.step; rw [if_neg h, if_pos h2]
theorem step_old {N : Int} {D : List Int} {to a x : Int} (h : x ≠ to) (h2 : ¬ (a = -1 ∨ Ar.at2 N D x to < a)) : Ar.step N D to a x = a := by unfold Ar.step; rw [if_neg h, if_neg h2]

set_option maxHeartbeats 4000000 in
set_option maxRecDepth 100000 in
theorem near_in (N : Int) (dA : Option Addr) (dm dc : Nat) (D : List Int) (tA : Option Addr) (tm tc : Nat) (T : List Int) (n t : Nat) (A : Option Addr) (m c : Nat) (l : List Int) (w : World) (h : AreaAt w dA dm D tA tm T) (hm : l.length = m) (hm2 : m ≤ 100) (hl : IntsAt w A l)
    (ho : Ar.Ok N D T n) (h0 : Ar.toldE N D T l = 0) (hin : Ar.insB N l = true) (ht : t < n) (hbt : Ar.hasB N (t : Int) = true) :
    Calls Try.prog 11 #[.agg #[.int .i64 N, .slice dA dm dc, .slice tA tm tc], .int .i64 (t : Int), .slice A m c] w fun e w' => e = .returned (.tuple #[.int .i64 (Ar.nearS N D T t l).1, .int .i64 (Ar.nearS N D T t l).2]) ∧ Below w.heap.size w w' := by
  have HB0 : Hid (Below w.heap.size w (w.alloc (.cells #[.int .i64 N, .slice dA dm dc, .slice tA tm tc] 24))) := below_alloc _ _
  have HX := Lib.hid (Boxed.new (N := N) (dc := dc) (tc := tc) h)
  have HL : Hid (IntsAt (w.alloc (.cells #[.int .i64 N, .slice dA dm dc, .slice tA tm tc] 24)) A l) := hl.below HB0.out
  have HM := Lib.hid hm
  have HS : Hid (Ar.nearS N D T t l = if Ar.nearF N D t l = -1 then (0, 2) else (Ar.nearF N D t l, 0)) := by
    unfold Hid Ar.nearS
    rw [if_pos h0, if_pos hbt, if_neg (by omega)]
  have HT := Lib.hid (told_b (N := N) (dc := dc) (tc := tc) A m c l _ 0 h0 HX.out.rows hm (by omega) HL.out)
  have HH : Hid (∀ W, Calls Try.prog 19 #[.agg #[.int .i64 N, .slice dA dm dc, .slice tA tm tc], .int .i64 (t : Int)] W fun e w' => e = .returned (.bool true) ∧ Hid (Below W.heap.size W w')) := fun W => by rw [← hbt]; exact has_any N t _ _ W
  have HO := Lib.hid ho
  have HIN := Lib.hid ((Ar.ins_iff N l).1 hin)
  have d100 : decide ((100 : Int) < (m : Int)) = false := decide_eq_false (by omega)
  have HTN := Lib.hid ht
  clear h hl hm h0 hin ho hbt ht
  generalize Ar.nearS N D T t l = ns at *
  go_enter Try.func11, Try.ntmps11
  go_wp2_with fail
  generalize w.alloc (.cells #[.int .i64 N, .slice dA dm dc, .slice tA tm tc] 24) = W at *
  with_reducible refine HT.out.mono ?_
  rintro e w1 ⟨rfl, hb1⟩
  have HX1 := Lib.hid (HX.out.below hb1.out)
  have HL1 := Lib.hid (HL.out.below hb1.out)
  have HB1 := Lib.hid (below_next HB0.out hb1.out)
  have x0 := HX1.out.c0
  have x1 := HX1.out.c1
  have x2 := HX1.out.c2
  clear HT hb1 HX HL HB0
  go_wp2_with fail
  with_reducible refine (HH.out _).mono ?_
  rintro e w2 ⟨rfl, hb2⟩
  have HX2 := Lib.hid (HX1.out.below hb2.out)
  have HL2 := Lib.hid (HL1.out.below hb2.out)
  have HB2 := Lib.hid (below_next HB1.out hb2.out)
  clear HH hb2 HX1 HL1 HB1 x0 x1 x2
  go_wp2
  go_loopg [9, 28] m (fun gk s9 s28 W => ∃ (k : Nat), k + gk = m ∧ s9 = .int .i64 (Ar.nearF N D t (l.take k)) ∧ s28 = .int .i64 k ∧ Hid (Below w2.heap.size w2 W))
  case atStart => exact ⟨0, by omega, rfl, rfl, Below.refl _ _⟩
  case round =>
    obtain ⟨k, hkg, rfl, rfl, HB⟩ := hrel
    have HX3 := Lib.hid (HX2.out.below HB.out)
    have HB3 := Lib.hid (below_next HB2.out HB.out)
    by_cases hlt : k < m
    · obtain ⟨gk, rfl⟩ : ∃ j, gk = j + 1 := ⟨gk - 1, by omega⟩
      obtain ⟨x, hx, hmem⟩ := Ar.some_at l k (by rw [HM.out]; exact hlt)
      obtain ⟨ad, rfl, hc⟩ := (HL2.out.below HB.out) k x hx
      have hsn := Ar.nearF_snoc N D t (l.take k) x
      rw [← Ar.take_snoc l k x hx] at hsn
      have HSN := Lib.hid hsn
      have HHX := Lib.hid (HIN.out x hmem)
      clear hsn hx hmem
      generalize Ar.nearF N D t (l.take k) = a at *
      by_cases hxt : x = (t : Int)
      · have d1 : (x == (t : Int)) = true := beq_iff_eq.2 hxt
        have HA : Hid (Ar.nearF N D t (l.take (k + 1)) = a) := HSN.out.trans (step_eq hxt)
        clear hxt
        go_wp2
        go_roundg gk
        case measure => omega
        case rel => exact ⟨k + 1, by omega, by rw [HA.out], by first | rfl | go_num, HB.out⟩
      · have d1 : (x == (t : Int)) = false := beq_eq_false_iff_ne.2 hxt
        have HA1 : Hid (a = -1 ∨ Ar.at2 N D x t < a → Ar.nearF N D t (l.take (k + 1)) = Ar.at2 N D x t) := fun h => HSN.out.trans (step_new hxt h)
        have HA2 : Hid (¬ (a = -1 ∨ Ar.at2 N D x t < a) → Ar.nearF N D t (l.take (k + 1)) = a) := fun h => HSN.out.trans (step_old hxt h)
        clear hxt HSN
        obtain ⟨i, rfl, hi⟩ := Ar.has_nat HO.out.cast HHX.out
        obtain ⟨p, ap, at', hp, hpd, hpt, rfl, rfl, hc1, _⟩ := at_ok HO.out HX3.out.rows hi HTN.out
        generalize hS : (fun W' : World => W'.cell? ⟨w.heap.size, 0, none⟩ = some (.int .i64 N) ∧ W'.cell? ⟨w.heap.size, 1, none⟩ = some (.slice (some ap) dm dc) ∧ W'.cell? ⟨w.heap.size, 2, none⟩ = some (.slice (some at') tm tc) ∧ W'.cell? (ap.add p) = some (.int .i64 (Ar.at2 N D (i : Int) t)) ∧ Below w2.heap.size w2 W') = SS at *
        have HP : Hid (∀ W', SS W' → Calls Try.prog 16 #[.agg #[.int .i64 N, .slice (some ap) dm dc, .slice (some at') tm tc], .int .i64 (i : Int), .int .i64 (t : Int)] W' fun e w' => e = .returned (.int .i64 (p : Int)) ∧ SS w') := fun W' hW => by
          subst hS
          obtain ⟨e0, e1, e2, e3, e4⟩ := hW
          rw [hp] at e3 ⊢
          refine (place_any N _ _ n i t W' HO.out.cast HO.out.n16 hi HTN.out).mono fun _ _ ⟨q1, q2⟩ => ⟨q1, ?_⟩
          have hk : ∀ (pp : Addr) (v : Value), W'.cell? pp = some v → _ := fun pp v hv => (q2.cell (p := pp) (lt_of_cell hv)).trans hv
          exact ⟨hk _ _ e0, hk _ _ e1, hk _ _ e2, hk _ _ e3, below_next e4 q2⟩
        subst hS
        have x0 := HX3.out.c0
        have x1 := HX3.out.c1
        have x2 := HX3.out.c2
        have i0 : (0 : Int) ≤ (p : Int) := by omega
        have i1 : (p : Int) < (dm : Int) := by omega
        have hB := HB.out.drew
        clear hp HHX hi
        generalize Ar.at2 N D (i : Int) t = dd at *
        go_wp2
        go_region_held3 (fun W' : World => W'.cell? ⟨w.heap.size, 0, none⟩ = some (.int .i64 N) ∧ W'.cell? ⟨w.heap.size, 1, none⟩ = some (.slice (some ap) dm dc) ∧ W'.cell? ⟨w.heap.size, 2, none⟩ = some (.slice (some at') tm tc) ∧ W'.cell? (ap.add p) = some (.int .i64 dd) ∧ Below w2.heap.size w2 W') (first | exact ⟨x0, x1, x2, hc1, hB⟩ | exact ⟨k0, k1, k2, k3, kb⟩ | assumption)
          (first
            | (go_at_call 16; ((with_reducible refine (HP.out _ (by assumption)).mono ?_)); rintro e w3 ⟨rfl, k0, k1, k2, k3, kb⟩))
        have KB := Lib.hid kb
        clear k0 k1 k2 k3 kb x0 x1 x2 hc1 hc hB
        by_cases ha : a = -1
        · have HA3 := Lib.hid (HA1.out (.inl ha))
          have d2 : (a == -1) = true := beq_iff_eq.2 ha
          clear ha HA1 HA2
          go_wp2
          go_roundg gk
          case measure => omega
          case rel => exact ⟨k + 1, by omega, by rw [HA3.out], by first | rfl | go_num, KB.out⟩
        · have d2 : (a == -1) = false := beq_eq_false_iff_ne.2 ha
          by_cases hd : dd < a
          · have HA3 := Lib.hid (HA1.out (.inr hd))
            have d3 : decide (dd < a) = true := decide_eq_true hd
            clear ha HA1 HA2
            go_wp2
            go_roundg gk
            case measure => omega
            case rel => exact ⟨k + 1, by omega, by rw [HA3.out], by first | rfl | go_num, KB.out⟩
          · have HA3 := Lib.hid (HA2.out (fun h => h.elim ha hd))
            have d3 : decide (dd < a) = false := decide_eq_false hd
            clear ha HA1 HA2
            go_wp2
            go_roundg gk
            case measure => omega
            case rel => exact ⟨k + 1, by omega, by rw [HA3.out], by first | rfl | go_num, KB.out⟩
    · have hk : k = m := by omega
      subst hk
      have HTK : Hid (Ar.nearF N D t (l.take k) = Ar.nearF N D t l) := by unfold Hid; rw [List.take_of_length_le (by rw [HM.out]; omega)]
      rw [HTK.out]
      clear HTK
      generalize Ar.nearF N D t l = a at *
      by_cases ha : a = -1
      · subst ha
        have HS2 : Hid (ns = (0, 2)) := by have := HS.out; rw [if_pos rfl] at this; exact this
        go_wp2
        go_ret2
        exact ⟨by rw [HS2.out]; rfl, HB3.out⟩
      · have d1 : (a == -1) = false := beq_eq_false_iff_ne.2 ha
        have HS2 : Hid (ns = (a, 0)) := by have := HS.out; rw [if_neg ha] at this; exact this
        clear ha
        go_wp2
        go_ret2
        exact ⟨by rw [HS2.out]; rfl, HB3.out⟩

set_option maxHeartbeats 2000000 in
set_option maxRecDepth 100000 in
theorem near_any (N : Int) (dA : Option Addr) (dm dc : Nat) (D : List Int) (tA : Option Addr) (tm tc : Nat) (T : List Int) (t : Int) (A : Option Addr) (m c : Nat) (l : List Int) (w : World) (h : AreaAt w dA dm D tA tm T) (hm : l.length = m) (hm2 : m ≤ 1000) (hl : IntsAt w A l) :
    Calls Try.prog 11 #[.agg #[.int .i64 N, .slice dA dm dc, .slice tA tm tc], .int .i64 t, .slice A m c] w fun e w' => e = .returned (.tuple #[.int .i64 (Ar.nearS N D T t l).1, .int .i64 (Ar.nearS N D T t l).2]) ∧ Below w.heap.size w w' := by
  rcases told_cases N D T l with ⟨h0, hok, hin⟩ | h0
  · cases hbt : Ar.hasB N t with
    | true =>
      by_cases hm100 : m ≤ 100
      · have ho := Ar.ok_of hok
        generalize N.toNat = n at ho
        obtain ⟨t, rfl, ht⟩ := Ar.has_nat ho.cast hbt
        exact near_in N dA dm dc D tA tm tc T n t A m c l w h hm hm100 hl ho h0 hin ht hbt
      · have HS : Hid (Ar.nearS N D T t l = (0, 4)) := by
          unfold Hid Ar.nearS
          rw [if_pos h0, if_pos hbt, if_pos (by omega)]
        have HB0 : Hid (Below w.heap.size w (w.alloc (.cells #[.int .i64 N, .slice dA dm dc, .slice tA tm tc] 24))) := below_alloc _ _
        have HX := Lib.hid (Boxed.new (N := N) (dc := dc) (tc := tc) h)
        have HT := Lib.hid (told_b (N := N) (dc := dc) (tc := tc) A m c l _ 0 h0 HX.out.rows hm (by omega) (hl.below HB0.out))
        have HH : Hid (∀ W, Calls Try.prog 19 #[.agg #[.int .i64 N, .slice dA dm dc, .slice tA tm tc], .int .i64 t] W fun e w' => e = .returned (.bool true) ∧ Hid (Below W.heap.size W w')) := fun W => by rw [← hbt]; exact has_any N t _ _ W
        have d100 : decide ((100 : Int) < (m : Int)) = true := decide_eq_true (by omega)
        clear h hl hm h0 hin hok hbt
        generalize Ar.nearS N D T t l = ns at *
        go_enter Try.func11, Try.ntmps11
        go_wp2_with fail
        generalize w.alloc (.cells #[.int .i64 N, .slice dA dm dc, .slice tA tm tc] 24) = W at *
        with_reducible refine HT.out.mono ?_
        rintro e w1 ⟨rfl, hb1⟩
        have x0 := (HX.out.below hb1.out).c0
        have x1 := (HX.out.below hb1.out).c1
        have x2 := (HX.out.below hb1.out).c2
        go_wp2_with fail
        with_reducible refine (HH.out _).mono ?_
        rintro e w2 ⟨rfl, hb2⟩
        go_wp2
        go_ret2
        exact ⟨by rw [HS.out]; rfl, below_next (below_next HB0.out hb1.out) hb2.out⟩
    | false =>
      have HS : Hid (Ar.nearS N D T t l = (0, 5)) := by
        unfold Hid Ar.nearS
        rw [if_pos h0, hbt]
        rfl
      have HB0 : Hid (Below w.heap.size w (w.alloc (.cells #[.int .i64 N, .slice dA dm dc, .slice tA tm tc] 24))) := below_alloc _ _
      have HX := Lib.hid (Boxed.new (N := N) (dc := dc) (tc := tc) h)
      have HT := Lib.hid (told_b (N := N) (dc := dc) (tc := tc) A m c l _ 0 h0 HX.out.rows hm (by omega) (hl.below HB0.out))
      have HH : Hid (∀ W, Calls Try.prog 19 #[.agg #[.int .i64 N, .slice dA dm dc, .slice tA tm tc], .int .i64 t] W fun e w' => e = .returned (.bool false) ∧ Hid (Below W.heap.size W w')) := fun W => by rw [← hbt]; exact has_any N t _ _ W
      clear h hl hm h0 hin hok hbt
      generalize Ar.nearS N D T t l = ns at *
      go_enter Try.func11, Try.ntmps11
      go_wp2_with fail
      generalize w.alloc (.cells #[.int .i64 N, .slice dA dm dc, .slice tA tm tc] 24) = W at *
      with_reducible refine HT.out.mono ?_
      rintro e w1 ⟨rfl, hb1⟩
      have x0 := (HX.out.below hb1.out).c0
      have x1 := (HX.out.below hb1.out).c1
      have x2 := (HX.out.below hb1.out).c2
      go_wp2_with fail
      with_reducible refine (HH.out _).mono ?_
      rintro e w2 ⟨rfl, hb2⟩
      go_wp2
      go_ret2
      exact ⟨by rw [HS.out]; rfl, below_next (below_next HB0.out hb1.out) hb2.out⟩
  · have hne : Ar.toldE N D T l ≠ 0 := by rcases h0 with h0 | h0 <;> omega
    have HS : Hid (Ar.nearS N D T t l = (0, Ar.toldE N D T l)) := by
      unfold Hid Ar.nearS
      rw [if_neg hne]
    have HB0 : Hid (Below w.heap.size w (w.alloc (.cells #[.int .i64 N, .slice dA dm dc, .slice tA tm tc] 24))) := below_alloc _ _
    have HX := Lib.hid (Boxed.new (N := N) (dc := dc) (tc := tc) h)
    have HT := Lib.hid (told_b (N := N) (dc := dc) (tc := tc) A m c l _ _ rfl HX.out.rows hm (by omega) (hl.below HB0.out))
    generalize Ar.toldE N D T l = r at *
    have d0 : (r != 0) = true := bne_iff_ne.2 hne
    clear h hl hm h0 hne
    generalize Ar.nearS N D T t l = ns at *
    go_enter Try.func11, Try.ntmps11
    go_wp2_with fail
    generalize w.alloc (.cells #[.int .i64 N, .slice dA dm dc, .slice tA tm tc] 24) = W at *
    with_reducible refine HT.out.mono ?_
    rintro e w1 ⟨rfl, hb1⟩
    go_wp2
    go_ret2
    exact ⟨by rw [HS.out]; rfl, below_next HB0.out hb1.out⟩
end Go.Proofs.Ytllffjgjmeibnaa
