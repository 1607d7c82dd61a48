/- Contracts of package area: Tour, whatever it is given; and each function, whatever worlds lie between. -/
import Derived.Test.YtllffjgjmeibnaaAreaT2
namespace Go.Proofs.Ytllffjgjmeibnaa
open Go.RowKit Go.Shelf
set_option linter.unusedVariables false

set_option maxRecDepth 100000 in
set_option maxHeartbeats 2000000 in
theorem tour_any (N : Int) (dA : Option Addr) (dm dc : Nat) (D : List Int) (tA : Option Addr) (tm tc : Nat) (T : List Int) (A : Option Addr) (m c : Nat) (l : List Int) (w : World) (h : AreaAt w dA dm D tA tm T) (hm : l.length = m) (hm2 : m ≤ 1000) (hl : IntsAt w A l) :
    Calls Try.prog 9 #[.agg #[.int .i64 N, .slice dA dm dc, .slice tA tm tc], .slice A m c] w fun e w' => e = .returned (.tuple #[.int .i64 (Ar.tourS N D T l).1, .int .i64 (Ar.tourS N D T l).2.1, .int .i64 (Ar.tourS N D T l).2.2]) ∧ Below w.heap.size w w' := by
  rcases told_cases N D T l with ⟨h0, hok, hin⟩ | h0
  · by_cases hm100 : m ≤ 100
    · have e0 : Ar.tourS N D T l = (Ar.sumX N D (Ar.tourX l), Ar.sumX N T (Ar.tourX l), 0) := by unfold Ar.tourS; rw [if_pos h0, if_neg (by omega)]
      rw [e0]
      exact tour_in N dA dm dc D tA tm tc T N.toNat A m c l w h hm hm100 hl (Ar.ok_of hok) h0 hin
    · have e0 : Ar.tourS N D T l = (0, 0, 4) := by unfold Ar.tourS; rw [if_pos h0, if_pos (by omega)]
      rw [e0]
      have HB0 : Hid (Below w.heap.size w (w.alloc (.cells #[.int .i64 N, .slice dA dm dc, .slice tA tm tc] 24))) := below_alloc _ _
      have HX := Lib.hid (Boxed.new (N := N) (dc := dc) (tc := tc) h)
      have HT := Lib.hid (told_b (N := N) (dc := dc) (tc := tc) A m c l _ 0 h0 HX.out.rows hm (by omega) (hl.below HB0.out))
      have d100 : decide ((100 : Int) < (m : Int)) = true := decide_eq_true (by omega)
      clear h hl hm h0 hin hok e0
      refine (callsIn_wide (n := 0)).1 ?_
      refine callsIn_of_wp_marks Try.func9 rfl trivial ?_ rfl
      simp only [Try.ntmps9, List.size_toArray, List.length_cons, List.length_nil, Nat.reduceAdd, Nat.reduceSub, Array.replicate_succ, Array.replicate_zero, List.push_toArray, List.append_toArray, List.nil_append, List.cons_append]
      refine wpIn_wide.2 ?_
      go_wp2_with fail
      generalize w.alloc (.cells #[.int .i64 N, .slice dA dm dc, .slice tA tm tc] 24) = W at *
      with_reducible refine HT.out.mono ?_
      rintro e w1 ⟨rfl, hb1⟩
      go_wp2
      exact ⟨_, results_tmp3 rfl _ _ _, rfl, below_next HB0.out hb1.out⟩
  · have hne : Ar.toldE N D T l ≠ 0 := by rcases h0 with h0 | h0 <;> omega
    have e0 : Ar.tourS N D T l = (0, 0, Ar.toldE N D T l) := by unfold Ar.tourS; rw [if_neg hne]
    rw [e0]
    have HB0 : Hid (Below w.heap.size w (w.alloc (.cells #[.int .i64 N, .slice dA dm dc, .slice tA tm tc] 24))) := below_alloc _ _
    have HX := Lib.hid (Boxed.new (N := N) (dc := dc) (tc := tc) h)
    have HT := Lib.hid (told_b (N := N) (dc := dc) (tc := tc) A m c l _ _ rfl HX.out.rows hm (by omega) (hl.below HB0.out))
    generalize Ar.toldE N D T l = r at *
    have d0 : (r != 0) = true := bne_iff_ne.2 hne
    clear h hl hm h0 hne e0
    refine (callsIn_wide (n := 0)).1 ?_
    refine callsIn_of_wp_marks Try.func9 rfl trivial ?_ rfl
    simp only [Try.ntmps9, List.size_toArray, List.length_cons, List.length_nil, Nat.reduceAdd, Nat.reduceSub, Array.replicate_succ, Array.replicate_zero, List.push_toArray, List.append_toArray, List.nil_append, List.cons_append]
    refine wpIn_wide.2 ?_
    go_wp2_with fail
    generalize w.alloc (.cells #[.int .i64 N, .slice dA dm dc, .slice tA tm tc] 24) = W at *
    with_reducible refine HT.out.mono ?_
    rintro e w1 ⟨rfl, hb1⟩
    go_wp2
    exact ⟨_, results_tmp3 rfl _ _ _, rfl, below_next HB0.out hb1.out⟩

section
variable {N : Int} {dA tA : Option Addr} {dm dc tm tc : Nat} {D T : List Int} {w W : World}
/-- as the laws call them: rows that lay at the start, nothing old turned since -/
theorem leg_b (f t r1 r2 r3 : Int) (h : AreaAt w dA dm D tA tm T) (hb : Below w.heap.size w W) (hr : Ar.legS N D T f t = (r1, r2, r3)) :
    Calls Try.prog 7 #[.agg #[.int .i64 N, .slice dA dm dc, .slice tA tm tc], .int .i64 f, .int .i64 t] W fun e w' => e = .returned (.tuple #[.int .i64 r1, .int .i64 r2, .int .i64 r3]) ∧ Hid (Below W.heap.size W w') :=
  (leg_any N dA dm dc D tA tm tc T f t W (h.below hb)).mono fun _ _ ⟨e1, e2⟩ => ⟨by rw [e1, hr], e2⟩
theorem tour_b (A : Option Addr) (m c : Nat) (l : List Int) (r1 r2 r3 : Int) (h : AreaAt w dA dm D tA tm T) (hm : l.length = m) (hm2 : m ≤ 1000) (hl : IntsAt W A l) (hb : Below w.heap.size w W) (hr : Ar.tourS N D T l = (r1, r2, r3)) :
    Calls Try.prog 9 #[.agg #[.int .i64 N, .slice dA dm dc, .slice tA tm tc], .slice A m c] W fun e w' => e = .returned (.tuple #[.int .i64 r1, .int .i64 r2, .int .i64 r3]) ∧ Hid (Below W.heap.size W w') :=
  (tour_any N dA dm dc D tA tm tc T A m c l W (h.below hb) hm hm2 hl).mono fun _ _ ⟨e1, e2⟩ => ⟨by rw [e1, hr], e2⟩
theorem near_b (t : Int) (A : Option Addr) (m c : Nat) (l : List Int) (r1 r2 : Int) (h : AreaAt w dA dm D tA tm T) (hm : l.length = m) (hm2 : m ≤ 1000) (hl : IntsAt W A l) (hb : Below w.heap.size w W) (hr : Ar.nearS N D T t l = (r1, r2)) :
    Calls Try.prog 11 #[.agg #[.int .i64 N, .slice dA dm dc, .slice tA tm tc], .int .i64 t, .slice A m c] W fun e w' => e = .returned (.tuple #[.int .i64 r1, .int .i64 r2]) ∧ Hid (Below W.heap.size W w') :=
  (near_any N dA dm dc D tA tm tc T t A m c l W (h.below hb) hm hm2 hl).mono fun _ _ ⟨e1, e2⟩ => ⟨by rw [e1, hr], e2⟩
end
end Go.Proofs.Ytllffjgjmeibnaa
