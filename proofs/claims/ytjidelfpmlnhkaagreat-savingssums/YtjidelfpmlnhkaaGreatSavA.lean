/- What the library's small functions leave: cmp.Compare, cmp.Or, slices.Compare of two rows of one order; the closure by which rows are sorted. -/
import Derived.Test.YtjidelfpmlnhkaaGreatLoadMem
import Derived.Test.YtjidelfpmlnhkaaGreatAreaApp
import Derived.Test.YtjidelfpmlnhkaaGreatSavMath
namespace Go.Proofs.YtjidelfpmlnhkaaGreat
open Go.RowKit
set_option linter.unusedVariables false
set_option maxRecDepth 100000

def cmpI (a b : Int) : Int := if a < b then -1 else if b < a then 1 else 0
theorem nan_b (a : Int) (w : World) : Calls Tryz.prog 66 #[.int .i64 a] w fun e w' => e = .returned (.bool false) ∧ w = w' := by
  have e1 : (a != a) = false := by simp
  go_enter Tryz.func66, Tryz.ntmps66
  go_wp2
  go_ret
  exact ⟨rfl, rfl⟩
set_option maxHeartbeats 1000000 in
theorem cmp_b (a b : Int) (w : World) : Calls Tryz.prog 32 #[.int .i64 a, .int .i64 b] w fun e w' => e = .returned (.int .i64 (cmpI a b)) ∧ w = w' := by
  have HN : Hid (∀ (z : Int) (W : World), Calls Tryz.prog 66 #[.int .i64 z] W fun e w' => e = .returned (.bool false) ∧ W = w') := fun z W => nan_b z W
  by_cases h1 : a < b
  · have d1 : decide (a < b) = true := decide_eq_true h1
    have e : cmpI a b = -1 := by unfold cmpI; rw [if_pos h1]
    rw [e]
    clear e h1
    go_enter Tryz.func32, Tryz.ntmps32
    go_wp2_with fail
    with_reducible refine (HN.out _ _).mono ?_
    rintro e w1 ⟨rfl, rfl⟩
    go_wp2_with fail
    with_reducible refine (HN.out _ _).mono ?_
    rintro e w2 ⟨rfl, rfl⟩
    go_wp2
    go_ret
    exact ⟨rfl, rfl⟩
  · have d1 : decide (a < b) = false := decide_eq_false h1
    by_cases h2 : b < a
    · have d2 : decide (b < a) = true := decide_eq_true h2
      have e : cmpI a b = 1 := by unfold cmpI; rw [if_neg h1, if_pos h2]
      rw [e]
      clear e h1 h2
      go_enter Tryz.func32, Tryz.ntmps32
      go_wp2_with fail
      with_reducible refine (HN.out _ _).mono ?_
      rintro e w1 ⟨rfl, rfl⟩
      go_wp2_with fail
      with_reducible refine (HN.out _ _).mono ?_
      rintro e w2 ⟨rfl, rfl⟩
      go_wp2
      go_ret
      exact ⟨rfl, rfl⟩
    · have d2 : decide (b < a) = false := decide_eq_false h2
      have e : cmpI a b = 0 := by unfold cmpI; rw [if_neg h1, if_neg h2]
      rw [e]
      clear e h1 h2
      go_enter Tryz.func32, Tryz.ntmps32
      go_wp2_with fail
      with_reducible refine (HN.out _ _).mono ?_
      rintro e w1 ⟨rfl, rfl⟩
      go_wp2_with fail
      with_reducible refine (HN.out _ _).mono ?_
      rintro e w2 ⟨rfl, rfl⟩
      go_wp2
      go_ret
      exact ⟨rfl, rfl⟩

theorem add_zero' (ad : Addr) : ad.add 0 = ad := by unfold Addr.add; simp
def orI (a b : Int) : Int := if a = 0 then b else a
set_option maxHeartbeats 1000000 in
theorem or_b (ad : Addr) (c : Nat) (a b : Int) (w : World) (h : IntsAt w (some ad) [a, b]) :
    Calls Tryz.prog 31 #[.slice (some ad) 2 c] w fun e w' => e = .returned (.int .i64 (orI a b)) ∧ w = w' := by
  obtain ⟨ad', e, c0⟩ := h 0 a rfl
  obtain rfl := Option.some.inj e
  obtain ⟨ad', e, c1⟩ := h 1 b rfl
  obtain rfl := Option.some.inj e
  clear h
  have c0' : w.cell? ad = some (.int .i64 a) := by rwa [add_zero'] at c0
  have c1' : w.cell? ⟨ad.block, ad.off + 1, none⟩ = some (.int .i64 b) := by rw [← add_field _ 1 (by omega)]; exact c1
  clear c0 c1
  by_cases ha : a = 0
  · subst ha
    have e : orI 0 b = b := rfl
    rw [e]
    have d1 : ((0 : Int) != (0 : Int)) = false := by decide
    by_cases hb : b = 0
    · subst hb
      go_enter Tryz.func31, Tryz.ntmps31
      go_wp2
      refine wp_loop_rounds 3 ?_
      rw [rounds_succ]
      go_wp2
      rw [rounds_succ]
      go_wp2
      rw [rounds_succ]
      go_wp2
      go_ret
      exact ⟨rfl, rfl⟩
    · have d2 : (b != (0 : Int)) = true := bne_iff_ne.2 hb
      clear hb
      go_enter Tryz.func31, Tryz.ntmps31
      go_wp2
      refine wp_loop_rounds 3 ?_
      rw [rounds_succ]
      go_wp2
      rw [rounds_succ]
      go_wp2
      go_ret
      exact ⟨rfl, rfl⟩
  · have d1 : (a != (0 : Int)) = true := bne_iff_ne.2 ha
    have e : orI a b = a := by unfold orI; rw [if_neg ha]
    rw [e]
    clear ha e
    go_enter Tryz.func31, Tryz.ntmps31
    go_wp2
    refine wp_loop_rounds 3 ?_
    rw [rounds_succ]
    go_wp2
    go_ret
    exact ⟨rfl, rfl⟩

set_option maxHeartbeats 1000000 in
theorem compare_b (ad bd : Addr) (c d : Nat) (a b : Int) (w : World) (ha : w.cell? ad = some (.int .i64 a)) (hb : w.cell? bd = some (.int .i64 b)) :
    Calls Tryz.prog 63 #[.slice (some ad) 1 c, .slice (some bd) 1 d] w fun e w' => e = .returned (.int .i64 (cmpI a b)) ∧ w = w' := by
  have HC := Lib.hid (cmp_b a b w)
  generalize cmpI a b = r at *
  by_cases hr : r = 0
  · subst hr
    have d1 : ((0 : Int) != (0 : Int)) = false := by decide
    go_enter Tryz.func63, Tryz.ntmps63
    go_wp2
    refine wp_loop_rounds 2 ?_
    rw [rounds_succ]
    go_wp2_with fail
    with_reducible refine HC.out.mono ?_
    rintro e w1 ⟨rfl, rfl⟩
    go_wp2
    rw [rounds_succ]
    go_wp2
    go_ret
    exact ⟨rfl, rfl⟩
  · have d1 : (r != (0 : Int)) = true := bne_iff_ne.2 hr
    clear hr
    go_enter Tryz.func63, Tryz.ntmps63
    go_wp2
    refine wp_loop_rounds 2 ?_
    rw [rounds_succ]
    go_wp2_with fail
    with_reducible refine HC.out.mono ?_
    rintro e w1 ⟨rfl, rfl⟩
    go_wp2
    go_ret
    exact ⟨rfl, rfl⟩
end Go.Proofs.YtjidelfpmlnhkaaGreat
