/- The two functions by which rows are sorted: by what they hold, and more orders first. -/
import Derived.Test.YtjidelfpmlnhkaaGreatSavShelf
import Derived.Test.YtjidelfpmlnhkaaGreatSavB
import Derived.Deep.RegionWith
namespace Go.Proofs.YtjidelfpmlnhkaaGreat
open Go.RowKit Go.Shelf Go.Sort
set_option linter.unusedVariables false
set_option maxRecDepth 100000

theorem cmp_neg (a b : Int) : cmpI a b < 0 ↔ a < b := by
  unfold cmpI
  by_cases h1 : a < b
  · simp [h1]
  · by_cases h2 : b < a
    · simp [h1, h2]
    · simp [h1, h2]
theorem cmp_zero (a b : Int) : cmpI a b = 0 ↔ a = b := by
  unfold cmpI
  by_cases h1 : a < b
  · simp [h1]; omega
  · by_cases h2 : b < a
    · simp [h1, h2]; omega
    · simp [h1, h2]; omega
/-- by their first orders -/
def cf1 (a b : List Int) : Int := cmpI (Sv.hd a) (Sv.hd b)
/-- more orders first, then by their first ones -/
def cf2 (a b : List Int) : Int := orI (cmpI (b.length : Int) (a.length : Int)) (cmpI (Sv.hd a) (Sv.hd b))
theorem cf1_iff (a b : List Int) : cf1 a b < 0 ↔ Sv.hd a < Sv.hd b := cmp_neg _ _
theorem cf2_iff (a b : List Int) : cf2 a b < 0 ↔ b.length < a.length ∨ b.length = a.length ∧ Sv.hd a < Sv.hd b := by
  unfold cf2 orI
  by_cases h : cmpI (b.length : Int) (a.length : Int) = 0
  · rw [if_pos h, cmp_neg]
    rw [cmp_zero] at h
    omega
  · rw [if_neg h, cmp_neg]
    rw [cmp_zero] at h
    omega
theorem swo1 : SWO (fun a b : List Int => decide (cf1 a b < 0)) where
  irrefl x := by simp only [decide_eq_false_iff_not, cf1_iff]; omega
  trans x y z h1 h2 := by simp only [decide_eq_true_eq, cf1_iff] at *; omega
  ntrans x y z h1 h2 := by simp only [decide_eq_false_iff_not, cf1_iff] at *; omega
theorem swo2 : SWO (fun a b : List Int => decide (cf2 a b < 0)) where
  irrefl x := by simp only [decide_eq_false_iff_not, cf2_iff]; omega
  trans x y z h1 h2 := by simp only [decide_eq_true_eq, cf2_iff] at *; omega
  ntrans x y z h1 h2 := by simp only [decide_eq_false_iff_not, cf2_iff] at *; omega

theorem hd_cell {V : World} {r : Rw} (h : RwOk V r) (h0 : 0 < r.m) : ∃ ad, r.A = some ad ∧ V.cell? ad = some (.int .i64 (Sv.hd r.st)) := by
  obtain ⟨z, hz⟩ := mlist_at r.st 0 (by rw [h.sl]; exact h0)
  obtain ⟨ad, e, hc⟩ := h.st 0 z hz
  rw [add_zero'] at hc
  exact ⟨ad, e, by rw [Sv.hd_at hz]; exact hc⟩
theorem cmps1 : Cmps 63 cf1 (fun r => r.m = 1) := by
  intro r s V hr hs h1 h2
  obtain ⟨ad, ea, ca⟩ := hd_cell hr (by omega)
  obtain ⟨bd, eb, cb⟩ := hd_cell hs (by omega)
  rw [ea, eb, h1, h2]
  refine (compare_b ad bd r.c s.c _ _ V ca cb).mono ?_
  rintro e w' ⟨rfl, rfl⟩
  exact ⟨rfl, 0, #[], by rw [grow_empty]; rfl⟩

set_option maxHeartbeats 4000000 in
theorem cmps2 : Cmps 30 cf2 (fun r => 0 < r.m) := by
  intro r s V hr hs h1 h2
  obtain ⟨ad, ea, ca⟩ := hd_cell hr h1
  obtain ⟨bd, eb, cb⟩ := hd_cell hs h2
  have HE : Hid (cf2 r.st s.st = orI (cmpI (s.m : Int) (r.m : Int)) (cmpI (Sv.hd r.st) (Sv.hd s.st))) := by
    unfold Hid cf2
    rw [hr.sl, hs.sl]
  have HC : Hid (∀ (a b : Int) (W : World), Calls Tryz.prog 32 #[.int .i64 a, .int .i64 b] W fun e w' => e = .returned (.int .i64 (cmpI a b)) ∧ W = w') := fun a b W => cmp_b a b W
  have HO : Hid (∀ (a b : Int), Calls Tryz.prog 31 #[.slice (some ⟨V.heap.size, 0, none⟩) 2 2] (V.alloc (.cells #[.int .i64 a, .int .i64 b] 3)).drew fun e w' => e = .returned (.int .i64 (orI a b)) ∧ ∃ k os, w' = grow (V.drewN k) os) := fun a b => by
    refine (or_b _ 2 a b _ (box_row2 V a b 3).drew).mono ?_
    rintro e w' ⟨rfl, rfl⟩
    exact ⟨rfl, 1, #[_], by rw [alloc_eq_grow, drew_grow]; rfl⟩
  rw [ea, eb]
  clear hr hs ea eb
  generalize Sv.hd r.st = p at *
  generalize Sv.hd s.st = q at *
  obtain ⟨rA, rm, rc, rst⟩ := r
  obtain ⟨sA, sm, sc, sst⟩ := s
  simp only at *
  have i1 : (0 : Int) < (rm : Int) := by omega
  have i2 : (0 : Int) < (sm : Int) := by omega
  go_enter Tryz.func30, Tryz.ntmps30
  go_wp2
  go_region_with (first
    | (go_at_call 32; (with_reducible refine (HC.out _ _ _).mono ?_); rintro e w7 ⟨rfl, rfl⟩)
    | (go_at_call 31; (with_reducible refine (HO.out _ _).mono ?_); rintro e w7 ⟨rfl, hw7⟩))
  all_goals
    go_wp2
    go_ret
    exact ⟨by rw [HE.out]; rfl, hw7⟩
end Go.Proofs.YtjidelfpmlnhkaaGreat
