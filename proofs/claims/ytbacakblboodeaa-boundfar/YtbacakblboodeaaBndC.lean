/- Contracts of package bound: the bound of what else a certificate has. -/
import Derived.Test.YtbacakblboodeaaBndB
import Derived.Test.YtbacakblboodeaaRouteC
import Derived.WalkSpells
import Derived.WalkLawsBesides
namespace Go.Proofs.Ytbacakblboodeaa
open Go.RowKit
set_option linter.unusedVariables false

set_option maxHeartbeats 400000 in
theorem mon_size (n : Int) (w : World) (h1 : -4611686018427387903 ≤ n) :
    Calls Try.prog 76 #[.int .i64 n] w fun e w' => e = .returned (.int .i64 (Grp.sizeI n)) ∧ w = w' := by
  by_cases h : n < 0
  · have e : Grp.sizeI n = -n := by unfold Grp.sizeI; rw [if_pos h]
    rw [e]
    go_enter Try.func76, Try.ntmps76
    go_wp2
    go_ret
    exact ⟨rfl, rfl⟩
  · have e : Grp.sizeI n = n := by unfold Grp.sizeI; rw [if_neg h]
    rw [e]
    clear e
    go_enter Try.func76, Try.ntmps76
    go_wp2
    go_ret
    exact ⟨rfl, rfl⟩

set_option maxHeartbeats 400000 in
theorem mon_mul (a b : Int) (w : World) :
    Calls Try.prog 51 #[.int .i64 a, .int .i64 b] w fun e w' => e = .returned (.tuple #[.int .i64 (Grp.mulS a b).1, .int .i64 (Grp.mulS a b).2]) ∧ w = w' := by
  cases ha : Grp.mayB a
  · have e : Grp.mulS a b = (0, 1) := by unfold Grp.mulS; simp [ha]
    rw [e]
    clear e
    go_enter Try.func51, Try.ntmps51
    go_wp2_with (go_at_call 59; refine (mon_mayBe _ _).mono ?_; rintro e w' ⟨rfl, rfl⟩)
    go_ret2
    exact ⟨rfl, rfl⟩
  · cases hb : Grp.mayB b
    · have e : Grp.mulS a b = (0, 1) := by unfold Grp.mulS; simp [hb]
      rw [e]
      clear e
      go_enter Try.func51, Try.ntmps51
      go_wp2_with (go_at_call 59; refine (mon_mayBe _ _).mono ?_; rintro e w' ⟨rfl, rfl⟩)
      go_ret2
      exact ⟨rfl, rfl⟩
    · have ha' := (Grp.mayB_iff a).1 ha
      have hb' := (Grp.mayB_iff b).1 hb
      obtain ⟨a1, a2⟩ := ha'
      obtain ⟨b1, b2⟩ := hb'
      by_cases hz : b = 0
      · subst hz
        have e : Grp.mulS a 0 = (0, 0) := by unfold Grp.mulS; simp [ha, hb]
        rw [e]
        clear e
        go_enter Try.func51, Try.ntmps51
        go_wp2_with (first | (go_at_call 59; refine (mon_mayBe _ _).mono ?_; rintro e w' ⟨rfl, rfl⟩) | (go_at_call 76; refine (mon_size _ _ (by omega)).mono ?_; rintro e w' ⟨rfl, rfl⟩))
        go_ret2
        exact ⟨by simp, rfl⟩
      · have hn : (b != 0) = true := by simp [hz]
        have hlook := Grp.mul_look a b hz
        have hsb : 1 ≤ Grp.sizeI b ∧ Grp.sizeI b ≤ 4611686018427387903 := by rw [Grp.sizeI_nat]; omega
        obtain ⟨s1, s2⟩ := hsb
        have hsa : 0 ≤ Grp.sizeI a ∧ Grp.sizeI a ≤ 4611686018427387903 := by rw [Grp.sizeI_nat]; omega
        obtain ⟨s3, s4⟩ := hsa
        cases hm : Grp.mayB (a * b)
        · have e : Grp.mulS a b = (0, 4) := by unfold Grp.mulS; simp [ha, hb, hm]
          rw [e]
          have hl := hlook.2 hm
          clear e hlook hm
          go_enter Try.func51, Try.ntmps51
          go_wp2_with (first | (go_at_call 59; refine (mon_mayBe _ _).mono ?_; rintro e w' ⟨rfl, rfl⟩) | (go_at_call 76; refine (mon_size _ _ (by omega)).mono ?_; rintro e w' ⟨rfl, rfl⟩))
          go_ret2
          exact ⟨rfl, rfl⟩
        · have e : Grp.mulS a b = (a * b, 0) := by unfold Grp.mulS; simp [ha, hb, hm]
          rw [e]
          have hl : ¬ (4611686018427387903 / Grp.sizeI b < Grp.sizeI a) := by rw [hlook, hm]; simp
          have hm' := (Grp.mayB_iff _).1 hm
          obtain ⟨m1, m2⟩ := hm'
          clear e hlook hm
          go_enter Try.func51, Try.ntmps51
          go_wp2_with (first | (go_at_call 59; refine (mon_mayBe _ _).mono ?_; rintro e w' ⟨rfl, rfl⟩) | (go_at_call 76; refine (mon_size _ _ (by omega)).mono ?_; rintro e w' ⟨rfl, rfl⟩))
          go_ret2
          exact ⟨rfl, rfl⟩


/-- a list of small numbers summed -/
theorem small_sum {l : List Int} (h : ∀ x ∈ l, 0 ≤ x ∧ x ≤ 1000000) (hl : l.length ≤ 1000) : Grp.sumS l = (l.sum, 0) := by
  have ha : l.all Grp.mayB = true := List.all_eq_true.2 fun x h1 => by
    have := h x h1
    exact (Grp.mayB_iff x).2 (by omega)
  have := Pl.sum_fits (l := l) (fun x hx => by have := h x hx; omega) 0 (Int.le_refl _) (by omega)
  unfold Grp.sumS
  rw [ha]
  simp only [if_true]
  rw [this, Int.zero_add]
theorem small_mul {a b : Int} (a0 : 0 ≤ a) (a1 : a ≤ 1000) (b0 : 0 ≤ b) (b1 : b ≤ 20000000) : Grp.mulS a b = (a * b, 0) ∧ 0 ≤ a * b ∧ a * b ≤ 20000000000 := by
  have m0 : 0 ≤ a * b := Int.mul_nonneg a0 b0
  have m1 : a * b ≤ 1000 * 20000000 := Int.mul_le_mul a1 b1 b0 (by omega)
  refine ⟨?_, m0, by omega⟩
  unfold Grp.mulS
  rw [if_pos ⟨(Grp.mayB_iff a).2 (by omega), (Grp.mayB_iff b).2 (by omega)⟩, if_pos ((Grp.mayB_iff _).2 (by omega))]
theorem sum_one (l : List Int) (x : Int) : (l ++ [x]).sum = l.sum + x := by
  induction l with
  | nil => simp
  | cons a r ih => simp only [List.cons_append, List.sum_cons, ih]; omega

set_option maxHeartbeats 4000000 in
set_option maxRecDepth 100000 in
theorem boundOf_b (A : Option Addr) (m c : Nat) (B : Option Addr) (n d : Nat) (inn : List Int) (back rate fixed bound r : Int) (w : World)
    (hn : inn.length = n) (hn2 : n ≤ 12) (hB : IntsAt w B inn) (hi : ∀ x ∈ inn, 0 ≤ x ∧ x ≤ 1000000) (b0 : 0 ≤ back) (b1 : back ≤ 1000000) (r0 : 0 ≤ rate) (r1 : rate ≤ 1000) (f0 : 0 ≤ fixed) (f1 : fixed ≤ 1000000) (hr : Bo.worth inn back rate fixed = r) :
    Calls Try.prog 28 #[.agg #[.slice A m c, .slice B n d, .int .i64 back, .int .i64 rate, .int .i64 fixed, .int .i64 bound]] w fun e w' => e = .returned (.tuple #[.int .i64 r, .int .i64 0]) ∧ Hid (Below w.heap.size w w') := by
  have hsum := Bo.sum_le 1000000 inn hi
  have hs1 : (inn ++ [back]).sum = inn.sum + back := sum_one _ _
  obtain ⟨q, hq⟩ : ∃ q, inn.sum + back = q := ⟨_, rfl⟩
  have hq0 : 0 ≤ q ∧ q ≤ 20000000 := by rw [hn] at hsum; omega
  have HS : Hid (Grp.sumS (inn ++ [back]) = (q, 0)) := by
    unfold Hid
    rw [← hq, ← hs1]
    refine small_sum (fun x hx => ?_) (by rw [List.length_append]; simp; omega)
    rcases List.mem_append.1 hx with hx | hx
    · exact hi x hx
    · obtain rfl := List.mem_singleton.1 hx; exact ⟨b0, b1⟩
  obtain ⟨hm, m0, m1⟩ := small_mul r0 r1 hq0.1 hq0.2
  have HA : Hid (Grp.addS fixed (rate * q) = (r, 0)) := by
    unfold Hid
    rw [← hr]
    unfold Bo.worth
    rw [hq]
    exact Grp.addS_yes _ _ ((Grp.mayB_iff _).2 (by omega)) ((Grp.mayB_iff _).2 (by omega)) ((Grp.mayB_iff _).2 (by omega))
  have HCM := Lib.hid (fun W => mon_mul rate q W)
  have HCA := Lib.hid (fun W => mon_add fixed (rate * q) W)
  rw [hm] at HCM
  rw [HA.out] at HCA
  have HBX : Hid (Box (w.alloc (.cells #[.slice A m c, .slice B n d, .int .i64 back, .int .i64 rate, .int .i64 fixed, .int .i64 bound] 31)) w.heap.size #[.slice A m c, .slice B n d, .int .i64 back, .int .i64 rate, .int .i64 fixed, .int .i64 bound] 31) := Box.new _ _ _
  have HBX1 : Hid (Box ((w.alloc (.cells #[.slice A m c, .slice B n d, .int .i64 back, .int .i64 rate, .int .i64 fixed, .int .i64 bound] 31)).alloc (.cells #[.int .i64 back] 2)) w.heap.size #[.slice A m c, .slice B n d, .int .i64 back, .int .i64 rate, .int .i64 fixed, .int .i64 bound] 31) := HBX.out.below (below_alloc _ _)
  have HBX2 : Hid (Box (((w.alloc (.cells #[.slice A m c, .slice B n d, .int .i64 back, .int .i64 rate, .int .i64 fixed, .int .i64 bound] 31)).alloc (.cells #[.int .i64 back] 2)).alloc (.cells #[.slice B n d, .slice (some ⟨w.heap.size + 1, 0, none⟩) 1 1] 22)) w.heap.size #[.slice A m c, .slice B n d, .int .i64 back, .int .i64 rate, .int .i64 fixed, .int .i64 bound] 31) := HBX1.out.below (below_alloc _ _)
  have HB0 : Hid (Below w.heap.size w (((w.alloc (.cells #[.slice A m c, .slice B n d, .int .i64 back, .int .i64 rate, .int .i64 fixed, .int .i64 bound] 31)).alloc (.cells #[.int .i64 back] 2)).alloc (.cells #[.slice B n d, .slice (some ⟨w.heap.size + 1, 0, none⟩) 1 1] 22))) := below_more (below_more (below_alloc _ _) _) _
  have HR1 : Hid (IntsAt (((w.alloc (.cells #[.slice A m c, .slice B n d, .int .i64 back, .int .i64 rate, .int .i64 fixed, .int .i64 bound] 31)).alloc (.cells #[.int .i64 back] 2)).alloc (.cells #[.slice B n d, .slice (some ⟨w.heap.size + 1, 0, none⟩) 1 1] 22)) (some ⟨w.heap.size + 1, 0, none⟩) [back]) := (box_ints (box_at _ _ _ _ (by simp)) rfl).below (below_alloc _ _)
  have HR2 : Hid (Box (((w.alloc (.cells #[.slice A m c, .slice B n d, .int .i64 back, .int .i64 rate, .int .i64 fixed, .int .i64 bound] 31)).alloc (.cells #[.int .i64 back] 2)).alloc (.cells #[.slice B n d, .slice (some ⟨w.heap.size + 1, 0, none⟩) 1 1] 22)) (w.heap.size + 1 + 1) #[.slice B n d, .slice (some ⟨w.heap.size + 1, 0, none⟩) 1 1] 22) := box_at _ _ _ _ (by simp)
  have HC := Lib.hid (concat_n ⟨w.heap.size + 1 + 1, 0, none⟩ 2 B n d inn (some ⟨w.heap.size + 1, 0, none⟩) 1 1 [back] _ (HR2.out.cell 0 _ rfl) (HR2.out.cell 1 _ rfl) ⟨hn, hB.below HB0.out⟩ ⟨rfl, HR1.out⟩ (by omega) (by omega))
  have HL : Hid ((inn ++ [back]).length = n + 1) := by unfold Hid; rw [List.length_append, hn]; rfl
  have x1 := HBX.out.cell 1 _ rfl
  have x2 := HBX.out.cell 2 _ rfl
  clear hn hB hi hr hsum hs1 hq hm HR1 HR2
  go_enter Try.func28, Try.ntmps28
  go_wp2_with fail
  generalize (((w.alloc (.cells #[.slice A m c, .slice B n d, .int .i64 back, .int .i64 rate, .int .i64 fixed, .int .i64 bound] 31)).alloc (.cells #[.int .i64 back] 2)).alloc (.cells #[.slice B n d, .slice (some ⟨w.heap.size + 1, 0, none⟩) 1 1] 22)) = V at *
  with_reducible refine HC.out.mono ?_
  rintro e w1 ⟨A1, c1, rfl, h1⟩
  clear x1 x2 HC
  have HI1 : Hid (IntsAt w1 A1 (inn ++ [back])) := by
    obtain ⟨A', c', e, _, _, h3⟩ := h1.out.1.ints
    injection e with e1 e2 e3
    subst e1
    exact h3
  have HX1 := Lib.hid (HBX2.out.below h1.out.2)
  have HB1 := Lib.hid (below_next HB0.out h1.out.2)
  have HCS : Hid (Calls Try.prog 41 #[.slice A1 (n + 1) c1] w1 fun e w' => e = .returned (.tuple #[.int .i64 q, .int .i64 0]) ∧ w1 = w') := by
    have h := mon_sum A1 c1 (inn ++ [back]) w1 (by rw [HL.out]; unfold maxLen; omega) HI1.out
    rw [HL.out, HS.out] at h
    exact h
  clear h1
  have y3 := HX1.out.cell 3 _ rfl
  have y4 := HX1.out.cell 4 _ rfl
  go_wp2_with (first | (go_at_call 41; refine HCS.out.mono ?_; rintro e w' ⟨rfl, rfl⟩) | (go_at_call 51; refine (HCM.out _).mono ?_; rintro e w' ⟨rfl, rfl⟩) | (go_at_call 52; refine (HCA.out _).mono ?_; rintro e w' ⟨rfl, rfl⟩))
  go_ret2
  exact ⟨rfl, HB1.out⟩
end Go.Proofs.Ytbacakblboodeaa
