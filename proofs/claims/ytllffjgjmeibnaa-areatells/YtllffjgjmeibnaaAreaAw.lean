/- The law's own wake-up call over package area returns true. -/
import Derived.Test.YtllffjgjmeibnaaAreaT3
namespace Go.Proofs.Ytllffjgjmeibnaa
open Go.RowKit Go.Shelf
set_option linter.unusedVariables false

def D9 : List Int := [0, 1, 2, 3, 0, 4, 5, 6, 0]
def T9 : List Int := [0, 10, 20, 30, 0, 40, 50, 60, 0]
theorem aw_tour : Ar.tourS 3 D9 T9 [1, 2] = (10, 100, 0) := by decide +kernel
theorem aw_leg : Ar.legS 3 D9 T9 2 1 = (6, 60, 0) := by decide +kernel
theorem aw_near : Ar.nearS 3 D9 T9 1 [0, 1, 2] = (1, 0) := by decide +kernel
theorem aw_near1 : Ar.nearS 3 D9 T9 1 [1] = (0, 2) := by decide +kernel
theorem aw_leg3 : Ar.legS 3 D9 T9 0 3 = (0, 0, 5) := by decide +kernel
theorem aw_check : Ar.checkE 3 D9 T9 = 0 := by decide +kernel
theorem aw_check0 : Ar.checkE 0 [] [] = 1 := by decide +kernel

theorem ints1 (w : World) (a : Int) (ty : TypeId) : IntsAt (w.alloc (.cells #[.int .i64 a] ty)) (some ⟨w.heap.size, 0, none⟩) [a] := box_ints (Box.new w _ ty) (by simp)
theorem ints3 (w : World) (a b c : Int) (ty : TypeId) : IntsAt (w.alloc (.cells #[.int .i64 a, .int .i64 b, .int .i64 c] ty)) (some ⟨w.heap.size, 0, none⟩) [a, b, c] := box_ints (Box.new w _ ty) (by simp)
theorem none_at (w : World) : AreaAt w none 0 [] none 0 [] := ⟨rfl, rfl, by omega, by omega, IntsAt.nil _ _, IntsAt.nil _ _⟩

set_option maxHeartbeats 4000000 in
set_option maxRecDepth 100000 in
theorem awake_any (w : World) : Calls Try.prog 6 #[] w fun e w' => e = .returned (.bool true) ∧ Below w.heap.size w w' := by
  have HV : Hid (Boxed (((w.alloc (.cells #[.int .i64 0, .int .i64 1, .int .i64 2, .int .i64 3, .int .i64 0, .int .i64 4, .int .i64 5, .int .i64 6, .int .i64 0] 2)).alloc (.cells #[.int .i64 0, .int .i64 10, .int .i64 20, .int .i64 30, .int .i64 0, .int .i64 40, .int .i64 50, .int .i64 60, .int .i64 0] 2)).alloc (.cells #[.int .i64 3, .slice (some ⟨w.heap.size, 0, none⟩) 9 9, .slice (some ⟨w.heap.size + 1, 0, none⟩) 9 9] 24)) (w.heap.size + 1 + 1) 3 (some ⟨w.heap.size, 0, none⟩) 9 9 D9 (some ⟨w.heap.size + 1, 0, none⟩) 9 9 T9 ∧
      Below w.heap.size w (((w.alloc (.cells #[.int .i64 0, .int .i64 1, .int .i64 2, .int .i64 3, .int .i64 0, .int .i64 4, .int .i64 5, .int .i64 6, .int .i64 0] 2)).alloc (.cells #[.int .i64 0, .int .i64 10, .int .i64 20, .int .i64 30, .int .i64 0, .int .i64 40, .int .i64 50, .int .i64 60, .int .i64 0] 2)).alloc (.cells #[.int .i64 3, .slice (some ⟨w.heap.size, 0, none⟩) 9 9, .slice (some ⟨w.heap.size + 1, 0, none⟩) 9 9] 24))) := by
    have q1 : IntsAt (w.alloc (.cells #[.int .i64 0, .int .i64 1, .int .i64 2, .int .i64 3, .int .i64 0, .int .i64 4, .int .i64 5, .int .i64 6, .int .i64 0] 2)) (some ⟨w.heap.size, 0, none⟩) D9 := box_ints (Box.new w _ _) (by simp [D9])
    generalize hV1 : w.alloc (.cells #[.int .i64 0, .int .i64 1, .int .i64 2, .int .i64 3, .int .i64 0, .int .i64 4, .int .i64 5, .int .i64 6, .int .i64 0] 2) = V1 at *
    have hs1 : w.heap.size + 1 = V1.heap.size := by rw [← hV1]; simp
    have hb1 : Below w.heap.size w V1 := by rw [← hV1]; exact below_alloc _ _
    have q2 : IntsAt (V1.alloc (.cells #[.int .i64 0, .int .i64 10, .int .i64 20, .int .i64 30, .int .i64 0, .int .i64 40, .int .i64 50, .int .i64 60, .int .i64 0] 2)) (some ⟨V1.heap.size, 0, none⟩) T9 := box_ints (Box.new V1 _ _) (by simp [T9])
    have q3 := q1.alloc (.cells #[.int .i64 0, .int .i64 10, .int .i64 20, .int .i64 30, .int .i64 0, .int .i64 40, .int .i64 50, .int .i64 60, .int .i64 0] 2)
    rw [← hs1] at q2
    have hb2 := below_next hb1 (below_alloc V1 (.cells #[.int .i64 0, .int .i64 10, .int .i64 20, .int .i64 30, .int .i64 0, .int .i64 40, .int .i64 50, .int .i64 60, .int .i64 0] 2))
    have hs2 : w.heap.size + 1 + 1 = (V1.alloc (.cells #[.int .i64 0, .int .i64 10, .int .i64 20, .int .i64 30, .int .i64 0, .int .i64 40, .int .i64 50, .int .i64 60, .int .i64 0] 2)).heap.size := by rw [hs1]; simp
    generalize V1.alloc (.cells #[.int .i64 0, .int .i64 10, .int .i64 20, .int .i64 30, .int .i64 0, .int .i64 40, .int .i64 50, .int .i64 60, .int .i64 0] 2) = V2 at *
    refine ⟨?_, below_next hb2 (below_alloc _ _)⟩
    have := Boxed.new (w := V2) (N := 3) (dA := some ⟨w.heap.size, 0, none⟩) (tA := some ⟨w.heap.size + 1, 0, none⟩) (dm := 9) (dc := 9) (tm := 9) (tc := 9) (D := D9) (T := T9) ⟨rfl, rfl, by omega, by omega, q3, q2⟩
    rw [← hs2] at this
    exact this
  go_enter Try.func6, Try.ntmps6
  go_wp2_with fail
  have hsz : w.heap.size + 1 + 1 + 1 = (((w.alloc (.cells #[.int .i64 0, .int .i64 1, .int .i64 2, .int .i64 3, .int .i64 0, .int .i64 4, .int .i64 5, .int .i64 6, .int .i64 0] 2)).alloc (.cells #[.int .i64 0, .int .i64 10, .int .i64 20, .int .i64 30, .int .i64 0, .int .i64 40, .int .i64 50, .int .i64 60, .int .i64 0] 2)).alloc (.cells #[.int .i64 3, .slice (some ⟨w.heap.size, 0, none⟩) 9 9, .slice (some ⟨w.heap.size + 1, 0, none⟩) 9 9] 24)).heap.size := by simp
  rw [hsz]
  clear hsz
  generalize ((w.alloc (.cells #[.int .i64 0, .int .i64 1, .int .i64 2, .int .i64 3, .int .i64 0, .int .i64 4, .int .i64 5, .int .i64 6, .int .i64 0] 2)).alloc (.cells #[.int .i64 0, .int .i64 10, .int .i64 20, .int .i64 30, .int .i64 0, .int .i64 40, .int .i64 50, .int .i64 60, .int .i64 0] 2)).alloc (.cells #[.int .i64 3, .slice (some ⟨w.heap.size, 0, none⟩) 9 9, .slice (some ⟨w.heap.size + 1, 0, none⟩) 9 9] 24) = V at *
  generalize w.heap.size + 1 + 1 = b at *
  generalize w.heap.size + 1 = b1 at *
  with_reducible refine (tour_b (w := V) (some ⟨V.heap.size, 0, none⟩) 2 2 [1, 2] 10 100 0 HV.out.1.rows rfl (by omega) (box_row2 V 1 2 _) (below_alloc _ _) aw_tour).mono ?_
  rintro e w1 ⟨rfl, hb1⟩
  have HB1 := Lib.hid (below_next (below_alloc _ _) hb1.out)
  have x0 := (HV.out.1.below HB1.out).c0
  have x1 := (HV.out.1.below HB1.out).c1
  have x2 := (HV.out.1.below HB1.out).c2
  clear hb1
  go_wp2_with fail
  with_reducible refine (leg_b (w := V) 2 1 6 60 0 HV.out.1.rows HB1.out aw_leg).mono ?_
  rintro e w2 ⟨rfl, hb2⟩
  have HB2 := Lib.hid (below_next HB1.out hb2.out)
  clear hb2 x0 x1 x2 HB1
  have x0 := (HV.out.1.below HB2.out).c0
  have x1 := (HV.out.1.below HB2.out).c1
  have x2 := (HV.out.1.below HB2.out).c2
  go_wp2_with fail
  with_reducible refine (near_b (w := V) 1 (some ⟨w2.heap.size, 0, none⟩) 3 3 [0, 1, 2] 1 0 HV.out.1.rows rfl (by omega) (ints3 w2 0 1 2 _) (below_next HB2.out (below_alloc _ _)) aw_near).mono ?_
  rintro e w3 ⟨rfl, hb3⟩
  have HB3 := Lib.hid (below_next (below_next HB2.out (below_alloc _ _)) hb3.out)
  clear hb3 x0 x1 x2 HB2
  have x0 := (HV.out.1.below HB3.out).c0
  have x1 := (HV.out.1.below HB3.out).c1
  have x2 := (HV.out.1.below HB3.out).c2
  go_wp2_with fail
  with_reducible refine (near_b (w := V) 1 (some ⟨w3.heap.size, 0, none⟩) 1 1 [1] 0 2 HV.out.1.rows rfl (by omega) (ints1 w3 1 _) (below_next HB3.out (below_alloc _ _)) aw_near1).mono ?_
  rintro e w4 ⟨rfl, hb4⟩
  have HB4 := Lib.hid (below_next (below_next HB3.out (below_alloc _ _)) hb4.out)
  clear hb4 x0 x1 x2 HB3
  have x0 := (HV.out.1.below HB4.out).c0
  have x1 := (HV.out.1.below HB4.out).c1
  have x2 := (HV.out.1.below HB4.out).c2
  go_wp2_with fail
  with_reducible refine (leg_b (w := V) 0 3 0 0 5 HV.out.1.rows HB4.out aw_leg3).mono ?_
  rintro e w5 ⟨rfl, hb5⟩
  have HB5 := Lib.hid (below_next HB4.out hb5.out)
  clear hb5 x0 x1 x2 HB4
  have x0 := (HV.out.1.below HB5.out).c0
  have x1 := (HV.out.1.below HB5.out).c1
  have x2 := (HV.out.1.below HB5.out).c2
  go_wp2_with fail
  with_reducible refine (check_ok w5 0 aw_check (HV.out.1.rows.below HB5.out)).mono ?_
  rintro e w6 ⟨rfl, hb6⟩
  go_wp2_with fail
  with_reducible refine (check_ok w6 1 aw_check0 (none_at w6)).mono ?_
  rintro e w7 ⟨rfl, hb7⟩
  have HB7 := Lib.hid (below_next (below_next (below_next HV.out.2 HB5.out) hb6.out) hb7.out)
  clear hb6 hb7 x0 x1 x2 HB5
  go_wp2
  go_ret
  exact ⟨rfl, HB7.out⟩
end Go.Proofs.Ytllffjgjmeibnaa
