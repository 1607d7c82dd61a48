/- The law's own wake-up call over package bound returns true. -/
import Derived.Test.YtbacakblboodeaaBndG
import Derived.Test.YtbacakblboodeaaBndP
import Derived.Test.YtbacakblboodeaaBndO
namespace Go.Proofs.Ytbacakblboodeaa
open Go.RowKit
set_option linter.unusedVariables false
set_option maxRecDepth 100000

def akD : List Int := [0, 5, 6, 0]
def akZ : List Int := [0, 0, 0, 0]
def akOs : List Ld.O := [⟨7, 0, 1, 1, 1, 0, 0, 0⟩]
def akTs : List Ld.T := [⟨3, 1, 1, 0, 0, 4, 2⟩]
def akW (d0 d1 d2 d3 : Nat) : Wd := ⟨2, some ⟨d0, 0, none⟩, 4, 4, akD, some ⟨d1, 0, none⟩, 4, 4, akZ, some ⟨d2, 0, none⟩, 1, 1, akOs, some ⟨d3, 0, none⟩, 1, 1, akTs⟩
theorem ak_m7 : Bo.makeS 2 akD akZ akOs akTs [7] = (⟨[7], [5], 6, 2, 4, 26⟩, 0) := by kernel_rfl
theorem ak_m0 : Bo.makeS 2 akD akZ akOs akTs [] = (Bo.none, 0) := by kernel_rfl
theorem ak_m77 : Bo.makeS 2 akD akZ akOs akTs [7, 7] = (Bo.none, 6) := by kernel_rfl
theorem ak_m8 : Bo.makeS 2 akD akZ akOs akTs [8] = (Bo.none, 5) := by kernel_rfl
theorem ak_h7 : Bo.holdsB 2 akD akZ akOs akTs ⟨[7], [5], 6, 2, 4, 26⟩ = true := by kernel_rfl
theorem ak_h0 : Bo.holdsB 2 akD akZ akOs akTs ⟨[], [], 0, 0, 0, 0⟩ = true := by kernel_rfl
theorem ak_hx : Bo.holdsB 2 akD akZ akOs akTs ⟨[7], [5], 6, 2, 4, 27⟩ = false := by kernel_rfl
/-- all that is made, in its rows and boxes -/
structure AK (V : World) (d0 d1 d2 d3 d4 : Nat) : Prop where
  r0 : Box V d0 #[.int .i64 0, .int .i64 5, .int .i64 6, .int .i64 0] 2
  r1 : Box V d1 (Array.replicate 4 (Value.int .i64 0)) 2
  r2 : Box V d2 #[.int .i64 7, .int .i64 0, .int .i64 1, .int .i64 1, .int .i64 1, .int .i64 0, .int .i64 0, .int .i64 0] 57
  r3 : Box V d3 #[.int .i64 3, .int .i64 1, .int .i64 1, .int .i64 0, .int .i64 0, .int .i64 4, .int .i64 2] 59
  r4 : Box V d4 #[.int .i64 2, .slice (some ⟨d0, 0, none⟩) 4 4, .slice (some ⟨d1, 0, none⟩) 4 4, .slice (some ⟨d2, 0, none⟩) 1 1, .slice (some ⟨d3, 0, none⟩) 1 1] 28
theorem AK.below {V V' : World} {d0 d1 d2 d3 d4 : Nat} (h : AK V d0 d1 d2 d3 d4) (hb : Below V.heap.size V V') : AK V' d0 d1 d2 d3 d4 := ⟨h.r0.below hb, h.r1.below hb, h.r2.below hb, h.r3.below hb, h.r4.below hb⟩
theorem AK.wx {V : World} {d0 d1 d2 d3 d4 : Nat} (h : AK V d0 d1 d2 d3 d4) : WX V d4 (akW d0 d1 d2 d3) :=
  ⟨h.r4, ⟨⟨rfl, rfl, by show (4 : Nat) ≤ 400; omega, by show (4 : Nat) ≤ 400; omega, box_ints h.r0 rfl, box_ints h.r1 rfl⟩, by show (2 : Int) ≤ 9223372036854775807; omega, rfl, by show (1 : Nat) ≤ 1000; omega, rfl, by show (1 : Nat) ≤ 1000; omega, box_ints h.r2 rfl, box_ints h.r3 rfl⟩⟩
theorem AK.new (w : World) : AK (((((w.alloc (.cells #[.int .i64 0, .int .i64 5, .int .i64 6, .int .i64 0] 2)).alloc (.cells (Array.replicate 4 (Value.int .i64 0)) 2)).alloc (.cells #[.int .i64 7, .int .i64 0, .int .i64 1, .int .i64 1, .int .i64 1, .int .i64 0, .int .i64 0, .int .i64 0] 57)).alloc (.cells #[.int .i64 3, .int .i64 1, .int .i64 1, .int .i64 0, .int .i64 0, .int .i64 4, .int .i64 2] 59)).alloc (.cells #[.int .i64 2, .slice (some ⟨w.heap.size, 0, none⟩) 4 4, .slice (some ⟨w.heap.size + 1, 0, none⟩) 4 4, .slice (some ⟨w.heap.size + 1 + 1, 0, none⟩) 1 1, .slice (some ⟨w.heap.size + 1 + 1 + 1, 0, none⟩) 1 1] 28)) w.heap.size (w.heap.size + 1) (w.heap.size + 1 + 1) (w.heap.size + 1 + 1 + 1) (w.heap.size + 1 + 1 + 1 + 1) :=
  ⟨(((((box_at _ _ _ _ (by simp)).below (below_alloc _ _)).below (below_alloc _ _)).below (below_alloc _ _)).below (below_alloc _ _)),
    ((((box_at _ _ _ _ (by simp)).below (below_alloc _ _)).below (below_alloc _ _)).below (below_alloc _ _)),
    (((box_at _ _ _ _ (by simp)).below (below_alloc _ _)).below (below_alloc _ _)),
    ((box_at _ _ _ _ (by simp)).below (below_alloc _ _)),
    (box_at _ _ _ _ (by simp))⟩
theorem ct_is {q : Ct} {ids inn : List Int} {b r f t : Int} (h : q.c = ⟨ids, inn, b, r, f, t⟩) : q = ⟨q.iA, q.im, q.ic, ids, q.nA, q.nm, q.nc, inn, b, r, f, t⟩ := by
  obtain ⟨iA, im, ic, l, nA, nm, nc, k, b', r', f', t'⟩ := q
  have h : (⟨l, k, b', r', f', t'⟩ : Bo.C) = ⟨ids, inn, b, r, f, t⟩ := h
  injection h with h1 h2 h3 h4 h5 h6
  subst h1 h2 h3 h4 h5 h6
  rfl

set_option maxHeartbeats 8000000 in
theorem awake_any (w : World) : Calls Try.prog 7 #[] w fun e w' => e = .returned (.bool true) ∧ Below w.heap.size w w' := by
  have HK := Lib.hid (AK.new w)
  have HB : Hid (Below w.heap.size w (((((w.alloc (.cells #[.int .i64 0, .int .i64 5, .int .i64 6, .int .i64 0] 2)).alloc (.cells (Array.replicate 4 (Value.int .i64 0)) 2)).alloc (.cells #[.int .i64 7, .int .i64 0, .int .i64 1, .int .i64 1, .int .i64 1, .int .i64 0, .int .i64 0, .int .i64 0] 57)).alloc (.cells #[.int .i64 3, .int .i64 1, .int .i64 1, .int .i64 0, .int .i64 0, .int .i64 4, .int .i64 2] 59)).alloc (.cells #[.int .i64 2, .slice (some ⟨w.heap.size, 0, none⟩) 4 4, .slice (some ⟨w.heap.size + 1, 0, none⟩) 4 4, .slice (some ⟨w.heap.size + 1 + 1, 0, none⟩) 1 1, .slice (some ⟨w.heap.size + 1 + 1 + 1, 0, none⟩) 1 1] 28))) := below_more (below_more (below_more (below_more (below_alloc _ _) _) _) _) _
  have HG : Hid ((((((w.alloc (.cells #[.int .i64 0, .int .i64 5, .int .i64 6, .int .i64 0] 2)).alloc (.cells (Array.replicate 4 (Value.int .i64 0)) 2)).alloc (.cells #[.int .i64 7, .int .i64 0, .int .i64 1, .int .i64 1, .int .i64 1, .int .i64 0, .int .i64 0, .int .i64 0] 57)).alloc (.cells #[.int .i64 3, .int .i64 1, .int .i64 1, .int .i64 0, .int .i64 0, .int .i64 4, .int .i64 2] 59)).alloc (.cells #[.int .i64 2, .slice (some ⟨w.heap.size, 0, none⟩) 4 4, .slice (some ⟨w.heap.size + 1, 0, none⟩) 4 4, .slice (some ⟨w.heap.size + 1 + 1, 0, none⟩) 1 1, .slice (some ⟨w.heap.size + 1 + 1 + 1, 0, none⟩) 1 1] 28)).heap.size = w.heap.size + 1 + 1 + 1 + 1 + 1) := by unfold Hid; simp
  have hmk : ∀ W : World, (Instr.makeSlice 22 (.int .i64 4) (.int .i64 4)).run Try.prog W = .ok (.slice (some ⟨W.heap.size, 0, none⟩) 4 4) (W.alloc (.cells (Array.replicate 4 (Value.int .i64 0)) 2)) := make_nums2 4 (by omega)
  go_enter Try.func7, Try.ntmps7
  have c0 := HK.out.wx.c0
  have c1 := HK.out.wx.c1
  have c2 := HK.out.wx.c2
  have c3 := HK.out.wx.c3
  have c4 := HK.out.wx.c4
  go_wp2_with fail
  clear c0 c1 c2 c3 c4 hmk
  generalize (((((w.alloc (.cells #[.int .i64 0, .int .i64 5, .int .i64 6, .int .i64 0] 2)).alloc (.cells (Array.replicate 4 (Value.int .i64 0)) 2)).alloc (.cells #[.int .i64 7, .int .i64 0, .int .i64 1, .int .i64 1, .int .i64 1, .int .i64 0, .int .i64 0, .int .i64 0] 57)).alloc (.cells #[.int .i64 3, .int .i64 1, .int .i64 1, .int .i64 0, .int .i64 0, .int .i64 4, .int .i64 2] 59)).alloc (.cells #[.int .i64 2, .slice (some ⟨w.heap.size, 0, none⟩) 4 4, .slice (some ⟨w.heap.size + 1, 0, none⟩) 4 4, .slice (some ⟨w.heap.size + 1 + 1, 0, none⟩) 1 1, .slice (some ⟨w.heap.size + 1 + 1 + 1, 0, none⟩) 1 1] 28)) = V at *
  generalize w.heap.size + 1 + 1 + 1 + 1 + 1 = d5 at *
  generalize w.heap.size + 1 + 1 + 1 + 1 = d4 at *
  generalize w.heap.size + 1 + 1 + 1 = d3 at *
  generalize w.heap.size + 1 + 1 = d2 at *
  generalize w.heap.size + 1 = d1 at *
  generalize hd0 : w.heap.size = d0 at HK ⊢
  have HE := Lib.hid hd0
  clear hd0
  have HK0 := Lib.hid (HK.out.below (below_alloc V (.cells #[.int .i64 7] 3)))
  have HB0 := Lib.hid (below_more HB.out (.cells #[.int .i64 7] 3))
  have hi : IntsAt (V.alloc (.cells #[.int .i64 7] 3)) (some ⟨d5, 0, none⟩) [7] := by rw [← HG.out]; exact box_ints (Box.new _ _ _) rfl
  clear HK HB
  have HC := Lib.hid (make_b (akW d0 d1 d2 d3) (some ⟨d5, 0, none⟩) 1 1 [7] (V.alloc (.cells #[.int .i64 7] 3)) _ ak_m7 HK0.out.wx.at_ (Nat.le_refl _) rfl (by omega) hi)
  with_reducible refine HC.out.mono ?_
  rintro e w1 ⟨q, rfl, hq, h1⟩
  obtain ⟨iA, im, ic, ids, nA, nm, nc, inn, b, r, f, t⟩ := q
  have hq : (⟨ids, inn, b, r, f, t⟩ : Bo.C) = ⟨[7], [5], 6, 2, 4, 26⟩ := hq
  injection hq with h2 h3 h4 h5 h6 h7
  subst h2 h3 h4 h5 h6 h7
  have HK1 := Lib.hid ((HK0.out.below h1.out.1).below (below_alloc w1 (.cells #[.slice iA im ic, .slice nA nm nc, .int .i64 6, .int .i64 2, .int .i64 4, .int .i64 26] 31)))
  have HB1 := Lib.hid (below_more (below_next HB0.out h1.out.1) (.cells #[.slice iA im ic, .slice nA nm nc, .int .i64 6, .int .i64 2, .int .i64 4, .int .i64 26] 31))
  have HQ : Hid (CX (w1.alloc (.cells #[.slice iA im ic, .slice nA nm nc, .int .i64 6, .int .i64 2, .int .i64 4, .int .i64 26] 31)) w1.heap.size ⟨iA, im, ic, [7], nA, nm, nc, [5], 6, 2, 4, 26⟩) := CX.new h1.out.2
  clear HC HK0 HB0 hi h1
  have c0 := HK1.out.wx.c0
  have c1 := HK1.out.wx.c1
  have c2 := HK1.out.wx.c2
  have c3 := HK1.out.wx.c3
  have c4 := HK1.out.wx.c4
  go_wp2_with fail
  clear c0 c1 c2 c3 c4
  generalize w1.alloc (.cells #[.slice iA im ic, .slice nA nm nc, .int .i64 6, .int .i64 2, .int .i64 4, .int .i64 26] 31) = W1 at *
  generalize w1.heap.size = e2 at *
  have HC := Lib.hid (make_b (akW d0 d1 d2 d3) none 0 0 [] W1 _ ak_m0 HK1.out.wx.at_ (Nat.le_refl _) rfl (by omega) (IntsAt.nil _ _))
  with_reducible refine HC.out.mono ?_
  rintro e w2 ⟨q2, rfl, hq, h1⟩
  obtain ⟨iB, ib, ib2, ids, nB, nb, nb2, inn, b, r, f, t⟩ := q2
  have hq : (⟨ids, inn, b, r, f, t⟩ : Bo.C) = ⟨[], [], 0, 0, 0, 0⟩ := hq
  injection hq with h2 h3 h4 h5 h6 h7
  subst h2 h3 h4 h5 h6 h7
  have HK2 := Lib.hid ((HK1.out.below h1.out.1).below (below_alloc w2 (.cells #[.slice iB ib ib2, .slice nB nb nb2, .int .i64 0, .int .i64 0, .int .i64 0, .int .i64 0] 31)))
  have HB2 := Lib.hid (below_more (below_next HB1.out h1.out.1) (.cells #[.slice iB ib ib2, .slice nB nb nb2, .int .i64 0, .int .i64 0, .int .i64 0, .int .i64 0] 31))
  have HQ2 := Lib.hid ((HQ.out.below h1.out.1).below (below_alloc w2 (.cells #[.slice iB ib ib2, .slice nB nb nb2, .int .i64 0, .int .i64 0, .int .i64 0, .int .i64 0] 31)))
  have HD2 : Hid (CX (w2.alloc (.cells #[.slice iB ib ib2, .slice nB nb nb2, .int .i64 0, .int .i64 0, .int .i64 0, .int .i64 0] 31)) w2.heap.size ⟨iB, ib, ib2, [], nB, nb, nb2, [], 0, 0, 0, 0⟩) := CX.new h1.out.2
  clear HC HK1 HB1 HQ h1
  have c0 := HK2.out.wx.c0
  have c1 := HK2.out.wx.c1
  have c2 := HK2.out.wx.c2
  have c3 := HK2.out.wx.c3
  have c4 := HK2.out.wx.c4
  go_wp2_with fail
  clear c0 c1 c2 c3 c4
  have HG2 : Hid ((w2.alloc (.cells #[.slice iB ib ib2, .slice nB nb nb2, .int .i64 0, .int .i64 0, .int .i64 0, .int .i64 0] 31)).heap.size = w2.heap.size + 1) := (size_one _ _).symm
  generalize w2.alloc (.cells #[.slice iB ib ib2, .slice nB nb nb2, .int .i64 0, .int .i64 0, .int .i64 0, .int .i64 0] 31) = W2 at *
  generalize w2.heap.size = e4 at *
  have HI3 := Lib.hid (below_alloc W2 (.cells #[.int .i64 7, .int .i64 7] 3))
  have hi : IntsAt (W2.alloc (.cells #[.int .i64 7, .int .i64 7] 3)) (some ⟨e4 + 1, 0, none⟩) [7, 7] := by rw [← HG2.out]; exact box_ints (Box.new _ _ _) rfl
  have HC := Lib.hid (make_b (akW d0 d1 d2 d3) (some ⟨e4 + 1, 0, none⟩) 2 2 [7, 7] (W2.alloc (.cells #[.int .i64 7, .int .i64 7] 3)) _ ak_m77 (HK2.out.below HI3.out).wx.at_ (Nat.le_refl _) rfl (by omega) hi)
  with_reducible refine HC.out.mono ?_
  rintro e w3 ⟨q3, rfl, hq, h1⟩
  have HI : Hid (Below W2.heap.size W2 (w3.alloc (.cells #[.slice q3.iA q3.im q3.ic, .slice q3.nA q3.nm q3.nc, .int .i64 q3.back, .int .i64 q3.rate, .int .i64 q3.fixed, .int .i64 q3.bound] 31))) := below_more (below_next HI3.out h1.out.1) _
  have HK3 := Lib.hid (HK2.out.below HI.out)
  have HB3 := Lib.hid (below_next HB2.out HI.out)
  have HQ3 := Lib.hid (HQ2.out.below HI.out)
  have HD3 := Lib.hid (HD2.out.below HI.out)
  clear HC HK2 HB2 HQ2 HD2 h1 hi HI HI3 hq
  have c0 := HK3.out.wx.c0
  have c1 := HK3.out.wx.c1
  have c2 := HK3.out.wx.c2
  have c3 := HK3.out.wx.c3
  have c4 := HK3.out.wx.c4
  go_wp2_with fail
  clear c0 c1 c2 c3 c4
  have HG3 : Hid ((w3.alloc (.cells #[.slice q3.iA q3.im q3.ic, .slice q3.nA q3.nm q3.nc, .int .i64 q3.back, .int .i64 q3.rate, .int .i64 q3.fixed, .int .i64 q3.bound] 31)).heap.size = w3.heap.size + 1) := (size_one _ _).symm
  generalize w3.alloc (.cells #[.slice q3.iA q3.im q3.ic, .slice q3.nA q3.nm q3.nc, .int .i64 q3.back, .int .i64 q3.rate, .int .i64 q3.fixed, .int .i64 q3.bound] 31) = W3 at *
  generalize w3.heap.size = e6 at *
  have HI4 := Lib.hid (below_alloc W3 (.cells #[.int .i64 8] 3))
  have hi : IntsAt (W3.alloc (.cells #[.int .i64 8] 3)) (some ⟨e6 + 1, 0, none⟩) [8] := by rw [← HG3.out]; exact box_ints (Box.new _ _ _) rfl
  have HC := Lib.hid (make_b (akW d0 d1 d2 d3) (some ⟨e6 + 1, 0, none⟩) 1 1 [8] (W3.alloc (.cells #[.int .i64 8] 3)) _ ak_m8 (HK3.out.below HI4.out).wx.at_ (Nat.le_refl _) rfl (by omega) hi)
  with_reducible refine HC.out.mono ?_
  rintro e w4 ⟨q4, rfl, hq, h1⟩
  have HI : Hid (Below W3.heap.size W3 (w4.alloc (.cells #[.slice q4.iA q4.im q4.ic, .slice q4.nA q4.nm q4.nc, .int .i64 q4.back, .int .i64 q4.rate, .int .i64 q4.fixed, .int .i64 q4.bound] 31))) := below_more (below_next HI4.out h1.out.1) _
  have HK4 := Lib.hid (HK3.out.below HI.out)
  have HB4 := Lib.hid (below_next HB3.out HI.out)
  have HQ4 := Lib.hid (HQ3.out.below HI.out)
  have HD4 := Lib.hid (HD3.out.below HI.out)
  clear HC HK3 HB3 HQ3 HD3 h1 hi HI HI4 hq
  have HI : Hid (Below (w4.alloc (.cells #[.slice q4.iA q4.im q4.ic, .slice q4.nA q4.nm q4.nc, .int .i64 q4.back, .int .i64 q4.rate, .int .i64 q4.fixed, .int .i64 q4.bound] 31)).heap.size (w4.alloc (.cells #[.slice q4.iA q4.im q4.ic, .slice q4.nA q4.nm q4.nc, .int .i64 q4.back, .int .i64 q4.rate, .int .i64 q4.fixed, .int .i64 q4.bound] 31)) ((w4.alloc (.cells #[.slice q4.iA q4.im q4.ic, .slice q4.nA q4.nm q4.nc, .int .i64 q4.back, .int .i64 q4.rate, .int .i64 q4.fixed, .int .i64 q4.bound] 31)).alloc (.cells #[.slice iA im ic, .slice nA nm nc, .int .i64 6, .int .i64 2, .int .i64 4, .int .i64 27] 31))) := below_alloc _ _
  have HX5 : Hid (Box ((w4.alloc (.cells #[.slice q4.iA q4.im q4.ic, .slice q4.nA q4.nm q4.nc, .int .i64 q4.back, .int .i64 q4.rate, .int .i64 q4.fixed, .int .i64 q4.bound] 31)).alloc (.cells #[.slice iA im ic, .slice nA nm nc, .int .i64 6, .int .i64 2, .int .i64 4, .int .i64 27] 31)) (w4.heap.size + 1) #[.slice iA im ic, .slice nA nm nc, .int .i64 6, .int .i64 2, .int .i64 4, .int .i64 27] 31) := box_at _ _ _ _ (by simp)
  have HC5 : Hid (CtAt ((w4.alloc (.cells #[.slice q4.iA q4.im q4.ic, .slice q4.nA q4.nm q4.nc, .int .i64 q4.back, .int .i64 q4.rate, .int .i64 q4.fixed, .int .i64 q4.bound] 31)).alloc (.cells #[.slice iA im ic, .slice nA nm nc, .int .i64 6, .int .i64 2, .int .i64 4, .int .i64 27] 31)) ⟨iA, im, ic, [7], nA, nm, nc, [5], 6, 2, 4, 27⟩) := by
    have h := (HQ4.out.below HI.out).at_
    exact ⟨h.il, h.i2, h.ii, h.nl, h.n2, h.nn⟩
  have HK5 := Lib.hid (HK4.out.below HI.out)
  have HB5 := Lib.hid (below_next HB4.out HI.out)
  have HQ5 := Lib.hid (HQ4.out.below HI.out)
  have HD5 := Lib.hid (HD4.out.below HI.out)
  have q0 := HQ4.out.c0
  have q1 := HQ4.out.c1
  have q2 := HQ4.out.c2
  have q3 := HQ4.out.c3
  have q4 := HQ4.out.c4
  have q5 := HQ4.out.c5
  have r0 := HQ5.out.c0
  have r1 := HQ5.out.c1
  have r2 := HQ5.out.c2
  have r3 := HQ5.out.c3
  have r4 := HQ5.out.c4
  have r5 := HQ5.out.c5
  go_wp2_with fail
  clear q0 q1 q2 q3 q4 q5 r0 r1 r2 r3 r4 r5
  have HI8 : Hid (Below ((w4.alloc (.cells #[.slice q4.iA q4.im q4.ic, .slice q4.nA q4.nm q4.nc, .int .i64 q4.back, .int .i64 q4.rate, .int .i64 q4.fixed, .int .i64 q4.bound] 31)).alloc (.cells #[.slice iA im ic, .slice nA nm nc, .int .i64 6, .int .i64 2, .int .i64 4, .int .i64 27] 31)).heap.size ((w4.alloc (.cells #[.slice q4.iA q4.im q4.ic, .slice q4.nA q4.nm q4.nc, .int .i64 q4.back, .int .i64 q4.rate, .int .i64 q4.fixed, .int .i64 q4.bound] 31)).alloc (.cells #[.slice iA im ic, .slice nA nm nc, .int .i64 6, .int .i64 2, .int .i64 4, .int .i64 27] 31)) ((((w4.alloc (.cells #[.slice q4.iA q4.im q4.ic, .slice q4.nA q4.nm q4.nc, .int .i64 q4.back, .int .i64 q4.rate, .int .i64 q4.fixed, .int .i64 q4.bound] 31)).alloc (.cells #[.slice iA im ic, .slice nA nm nc, .int .i64 6, .int .i64 2, .int .i64 4, .int .i64 27] 31)).alloc (.cells #[.int .i64 7] 3)).alloc (.cells #[.int .i64 5] 2))) := below_more (below_alloc _ _) _
  have HA8 : Hid (IntsAt ((((w4.alloc (.cells #[.slice q4.iA q4.im q4.ic, .slice q4.nA q4.nm q4.nc, .int .i64 q4.back, .int .i64 q4.rate, .int .i64 q4.fixed, .int .i64 q4.bound] 31)).alloc (.cells #[.slice iA im ic, .slice nA nm nc, .int .i64 6, .int .i64 2, .int .i64 4, .int .i64 27] 31)).alloc (.cells #[.int .i64 7] 3)).alloc (.cells #[.int .i64 5] 2)) (some ⟨w4.heap.size + 1 + 1, 0, none⟩) [7]) := box_ints ((box_at _ _ _ _ (by simp)).below (below_alloc _ _)) rfl
  have HN8 : Hid (IntsAt ((((w4.alloc (.cells #[.slice q4.iA q4.im q4.ic, .slice q4.nA q4.nm q4.nc, .int .i64 q4.back, .int .i64 q4.rate, .int .i64 q4.fixed, .int .i64 q4.bound] 31)).alloc (.cells #[.slice iA im ic, .slice nA nm nc, .int .i64 6, .int .i64 2, .int .i64 4, .int .i64 27] 31)).alloc (.cells #[.int .i64 7] 3)).alloc (.cells #[.int .i64 5] 2)) (some ⟨w4.heap.size + 1 + 1 + 1, 0, none⟩) [5]) := box_ints (box_at _ _ _ _ (by simp)) rfl
  have HC := Lib.hid (csame_b ⟨iA, im, ic, [7], nA, nm, nc, [5], 6, 2, 4, 26⟩ ⟨some ⟨w4.heap.size + 1 + 1, 0, none⟩, 1, 1, [7], some ⟨w4.heap.size + 1 + 1 + 1, 0, none⟩, 1, 1, [5], 6, 2, 4, 26⟩ ((((w4.alloc (.cells #[.slice q4.iA q4.im q4.ic, .slice q4.nA q4.nm q4.nc, .int .i64 q4.back, .int .i64 q4.rate, .int .i64 q4.fixed, .int .i64 q4.bound] 31)).alloc (.cells #[.slice iA im ic, .slice nA nm nc, .int .i64 6, .int .i64 2, .int .i64 4, .int .i64 27] 31)).alloc (.cells #[.int .i64 7] 3)).alloc (.cells #[.int .i64 5] 2)) true ⟨fun _ => rfl, fun _ => rfl⟩ (HQ5.out.below HI8.out).at_ ⟨rfl, by show (1 : Nat) ≤ 900; omega, HA8.out, rfl, by show (1 : Nat) ≤ 900; omega, HN8.out⟩)
  with_reducible refine HC.out.mono ?_
  rintro e w8 ⟨rfl, h8⟩
  have HI : Hid (Below ((w4.alloc (.cells #[.slice q4.iA q4.im q4.ic, .slice q4.nA q4.nm q4.nc, .int .i64 q4.back, .int .i64 q4.rate, .int .i64 q4.fixed, .int .i64 q4.bound] 31)).alloc (.cells #[.slice iA im ic, .slice nA nm nc, .int .i64 6, .int .i64 2, .int .i64 4, .int .i64 27] 31)).heap.size ((w4.alloc (.cells #[.slice q4.iA q4.im q4.ic, .slice q4.nA q4.nm q4.nc, .int .i64 q4.back, .int .i64 q4.rate, .int .i64 q4.fixed, .int .i64 q4.bound] 31)).alloc (.cells #[.slice iA im ic, .slice nA nm nc, .int .i64 6, .int .i64 2, .int .i64 4, .int .i64 27] 31)) w8) := below_next HI8.out h8.out
  have HK8 := Lib.hid (HK5.out.below HI.out)
  have HB8 := Lib.hid (below_next HB5.out HI.out)
  have HQ8 := Lib.hid (HQ5.out.below HI.out)
  have HD8 := Lib.hid (HD5.out.below HI.out)
  have HX8 := Lib.hid (HX5.out.below HI.out)
  have HC8 := Lib.hid (HC5.out.below HI.out)
  clear HI HI8 HA8 HN8 HC h8 HK4 HB4 HQ4 HD4 HK5 HB5 HQ5 HD5 HX5 HC5
  have c0 := HK8.out.wx.c0
  have c1 := HK8.out.wx.c1
  have c2 := HK8.out.wx.c2
  have c3 := HK8.out.wx.c3
  have c4 := HK8.out.wx.c4
  have q0 := HQ8.out.c0
  have q1 := HQ8.out.c1
  have q2 := HQ8.out.c2
  have q3 := HQ8.out.c3
  have q4 := HQ8.out.c4
  have q5 := HQ8.out.c5
  have d5 := HD8.out.c5
  go_wp2_with fail
  clear c0 c1 c2 c3 c4 q0 q1 q2 q3 q4 q5 d5
  have HC := Lib.hid (holds_b (akW d0 d1 d2 d3) ⟨iA, im, ic, [7], nA, nm, nc, [5], 6, 2, 4, 26⟩ w8 _ ak_h7 HK8.out.wx.at_ (Nat.le_refl _) HQ8.out.at_)
  with_reducible refine HC.out.mono ?_
  rintro e w9 ⟨rfl, h8⟩
  have HK9 := Lib.hid (HK8.out.below h8.out)
  have HB9 := Lib.hid (below_next HB8.out h8.out)
  have HD9 := Lib.hid (HD8.out.below h8.out)
  have HX9 := Lib.hid (HX8.out.below h8.out)
  have HC9 := Lib.hid (HC8.out.below h8.out)
  clear HC h8
  have c0 := HK9.out.wx.c0
  have c1 := HK9.out.wx.c1
  have c2 := HK9.out.wx.c2
  have c3 := HK9.out.wx.c3
  have c4 := HK9.out.wx.c4
  have q0 := HD9.out.c0
  have q1 := HD9.out.c1
  have q2 := HD9.out.c2
  have q3 := HD9.out.c3
  have q4 := HD9.out.c4
  have q5 := HD9.out.c5
  go_wp2_with fail
  clear c0 c1 c2 c3 c4 q0 q1 q2 q3 q4 q5
  have HC := Lib.hid (holds_b (akW d0 d1 d2 d3) ⟨iB, ib, ib2, [], nB, nb, nb2, [], 0, 0, 0, 0⟩ w9 _ ak_h0 HK9.out.wx.at_ (Nat.le_refl _) HD9.out.at_)
  with_reducible refine HC.out.mono ?_
  rintro e w10 ⟨rfl, h8⟩
  have HK10 := Lib.hid (HK9.out.below h8.out)
  have HB10 := Lib.hid (below_next HB9.out h8.out)
  have HD10 := Lib.hid (HD9.out.below h8.out)
  have HX10 := Lib.hid (HX9.out.below h8.out)
  have HC10 := Lib.hid (HC9.out.below h8.out)
  clear HC h8
  have c0 := HK10.out.wx.c0
  have c1 := HK10.out.wx.c1
  have c2 := HK10.out.wx.c2
  have c3 := HK10.out.wx.c3
  have c4 := HK10.out.wx.c4
  have q0 := HX10.out.cell 0 _ rfl
  have q1 := HX10.out.cell 1 _ rfl
  have q2 := HX10.out.cell 2 _ rfl
  have q3 := HX10.out.cell 3 _ rfl
  have q4 := HX10.out.cell 4 _ rfl
  have q5 := HX10.out.cell 5 _ rfl
  go_wp2_with fail
  clear c0 c1 c2 c3 c4 q0 q1 q2 q3 q4 q5
  have HC := Lib.hid (holds_b (akW d0 d1 d2 d3) ⟨iA, im, ic, [7], nA, nm, nc, [5], 6, 2, 4, 27⟩ w10 _ ak_hx HK10.out.wx.at_ (Nat.le_refl _) HC10.out)
  with_reducible refine HC.out.mono ?_
  rintro e w11 ⟨rfl, h8⟩
  have HK11 := Lib.hid (HK10.out.below h8.out)
  have HB11 := Lib.hid (below_next HB10.out h8.out)
  have HD11 := Lib.hid (HD10.out.below h8.out)
  have HX11 := Lib.hid (HX10.out.below h8.out)
  have HC11 := Lib.hid (HC10.out.below h8.out)
  clear HC h8
  go_wp2
  go_ret
  exact ⟨rfl, HB11.out⟩
end Go.Proofs.Ytbacakblboodeaa
