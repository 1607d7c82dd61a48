/- The law's own wake-up call over package plan returns true. -/
import Derived.Test.YtmidkjlikhngmaaGreatPlanM
namespace Go.Proofs.YtmidkjlikhngmaaGreat
open Go.RowKit
set_option linter.unusedVariables false
set_option maxRecDepth 100000

def akO (id : Int) : Ld.O := ⟨id, 0, 1, 1, 1, 0, 9, 0⟩
def akT : Ld.T := ⟨3, 1, 1, 0, 16, 4, 2⟩
def akD : List Int := [0, 5, 5, 0]
def akW (d0 d1 d2 d3 : Nat) : Wd := ⟨2, some ⟨d0, 0, none⟩, 4, 4, akD, some ⟨d1, 0, none⟩, 4, 4, akD, some ⟨d2, 0, none⟩, 2, 2, [akO 8, akO 7], some ⟨d3, 0, none⟩, 1, 1, [akT]⟩
def akR (d5 : Nat) : Rd := ⟨3, some ⟨d5, 0, none⟩, 1, 1, [7]⟩
def akP (d5 d6 d7 : Nat) : Pd := ⟨some ⟨d6, 0, none⟩, 1, 1, [akR d5], some ⟨d7, 0, none⟩, 1, 1, [8]⟩
def akNo (d9 : Nat) : Pd := ⟨none, 0, 0, [], some ⟨d9, 0, none⟩, 2, 2, [7, 8]⟩
def akE : Pd := ⟨none, 0, 0, [], none, 0, 0, []⟩
theorem ak_p : Pl.checkS 2 akD akD [akO 8, akO 7] [akT] [⟨3, [7]⟩] [8] = (24, 0) := by kernel_rfl
theorem ak_n : Pl.checkS 2 akD akD [akO 8, akO 7] [akT] [] [7, 8] = (0, 0) := by kernel_rfl
theorem ak_e : Pl.checkS 2 akD akD [akO 8, akO 7] [akT] [] [] = (0, 2) := by kernel_rfl
theorem ak_s : Pl.servedS [⟨3, [7]⟩] = [7] := by kernel_rfl
theorem ak_r : Pl.restS [akO 8, akO 7] [] = [7, 8] := by kernel_rfl
theorem box_new_at (W : World) (b : Nat) (cs : Array Value) (t : TypeId) (hb : b = W.heap.size) : Box (W.alloc (.cells cs t)) b cs t := by
  subst hb
  exact Box.new _ _ _
theorem newi_n {w w' : World} {l : List Int} {n : Nat} {e : Ending} (h : NewI w l e w') (hn : l.length = n) : ∃ A c, e = .returned (.slice A n c) ∧ n ≤ c ∧ Hid (Below w.heap.size w w' ∧ IntsAt w' A l) := by
  obtain ⟨A, c, he, h1, h2⟩ := h
  rw [hn] at he h1
  exact ⟨A, c, he, h1, h2.out.1, h2.out.2.1⟩

/-- all that is made, in its rows and boxes -/
structure AK (V : World) (d0 d1 d2 d3 d4 d5 d6 d7 d8 d9 d10 : Nat) : Prop where
  r0 : Box V d0 #[.int .i64 0, .int .i64 5, .int .i64 5, .int .i64 0] 2
  r1 : Box V d1 #[.int .i64 0, .int .i64 5, .int .i64 5, .int .i64 0] 2
  r2 : Box V d2 #[.int .i64 8, .int .i64 0, .int .i64 1, .int .i64 1, .int .i64 1, .int .i64 0, .int .i64 9, .int .i64 0, .int .i64 7, .int .i64 0, .int .i64 1, .int .i64 1, .int .i64 1, .int .i64 0, .int .i64 9, .int .i64 0] 47
  r3 : Box V d3 #[.int .i64 3, .int .i64 1, .int .i64 1, .int .i64 0, .int .i64 16, .int .i64 4, .int .i64 2] 49
  r4 : Box V d4 #[.int .i64 2, .slice (some ⟨d0, 0, none⟩) 4 4, .slice (some ⟨d1, 0, none⟩) 4 4, .slice (some ⟨d2, 0, none⟩) 2 2, .slice (some ⟨d3, 0, none⟩) 1 1] 28
  r5 : Box V d5 #[.int .i64 7] 3
  r6 : Box V d6 #[.int .i64 3, .slice (some ⟨d5, 0, none⟩) 1 1] 45
  r7 : Box V d7 #[.int .i64 8] 3
  r8 : Box V d8 #[.slice (some ⟨d6, 0, none⟩) 1 1, .slice (some ⟨d7, 0, none⟩) 1 1] 32
  r9 : Box V d9 #[.int .i64 7, .int .i64 8] 3
  r10 : Box V d10 #[.slice none 0 0, .slice (some ⟨d9, 0, none⟩) 2 2] 32
theorem AK.below {V V' : World} {d0 d1 d2 d3 d4 d5 d6 d7 d8 d9 d10 : Nat} (h : AK V d0 d1 d2 d3 d4 d5 d6 d7 d8 d9 d10) (hb : Below V.heap.size V V') : AK V' d0 d1 d2 d3 d4 d5 d6 d7 d8 d9 d10 := ⟨h.r0.below hb, h.r1.below hb, h.r2.below hb, h.r3.below hb, h.r4.below hb, h.r5.below hb, h.r6.below hb, h.r7.below hb, h.r8.below hb, h.r9.below hb, h.r10.below hb⟩
theorem AK.wx {V : World} {d0 d1 d2 d3 d4 d5 d6 d7 d8 d9 d10 : Nat} (h : AK V d0 d1 d2 d3 d4 d5 d6 d7 d8 d9 d10) : WX V d4 (akW d0 d1 d2 d3) :=
  ⟨h.r4, ⟨⟨rfl, rfl, by show (4 : Nat) ≤ 400; omega, by show (4 : Nat) ≤ 400; omega, box_ints h.r0 rfl, box_ints h.r1 rfl⟩, by show (2 : Int) ≤ 9223372036854775807; omega, rfl, by show (2 : Nat) ≤ 1000; omega, rfl, by show (1 : Nat) ≤ 1000; omega, box_ints h.r2 rfl, box_ints h.r3 rfl⟩⟩
theorem AK.px {V : World} {d0 d1 d2 d3 d4 d5 d6 d7 d8 d9 d10 : Nat} (h : AK V d0 d1 d2 d3 d4 d5 d6 d7 d8 d9 d10) : PX V d8 (akP d5 d6 d7) := by
  refine ⟨h.r8, rfl, by show (1 : Nat) ≤ 1000; omega, ?_, ?_, by show (1 : Nat) ≤ 10000; omega, rfl, by show (1 : Nat) ≤ 1000; omega, box_ints h.r7 rfl⟩
  · refine RowsR.of fun j u hu => ?_
    rw [add_flat, Nat.zero_add]
    match j, hu with
    | 0, hu => rw [h.r6.cell 0 _ rfl]; exact hu
    | 1, hu => rw [h.r6.cell 1 _ rfl]; exact hu
    | j + 2, hu => simp [rCells, akP] at hu
  · intro r hr
    obtain rfl : r = akR d5 := by simpa [akP] using hr
    exact ⟨rfl, by show (1 : Nat) ≤ 1000; omega, box_ints h.r5 rfl⟩
theorem AK.nx {V : World} {d0 d1 d2 d3 d4 d5 d6 d7 d8 d9 d10 : Nat} (h : AK V d0 d1 d2 d3 d4 d5 d6 d7 d8 d9 d10) : PX V d10 (akNo d9) :=
  ⟨h.r10, rfl, by show (0 : Nat) ≤ 1000; omega, RowsR.nil _ _, (fun r hr => by cases hr), by show (0 : Nat) ≤ 10000; omega, rfl, by show (2 : Nat) ≤ 1000; omega, box_ints h.r9 rfl⟩
theorem akE_at (V : World) : PAt V akE := ⟨rfl, by show (0 : Nat) ≤ 1000; omega, RowsR.nil _ _, (fun r hr => by cases hr), by show (0 : Nat) ≤ 10000; omega, rfl, by show (0 : Nat) ≤ 1000; omega, IntsAt.nil _ _⟩
theorem AK.new (w : World) : AK (((((((((((w.alloc (.cells #[.int .i64 0, .int .i64 5, .int .i64 5, .int .i64 0] 2)).alloc (.cells #[.int .i64 0, .int .i64 5, .int .i64 5, .int .i64 0] 2)).alloc (.cells #[.int .i64 8, .int .i64 0, .int .i64 1, .int .i64 1, .int .i64 1, .int .i64 0, .int .i64 9, .int .i64 0, .int .i64 7, .int .i64 0, .int .i64 1, .int .i64 1, .int .i64 1, .int .i64 0, .int .i64 9, .int .i64 0] 47)).alloc (.cells #[.int .i64 3, .int .i64 1, .int .i64 1, .int .i64 0, .int .i64 16, .int .i64 4, .int .i64 2] 49)).alloc (.cells #[.int .i64 2, .slice (some ⟨w.heap.size, 0, none⟩) 4 4, .slice (some ⟨w.heap.size + 1, 0, none⟩) 4 4, .slice (some ⟨w.heap.size + 1 + 1, 0, none⟩) 2 2, .slice (some ⟨w.heap.size + 1 + 1 + 1, 0, none⟩) 1 1] 28)).alloc (.cells #[.int .i64 7] 3)).alloc (.cells #[.int .i64 3, .slice (some ⟨w.heap.size + 1 + 1 + 1 + 1 + 1, 0, none⟩) 1 1] 45)).alloc (.cells #[.int .i64 8] 3)).alloc (.cells #[.slice (some ⟨w.heap.size + 1 + 1 + 1 + 1 + 1 + 1, 0, none⟩) 1 1, .slice (some ⟨w.heap.size + 1 + 1 + 1 + 1 + 1 + 1 + 1, 0, none⟩) 1 1] 32)).alloc (.cells #[.int .i64 7, .int .i64 8] 3)).alloc (.cells #[.slice none 0 0, .slice (some ⟨w.heap.size + 1 + 1 + 1 + 1 + 1 + 1 + 1 + 1 + 1, 0, none⟩) 2 2] 32)) (w.heap.size) (w.heap.size + 1) (w.heap.size + 1 + 1) (w.heap.size + 1 + 1 + 1) (w.heap.size + 1 + 1 + 1 + 1) (w.heap.size + 1 + 1 + 1 + 1 + 1) (w.heap.size + 1 + 1 + 1 + 1 + 1 + 1) (w.heap.size + 1 + 1 + 1 + 1 + 1 + 1 + 1) (w.heap.size + 1 + 1 + 1 + 1 + 1 + 1 + 1 + 1) (w.heap.size + 1 + 1 + 1 + 1 + 1 + 1 + 1 + 1 + 1) (w.heap.size + 1 + 1 + 1 + 1 + 1 + 1 + 1 + 1 + 1 + 1) :=
  ⟨((((((((((box_new_at _ _ _ _ (by simp)).below (below_alloc _ _)).below (below_alloc _ _)).below (below_alloc _ _)).below (below_alloc _ _)).below (below_alloc _ _)).below (below_alloc _ _)).below (below_alloc _ _)).below (below_alloc _ _)).below (below_alloc _ _)).below (below_alloc _ _),
    (((((((((box_new_at _ _ _ _ (by simp)).below (below_alloc _ _)).below (below_alloc _ _)).below (below_alloc _ _)).below (below_alloc _ _)).below (below_alloc _ _)).below (below_alloc _ _)).below (below_alloc _ _)).below (below_alloc _ _)).below (below_alloc _ _),
    ((((((((box_new_at _ _ _ _ (by simp)).below (below_alloc _ _)).below (below_alloc _ _)).below (below_alloc _ _)).below (below_alloc _ _)).below (below_alloc _ _)).below (below_alloc _ _)).below (below_alloc _ _)).below (below_alloc _ _),
    (((((((box_new_at _ _ _ _ (by simp)).below (below_alloc _ _)).below (below_alloc _ _)).below (below_alloc _ _)).below (below_alloc _ _)).below (below_alloc _ _)).below (below_alloc _ _)).below (below_alloc _ _),
    ((((((box_new_at _ _ _ _ (by simp)).below (below_alloc _ _)).below (below_alloc _ _)).below (below_alloc _ _)).below (below_alloc _ _)).below (below_alloc _ _)).below (below_alloc _ _),
    (((((box_new_at _ _ _ _ (by simp)).below (below_alloc _ _)).below (below_alloc _ _)).below (below_alloc _ _)).below (below_alloc _ _)).below (below_alloc _ _),
    ((((box_new_at _ _ _ _ (by simp)).below (below_alloc _ _)).below (below_alloc _ _)).below (below_alloc _ _)).below (below_alloc _ _),
    (((box_new_at _ _ _ _ (by simp)).below (below_alloc _ _)).below (below_alloc _ _)).below (below_alloc _ _),
    ((box_new_at _ _ _ _ (by simp)).below (below_alloc _ _)).below (below_alloc _ _),
    (box_new_at _ _ _ _ (by simp)).below (below_alloc _ _),
    box_new_at _ _ _ _ (by simp)⟩

set_option maxHeartbeats 8000000 in
theorem awake_any (w : World) : Calls Tryz.prog 4 #[] w fun e w' => e = .returned (.bool true) ∧ Below w.heap.size w w' := by
  have HV0 := Lib.hid (AK.new w)
  have HB00 : Hid (Below w.heap.size w (((((((((((w.alloc (.cells #[.int .i64 0, .int .i64 5, .int .i64 5, .int .i64 0] 2)).alloc (.cells #[.int .i64 0, .int .i64 5, .int .i64 5, .int .i64 0] 2)).alloc (.cells #[.int .i64 8, .int .i64 0, .int .i64 1, .int .i64 1, .int .i64 1, .int .i64 0, .int .i64 9, .int .i64 0, .int .i64 7, .int .i64 0, .int .i64 1, .int .i64 1, .int .i64 1, .int .i64 0, .int .i64 9, .int .i64 0] 47)).alloc (.cells #[.int .i64 3, .int .i64 1, .int .i64 1, .int .i64 0, .int .i64 16, .int .i64 4, .int .i64 2] 49)).alloc (.cells #[.int .i64 2, .slice (some ⟨w.heap.size, 0, none⟩) 4 4, .slice (some ⟨w.heap.size + 1, 0, none⟩) 4 4, .slice (some ⟨w.heap.size + 1 + 1, 0, none⟩) 2 2, .slice (some ⟨w.heap.size + 1 + 1 + 1, 0, none⟩) 1 1] 28)).alloc (.cells #[.int .i64 7] 3)).alloc (.cells #[.int .i64 3, .slice (some ⟨w.heap.size + 1 + 1 + 1 + 1 + 1, 0, none⟩) 1 1] 45)).alloc (.cells #[.int .i64 8] 3)).alloc (.cells #[.slice (some ⟨w.heap.size + 1 + 1 + 1 + 1 + 1 + 1, 0, none⟩) 1 1, .slice (some ⟨w.heap.size + 1 + 1 + 1 + 1 + 1 + 1 + 1, 0, none⟩) 1 1] 32)).alloc (.cells #[.int .i64 7, .int .i64 8] 3)).alloc (.cells #[.slice none 0 0, .slice (some ⟨w.heap.size + 1 + 1 + 1 + 1 + 1 + 1 + 1 + 1 + 1, 0, none⟩) 2 2] 32))) := below_more (below_more (below_more (below_more (below_more (below_more (below_more (below_more (below_more (below_more (below_alloc _ _) _) _) _) _) _) _) _) _) _) _
  go_enter Tryz.func4, Tryz.ntmps4
  have c0 := HV0.out.wx.c0
  have c1 := HV0.out.wx.c1
  have c2 := HV0.out.wx.c2
  have c3 := HV0.out.wx.c3
  have c4 := HV0.out.wx.c4
  have p0 := HV0.out.px.c0
  have p1 := HV0.out.px.c1
  go_wp2_with fail
  clear c0 c1 c2 c3 c4 p0 p1
  generalize (((((((((((w.alloc (.cells #[.int .i64 0, .int .i64 5, .int .i64 5, .int .i64 0] 2)).alloc (.cells #[.int .i64 0, .int .i64 5, .int .i64 5, .int .i64 0] 2)).alloc (.cells #[.int .i64 8, .int .i64 0, .int .i64 1, .int .i64 1, .int .i64 1, .int .i64 0, .int .i64 9, .int .i64 0, .int .i64 7, .int .i64 0, .int .i64 1, .int .i64 1, .int .i64 1, .int .i64 0, .int .i64 9, .int .i64 0] 47)).alloc (.cells #[.int .i64 3, .int .i64 1, .int .i64 1, .int .i64 0, .int .i64 16, .int .i64 4, .int .i64 2] 49)).alloc (.cells #[.int .i64 2, .slice (some ⟨w.heap.size, 0, none⟩) 4 4, .slice (some ⟨w.heap.size + 1, 0, none⟩) 4 4, .slice (some ⟨w.heap.size + 1 + 1, 0, none⟩) 2 2, .slice (some ⟨w.heap.size + 1 + 1 + 1, 0, none⟩) 1 1] 28)).alloc (.cells #[.int .i64 7] 3)).alloc (.cells #[.int .i64 3, .slice (some ⟨w.heap.size + 1 + 1 + 1 + 1 + 1, 0, none⟩) 1 1] 45)).alloc (.cells #[.int .i64 8] 3)).alloc (.cells #[.slice (some ⟨w.heap.size + 1 + 1 + 1 + 1 + 1 + 1, 0, none⟩) 1 1, .slice (some ⟨w.heap.size + 1 + 1 + 1 + 1 + 1 + 1 + 1, 0, none⟩) 1 1] 32)).alloc (.cells #[.int .i64 7, .int .i64 8] 3)).alloc (.cells #[.slice none 0 0, .slice (some ⟨w.heap.size + 1 + 1 + 1 + 1 + 1 + 1 + 1 + 1 + 1, 0, none⟩) 2 2] 32)) = V at *
  generalize w.heap.size + 1 + 1 + 1 + 1 + 1 + 1 + 1 + 1 + 1 + 1 = d10 at *
  generalize w.heap.size + 1 + 1 + 1 + 1 + 1 + 1 + 1 + 1 + 1 = d9 at *
  generalize w.heap.size + 1 + 1 + 1 + 1 + 1 + 1 + 1 + 1 = d8 at *
  generalize w.heap.size + 1 + 1 + 1 + 1 + 1 + 1 + 1 = d7 at *
  generalize w.heap.size + 1 + 1 + 1 + 1 + 1 + 1 = d6 at *
  generalize w.heap.size + 1 + 1 + 1 + 1 + 1 = d5 at *
  generalize w.heap.size + 1 + 1 + 1 + 1 = d4 at *
  generalize w.heap.size + 1 + 1 + 1 = d3 at *
  generalize w.heap.size + 1 + 1 = d2 at *
  generalize w.heap.size + 1 = d1 at *
  generalize hd0 : w.heap.size = d0 at HV0 ⊢
  clear hd0
  have HBV := Lib.hid HB00.out
  clear HB00
  refine (check_b (akW d0 d1 d2 d3) (akP d5 d6 d7) V (24, 0) ak_p HV0.out.wx.at_ HV0.out.px.at_).mono ?_
  rintro e w1 ⟨rfl, h1⟩
  have HK1 := Lib.hid (HV0.out.below h1.out)
  have HB1 := Lib.hid (below_next HBV.out h1.out)
  clear HV0 HBV
  have c0 := HK1.out.wx.c0
  have c1 := HK1.out.wx.c1
  have c2 := HK1.out.wx.c2
  have c3 := HK1.out.wx.c3
  have c4 := HK1.out.wx.c4
  have n0 := HK1.out.nx.c0
  have n1 := HK1.out.nx.c1
  go_wp2_with fail
  clear c0 c1 c2 c3 c4 n0 n1
  refine (check_b (akW d0 d1 d2 d3) (akNo d9) w1 (0, 0) ak_n HK1.out.wx.at_ HK1.out.nx.at_).mono ?_
  rintro e w2 ⟨rfl, h2⟩
  have HK2 := Lib.hid (HK1.out.below h2.out)
  have HB2 := Lib.hid (below_next HB1.out h2.out)
  clear HK1 HB1
  have c0 := HK2.out.wx.c0
  have c1 := HK2.out.wx.c1
  have c2 := HK2.out.wx.c2
  have c3 := HK2.out.wx.c3
  have c4 := HK2.out.wx.c4
  go_wp2_with fail
  clear c0 c1 c2 c3 c4
  refine (check_b (akW d0 d1 d2 d3) akE w2 (0, 2) ak_e HK2.out.wx.at_ (akE_at w2)).mono ?_
  rintro e w3 ⟨rfl, h3⟩
  have HK3 := Lib.hid (HK2.out.below h3.out)
  have HB3 := Lib.hid (below_next HB2.out h3.out)
  clear HK2 HB2
  have p0 := HK3.out.px.c0
  have p1 := HK3.out.px.c1
  go_wp2_with fail
  clear p0 p1
  refine (copy_b (akP d5 d6 d7) w3 HK3.out.px.at_).mono ?_
  rintro e w4 ⟨q, rfl, h4⟩
  have HK4 := Lib.hid (HK3.out.below h4.out.bel)
  have HB4 := Lib.hid (below_next HB3.out h4.out.bel)
  clear HK3 HB3
  have HQ4 := Lib.hid (PX.new h4.out.at_)
  have HQR : Hid (ros (akP d5 d6 d7).rs = ros q.rs) := h4.out.ro.symm
  have HQU : Hid ((akP d5 d6 d7).us = q.us) := h4.out.us.symm
  have HK5 := Lib.hid (HK4.out.below (below_alloc w4 (.cells #[.slice q.rA q.rm q.rc, .slice q.uA q.um q.uc] 32)))
  have HB5 := Lib.hid (below_more HB4.out (.cells #[.slice q.rA q.rm q.rc, .slice q.uA q.um q.uc] 32))
  clear HK4 HB4 h4
  have c0 := HK5.out.wx.c0
  have c1 := HK5.out.wx.c1
  have c2 := HK5.out.wx.c2
  have c3 := HK5.out.wx.c3
  have c4 := HK5.out.wx.c4
  have p0 := HK5.out.px.c0
  have p1 := HK5.out.px.c1
  have n0 := HK5.out.nx.c0
  have n1 := HK5.out.nx.c1
  go_wp2_with fail
  clear c0 c1 c2 c3 c4 p0 p1 n0 n1
  generalize w4.alloc (.cells #[.slice q.rA q.rm q.rc, .slice q.uA q.um q.uc] 32) = w5 at *
  generalize w4.heap.size = dq at *
  refine (less_b (akW d0 d1 d2 d3) (akP d5 d6 d7) (akNo d9) w5 true (by kernel_rfl) HK5.out.wx.at_ HK5.out.px.at_ HK5.out.nx.at_).mono ?_
  rintro e w6 ⟨rfl, h6⟩
  have HK6 := Lib.hid (HK5.out.below h6.out)
  have HB6 := Lib.hid (below_next HB5.out h6.out)
  clear HK5 HB5
  have HQ6 := Lib.hid (HQ4.out.below h6.out)
  have c0 := HK6.out.wx.c0
  have c1 := HK6.out.wx.c1
  have c2 := HK6.out.wx.c2
  have c3 := HK6.out.wx.c3
  have c4 := HK6.out.wx.c4
  have p0 := HK6.out.px.c0
  have p1 := HK6.out.px.c1
  have n0 := HK6.out.nx.c0
  have n1 := HK6.out.nx.c1
  go_wp2_with fail
  clear c0 c1 c2 c3 c4 p0 p1 n0 n1
  refine (less_b (akW d0 d1 d2 d3) (akNo d9) (akP d5 d6 d7) w6 false (by kernel_rfl) HK6.out.wx.at_ HK6.out.nx.at_ HK6.out.px.at_).mono ?_
  rintro e w7 ⟨rfl, h7⟩
  have HK7 := Lib.hid (HK6.out.below h7.out)
  have HB7 := Lib.hid (below_next HB6.out h7.out)
  clear HK6 HB6
  have HQ7 := Lib.hid (HQ6.out.below h7.out)
  have p0 := HK7.out.px.c0
  have p1 := HK7.out.px.c1
  go_wp2_with fail
  clear p0 p1
  refine (served_b (akP d5 d6 d7) w7 HK7.out.px.at_).mono ?_
  rintro e w8 h8
  obtain ⟨A8, c8, rfl, hc8, h8⟩ := newi_n (n := 1) h8 rfl
  have HK8 := Lib.hid (HK7.out.below h8.out.1)
  have HB8 := Lib.hid (below_next HB7.out h8.out.1)
  clear HK7 HB7
  have HQ8 := Lib.hid (HQ7.out.below h8.out.1)
  have HI8 : Hid (IntsAt w8 A8 [7]) := h8.out.2
  clear h8 hc8
  have HK9 := Lib.hid (HK8.out.below (below_alloc w8 (.cells #[.int .i64 7] 3)))
  have HB9 := Lib.hid (below_more HB8.out (.cells #[.int .i64 7] 3))
  have HQ9 := Lib.hid (HQ8.out.below (below_alloc w8 (.cells #[.int .i64 7] 3)))
  go_wp2_with fail
  refine (psame_b A8 (some ⟨w8.heap.size, 0, none⟩) 1 c8 1 1 [7] [7] (w8.alloc (.cells #[.int .i64 7] 3)) true rfl rfl rfl (by omega) (by omega) (HI8.out.below (below_alloc _ _)) (one_int w8 7)).mono ?_
  rintro e w10 ⟨rfl, q10, rfl⟩
  have HK10 := Lib.hid (HK9.out.below (drewN_below _ q10))
  have HB10 := Lib.hid (below_next HB9.out (drewN_below _ q10))
  have HQ10 := Lib.hid (HQ9.out.below (drewN_below _ q10))
  clear HK8 HB8 HQ8 HK9 HB9 HQ9 HI8
  generalize (w8.alloc (.cells #[.int .i64 7] 3)).drewN q10 = w10 at *
  have c0 := HK10.out.wx.c0
  have c1 := HK10.out.wx.c1
  have c2 := HK10.out.wx.c2
  have c3 := HK10.out.wx.c3
  have c4 := HK10.out.wx.c4
  have n0 := HK10.out.nx.c0
  have n1 := HK10.out.nx.c1
  go_wp2_with fail
  clear c0 c1 c2 c3 c4 n0 n1
  refine (rest_b (akW d0 d1 d2 d3) (akNo d9) w10 HK10.out.wx.at_ HK10.out.nx.at_).mono ?_
  rintro e w11 h11
  obtain ⟨A11, c11, rfl, hc11, h11⟩ := newi_n (n := 2) h11 rfl
  have HK11 := Lib.hid (HK10.out.below h11.out.1)
  have HB11 := Lib.hid (below_next HB10.out h11.out.1)
  clear HK10 HB10
  have HQ11 := Lib.hid (HQ10.out.below h11.out.1)
  have HI11 : Hid (IntsAt w11 A11 [7, 8]) := h11.out.2
  clear h11 hc11
  have HK12 := Lib.hid (HK11.out.below (below_alloc w11 (.cells #[.int .i64 7, .int .i64 8] 3)))
  have HB12 := Lib.hid (below_more HB11.out (.cells #[.int .i64 7, .int .i64 8] 3))
  have HQ12 := Lib.hid (HQ11.out.below (below_alloc w11 (.cells #[.int .i64 7, .int .i64 8] 3)))
  go_wp2_with fail
  refine (psame_b A11 (some ⟨w11.heap.size, 0, none⟩) 2 c11 2 2 [7, 8] [7, 8] (w11.alloc (.cells #[.int .i64 7, .int .i64 8] 3)) true rfl rfl rfl (by omega) (by omega) (HI11.out.below (below_alloc _ _)) (box_ints (Box.new _ _ _) rfl)).mono ?_
  rintro e w13 ⟨rfl, q13, rfl⟩
  have HK13 := Lib.hid (HK12.out.below (drewN_below _ q13))
  have HB13 := Lib.hid (below_next HB12.out (drewN_below _ q13))
  have HQ13 := Lib.hid (HQ12.out.below (drewN_below _ q13))
  clear HK11 HB11 HQ11 HK12 HB12 HQ12 HI11
  generalize (w11.alloc (.cells #[.int .i64 7, .int .i64 8] 3)).drewN q13 = w13 at *
  have p0 := HK13.out.px.c0
  have p1 := HK13.out.px.c1
  have q0 := HQ13.out.c0
  have q1 := HQ13.out.c1
  go_wp2_with fail
  clear p0 p1 q0 q1
  refine (pequal_b (akP d5 d6 d7) q w13 HK13.out.px.at_ HQ13.out.at_ HQR.out HQU.out).mono ?_
  rintro e w14 ⟨rfl, h14⟩
  go_wp2
  go_ret
  exact ⟨rfl, below_next HB13.out h14.out⟩
end Go.Proofs.YtmidkjlikhngmaaGreat
