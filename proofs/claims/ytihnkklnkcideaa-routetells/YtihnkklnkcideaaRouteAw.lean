/- The law's own wake-up call over package route returns true. -/
import Derived.Test.YtihnkklnkcideaaRouteE
namespace Go.Proofs.Ytihnkklnkcideaa
open Go.RowKit
set_option linter.unusedVariables false
set_option maxRecDepth 100000

def akO : Ld.O := ⟨7, 0, 1, 1, 1, 9, 9, 2⟩
def akT (e : Int) : Ld.T := ⟨3, 1, 1, 0, e, 4, 2⟩
def akD : List Int := [0, 5, 5, 0]
def akW (d0 d1 d2 d3 : Nat) (e : Int) : Wd := ⟨2, some ⟨d0, 0, none⟩, 4, 4, akD, some ⟨d1, 0, none⟩, 4, 4, akD, some ⟨d2, 0, none⟩, 1, 1, [akO], some ⟨d3, 0, none⟩, 1, 1, [akT e]⟩
def akN : Wd := ⟨0, none, 0, 0, [], none, 0, 0, [], none, 0, 0, [], none, 0, 0, []⟩
theorem ak_run : Rt.runS 2 akD akD [akO] [akT 16] 3 [7] = ⟨[⟨7, 5, 9, 11⟩], 16, 10, 24, 0⟩ := by kernel_rfl
theorem ak_name : Rt.runS 2 akD akD [akO] [akT 16] 4 [7] = ⟨[], 0, 0, 0, 5⟩ := by kernel_rfl
theorem ak_form : Rt.runS 2 akD akD [akO] [akT 16] 3 [] = ⟨[], 0, 0, 0, 2⟩ := by kernel_rfl
theorem ak_twice : Rt.runS 2 akD akD [akO] [akT 16] 3 [7, 7] = ⟨[], 0, 0, 0, 6⟩ := by kernel_rfl
theorem ak_late : Rt.runS 2 akD akD [akO] [akT 15] 3 [7] = ⟨[], 0, 0, 0, 10⟩ := by kernel_rfl
theorem ak_w : Rt.worldE 2 akD akD [akO] [akT 15] = 0 := by decide
theorem ak_w0 : Rt.worldE 0 [] [] [] [] = 1 := by decide
theorem ak_t3 : Ld.findI ([akT 15].map Ld.T.id) 3 = 0 := by decide
theorem ak_t4 : Ld.findI ([akT 15].map Ld.T.id) 4 = -1 := by decide

theorem akN_at (w : World) : WAt w akN := ⟨⟨rfl, rfl, by decide, by decide, IntsAt.nil _ _, IntsAt.nil _ _⟩, by decide, rfl, by decide, rfl, by decide, IntsAt.nil _ _, IntsAt.nil _ _⟩
/-- the world that is made, in its rows and its box -/
structure AK (V : World) (d0 d1 d2 d3 d4 : Nat) (e : Int) : Prop where
  r0 : Box V d0 #[.int .i64 0, .int .i64 5, .int .i64 5, .int .i64 0] 2
  r1 : Box V d1 #[.int .i64 0, .int .i64 5, .int .i64 5, .int .i64 0] 2
  r2 : Box V d2 #[.int .i64 7, .int .i64 0, .int .i64 1, .int .i64 1, .int .i64 1, .int .i64 9, .int .i64 9, .int .i64 2] 56
  r3 : Box V d3 #[.int .i64 3, .int .i64 1, .int .i64 1, .int .i64 0, .int .i64 e, .int .i64 4, .int .i64 2] 51
  b : Box V d4 (akW d0 d1 d2 d3 e).cells 28
theorem AK.below {V V' : World} {d0 d1 d2 d3 d4 : Nat} {e : Int} (h : AK V d0 d1 d2 d3 d4 e) (hb : Below V.heap.size V V') : AK V' d0 d1 d2 d3 d4 e := ⟨h.r0.below hb, h.r1.below hb, h.r2.below hb, h.r3.below hb, h.b.below hb⟩
theorem AK.at_ {V : World} {d0 d1 d2 d3 d4 : Nat} {e : Int} (h : AK V d0 d1 d2 d3 d4 e) : WAt V (akW d0 d1 d2 d3 e) :=
  ⟨⟨rfl, rfl, by show (4 : Nat) ≤ 400; omega, by show (4 : Nat) ≤ 400; omega, box_ints h.r0 rfl, box_ints h.r1 rfl⟩, by show (2 : Int) ≤ 9223372036854775807; omega, rfl, by show (1 : Nat) ≤ 1000; omega, rfl, by show (1 : Nat) ≤ 1000; omega, box_ints h.r2 rfl, box_ints h.r3 rfl⟩
theorem AK.wx {V : World} {d0 d1 d2 d3 d4 : Nat} {e : Int} (h : AK V d0 d1 d2 d3 d4 e) : WX V d4 (akW d0 d1 d2 d3 e) := ⟨h.b, h.at_⟩
theorem addr_add0 (x : Addr) : x.add 0 = x := by unfold Addr.add; simp
theorem box_new_at (W : World) (b : Nat) (cs : Array Value) (t : TypeId) (hb : b = W.heap.size) : Box (W.alloc (.cells cs t)) b cs t := by
  subst hb
  exact Box.new _ _ _
theorem AK.new (w : World) : AK (((((w.alloc (.cells #[.int .i64 0, .int .i64 5, .int .i64 5, .int .i64 0] 2)).alloc (.cells #[.int .i64 0, .int .i64 5, .int .i64 5, .int .i64 0] 2)).alloc (.cells #[.int .i64 7, .int .i64 0, .int .i64 1, .int .i64 1, .int .i64 1, .int .i64 9, .int .i64 9, .int .i64 2] 56)).alloc (.cells #[.int .i64 3, .int .i64 1, .int .i64 1, .int .i64 0, .int .i64 16, .int .i64 4, .int .i64 2] 51)).alloc (.cells #[.int .i64 2, .slice (some ⟨w.heap.size, 0, none⟩) 4 4, .slice (some ⟨w.heap.size + 1, 0, none⟩) 4 4, .slice (some ⟨w.heap.size + 1 + 1, 0, none⟩) 1 1, .slice (some ⟨w.heap.size + 1 + 1 + 1, 0, none⟩) 1 1] 28)) w.heap.size (w.heap.size + 1) (w.heap.size + 1 + 1) (w.heap.size + 1 + 1 + 1) (w.heap.size + 1 + 1 + 1 + 1) 16 := by
  exact ⟨((((box_new_at _ _ _ _ (by simp)).below (below_alloc _ _)).below (below_alloc _ _)).below (below_alloc _ _)).below (below_alloc _ _),
    (((box_new_at _ _ _ _ (by simp)).below (below_alloc _ _)).below (below_alloc _ _)).below (below_alloc _ _),
    ((box_new_at _ _ _ _ (by simp)).below (below_alloc _ _)).below (below_alloc _ _),
    (box_new_at _ _ _ _ (by simp)).below (below_alloc _ _),
    box_new_at _ _ _ _ (by simp)⟩

def akR (b : Nat) (t : Int) : Rd := ⟨t, some ⟨b, 0, none⟩, 1, 1, [7]⟩
theorem akR_at (W : World) (b : Nat) (t : Int) (hb : b = W.heap.size) : RAt (W.alloc (.cells #[.int .i64 7] 3)) (akR b t) := ⟨rfl, by show (1 : Nat) ≤ 1000; omega, box_ints (box_new_at W b _ _ hb) rfl⟩
def akR2 (b : Nat) : Rd := ⟨3, some ⟨b, 0, none⟩, 2, 2, [7, 7]⟩
theorem akR2_at (W : World) (b : Nat) (hb : b = W.heap.size) : RAt (W.alloc (.cells #[.int .i64 7, .int .i64 7] 3)) (akR2 b) := ⟨rfl, by show (2 : Nat) ≤ 1000; omega, box_ints (box_new_at W b _ _ hb) rfl⟩
theorem akR0_at (w : World) : RAt w ⟨3, none, 0, 0, []⟩ := ⟨rfl, by show (0 : Nat) ≤ 1000; omega, IntsAt.nil _ _⟩
theorem AK.set {V : World} {d0 d1 d2 d3 d4 : Nat} {e : Int} (h : AK V d0 d1 d2 d3 d4 e) (h0 : d0 ≠ d3) (h1 : d1 ≠ d3) (h2 : d2 ≠ d3) (h4 : d4 ≠ d3) (z : Int) : AK (V.setCell ⟨d3, 4, none⟩ (.int .i64 z)) d0 d1 d2 d3 d4 z :=
  ⟨(Go.Deep.blk_setCell_other _ _ _ _ h0).trans h.r0, (Go.Deep.blk_setCell_other _ _ _ _ h1).trans h.r1, (Go.Deep.blk_setCell_other _ _ _ _ h2).trans h.r2, h.r3.set 4 _ _ rfl, (Go.Deep.blk_setCell_other _ _ _ _ h4).trans h.b⟩
/-- the trip that was told first -/
structure AT (W : World) (q : Nat) (A : Option Addr) (c : Nat) : Prop where
  b : Box W q #[.slice A 1 c, .int .i64 16, .int .i64 10, .int .i64 24] 36
  v : VisAt W A [⟨7, 5, 9, 11⟩]
theorem AT.below {W W' : World} {q : Nat} {A : Option Addr} {c : Nat} (h : AT W q A c) (hb : Below W.heap.size W W') : AT W' q A c := ⟨h.b.below hb, h.v.below hb⟩
theorem AT.set {W : World} {q d : Nat} {A : Option Addr} {c : Nat} (h : AT W q A c) (hq : q ≠ d) (hA : ∀ ad, A = some ad → ad.block ≠ d) (k : Nat) (v : Value) : AT (W.setCell ⟨d, k, none⟩ v) q A c :=
  ⟨(Go.Deep.blk_setCell_other _ _ _ _ hq).trans h.b, IntsAt.blocks h.v fun ad e => Go.Deep.blk_setCell_other _ _ _ _ (hA ad e)⟩

set_option maxHeartbeats 4000000 in
theorem awake_any (w : World) : Calls Try.prog 7 #[] w fun e w' => e = .returned (.bool true) ∧ Below w.heap.size w w' := by
  have HV0 := Lib.hid (AK.new w)
  have HB0 : Hid (Below w.heap.size w (((((w.alloc (.cells #[.int .i64 0, .int .i64 5, .int .i64 5, .int .i64 0] 2)).alloc (.cells #[.int .i64 0, .int .i64 5, .int .i64 5, .int .i64 0] 2)).alloc (.cells #[.int .i64 7, .int .i64 0, .int .i64 1, .int .i64 1, .int .i64 1, .int .i64 9, .int .i64 9, .int .i64 2] 56)).alloc (.cells #[.int .i64 3, .int .i64 1, .int .i64 1, .int .i64 0, .int .i64 16, .int .i64 4, .int .i64 2] 51)).alloc (.cells #[.int .i64 2, .slice (some ⟨w.heap.size, 0, none⟩) 4 4, .slice (some ⟨w.heap.size + 1, 0, none⟩) 4 4, .slice (some ⟨w.heap.size + 1 + 1, 0, none⟩) 1 1, .slice (some ⟨w.heap.size + 1 + 1 + 1, 0, none⟩) 1 1] 28))) := below_more (below_more (below_more (below_more (below_alloc _ _) _) _) _) _
  have HS : Hid (w.heap.size ≤ w.heap.size + 1 + 1 + 1) := by unfold Hid; omega
  go_enter Try.func7, Try.ntmps7
  have HSZ : Hid (w.heap.size + 1 + 1 + 1 + 1 + 1 = (((((w.alloc (.cells #[.int .i64 0, .int .i64 5, .int .i64 5, .int .i64 0] 2)).alloc (.cells #[.int .i64 0, .int .i64 5, .int .i64 5, .int .i64 0] 2)).alloc (.cells #[.int .i64 7, .int .i64 0, .int .i64 1, .int .i64 1, .int .i64 1, .int .i64 9, .int .i64 9, .int .i64 2] 56)).alloc (.cells #[.int .i64 3, .int .i64 1, .int .i64 1, .int .i64 0, .int .i64 16, .int .i64 4, .int .i64 2] 51)).alloc (.cells #[.int .i64 2, .slice (some ⟨w.heap.size, 0, none⟩) 4 4, .slice (some ⟨w.heap.size + 1, 0, none⟩) 4 4, .slice (some ⟨w.heap.size + 1 + 1, 0, none⟩) 1 1, .slice (some ⟨w.heap.size + 1 + 1 + 1, 0, none⟩) 1 1] 28)).heap.size) := by unfold Hid; simp
  have HNE : Hid (w.heap.size ≠ w.heap.size + 1 + 1 + 1 ∧ w.heap.size + 1 ≠ w.heap.size + 1 + 1 + 1 ∧ w.heap.size + 1 + 1 ≠ w.heap.size + 1 + 1 + 1 ∧ w.heap.size + 1 + 1 + 1 + 1 ≠ w.heap.size + 1 + 1 + 1) := by unfold Hid; omega
  go_wp2_with fail
  generalize (((((w.alloc (.cells #[.int .i64 0, .int .i64 5, .int .i64 5, .int .i64 0] 2)).alloc (.cells #[.int .i64 0, .int .i64 5, .int .i64 5, .int .i64 0] 2)).alloc (.cells #[.int .i64 7, .int .i64 0, .int .i64 1, .int .i64 1, .int .i64 1, .int .i64 9, .int .i64 9, .int .i64 2] 56)).alloc (.cells #[.int .i64 3, .int .i64 1, .int .i64 1, .int .i64 0, .int .i64 16, .int .i64 4, .int .i64 2] 51)).alloc (.cells #[.int .i64 2, .slice (some ⟨w.heap.size, 0, none⟩) 4 4, .slice (some ⟨w.heap.size + 1, 0, none⟩) 4 4, .slice (some ⟨w.heap.size + 1 + 1, 0, none⟩) 1 1, .slice (some ⟨w.heap.size + 1 + 1 + 1, 0, none⟩) 1 1] 28)) = V at *
  generalize w.heap.size + 1 + 1 + 1 + 1 + 1 = d5 at *
  generalize w.heap.size + 1 + 1 + 1 + 1 = d4 at *
  generalize w.heap.size + 1 + 1 + 1 = d3 at *
  generalize w.heap.size + 1 + 1 = d2 at *
  generalize w.heap.size + 1 = d1 at *
  generalize hd0 : w.heap.size = d0 at HV0 HNE ⊢
  clear hd0
  have HBV := Lib.hid (below_alloc V (.cells #[.int .i64 7] 3))
  refine (run_b (akW d0 d1 d2 d3 16) (akR d5 3) (V.alloc (.cells #[.int .i64 7] 3)) ⟨[⟨7, 5, 9, 11⟩], 16, 10, 24, 0⟩ ak_run (HV0.out.below (below_alloc _ _)).at_ (akR_at V d5 3 HSZ.out)).mono ?_
  rintro e w1 ⟨A, c, rfl, h1⟩
  have HB1 := Lib.hid (below_next HBV.out h1.out.1)
  have HA1 : Hid (∀ ad, A = some ad → ad.block ≠ d3) := fun ad e => by
    have h2 := h1.out.2.2.2 ad e
    have h3 := HBV.out.size
    have h4 := HV0.out.r3.lt
    omega
  have HQ1 : Hid (w1.heap.size ≠ d3) := by
    have h3 := HB1.out.size
    have h4 := HV0.out.r3.lt
    unfold Hid
    omega
  have HT1 : Hid (AT (w1.alloc (.cells #[.slice A 1 c, .int .i64 16, .int .i64 10, .int .i64 24] 36)) w1.heap.size A c) := ⟨Box.new _ _ _, VisAt.below h1.out.2.1 (below_alloc _ _)⟩
  have HK1 := Lib.hid ((HV0.out.below HB1.out).below (below_alloc w1 (.cells #[.slice A 1 c, .int .i64 16, .int .i64 10, .int .i64 24] 36)))
  have HBW1 := Lib.hid (below_more (below_next HB0.out HB1.out) (.cells #[.slice A 1 c, .int .i64 16, .int .i64 10, .int .i64 24] 36))
  have HLE : Hid ((1 : Nat) ≤ c) := h1.out.2.2.1
  clear h1 HB1 HBV HSZ
  have c0 := HK1.out.wx.c0
  have c1 := HK1.out.wx.c1
  have c2 := HK1.out.wx.c2
  have c3 := HK1.out.wx.c3
  have c4 := HK1.out.wx.c4
  have HSZ1 : Hid (w1.heap.size + 1 = (w1.alloc (.cells #[.slice A 1 c, .int .i64 16, .int .i64 10, .int .i64 24] 36)).heap.size) := by unfold Hid; simp
  go_wp2_with fail
  clear c0 c1 c2 c3 c4
  generalize w1.alloc (.cells #[.slice A 1 c, .int .i64 16, .int .i64 10, .int .i64 24] 36) = U1 at *
  generalize w1.heap.size + 1 = q2 at *
  generalize w1.heap.size = q1 at *
  refine (run_b (akW d0 d1 d2 d3 16) (akR q2 4) (U1.alloc (.cells #[.int .i64 7] 3)) _ ak_name (HK1.out.below (below_alloc _ _)).at_ (akR_at U1 q2 4 HSZ1.out)).mono ?_
  rintro e w2 ⟨A2, cc2, rfl, h2⟩
  have HB2 := Lib.hid (below_next (below_alloc U1 (.cells #[.int .i64 7] 3)) h2.out.1)
  have HBX2 := Lib.hid (below_more HB2.out (.cells #[.slice A2 0 cc2, .int .i64 0, .int .i64 0, .int .i64 0] 36))
  have HK2 := Lib.hid (HK1.out.below HBX2.out)
  have HT2 := Lib.hid (HT1.out.below HBX2.out)
  have HBW2 := Lib.hid (below_next HBW1.out HBX2.out)
  clear h2 HB2 HBX2 HK1 HT1 HBW1
  have c0 := HK2.out.wx.c0
  have c1 := HK2.out.wx.c1
  have c2 := HK2.out.wx.c2
  have c3 := HK2.out.wx.c3
  have c4 := HK2.out.wx.c4
  have HSZ2 : Hid (w2.heap.size + 1 = (w2.alloc (.cells #[.slice A2 0 cc2, .int .i64 0, .int .i64 0, .int .i64 0] 36)).heap.size) := by unfold Hid; simp
  go_wp2_with fail
  clear c0 c1 c2 c3 c4
  generalize w2.alloc (.cells #[.slice A2 0 cc2, .int .i64 0, .int .i64 0, .int .i64 0] 36) = U2 at *
  generalize w2.heap.size + 1 = q3 at *
  refine (run_b (akW d0 d1 d2 d3 16) ⟨3, none, 0, 0, []⟩ U2 _ ak_form HK2.out.at_ (akR0_at U2)).mono ?_
  rintro e w3 ⟨A3, cc3, rfl, h3⟩
  have HB3 := Lib.hid h3.out.1
  have HBX3 := Lib.hid (below_more HB3.out (.cells #[.slice A3 0 cc3, .int .i64 0, .int .i64 0, .int .i64 0] 36))
  have HK3 := Lib.hid (HK2.out.below HBX3.out)
  have HT3 := Lib.hid (HT2.out.below HBX3.out)
  have HBW3 := Lib.hid (below_next HBW2.out HBX3.out)
  clear h3 HB3 HBX3 HK2 HT2 HBW2
  have c0 := HK3.out.wx.c0
  have c1 := HK3.out.wx.c1
  have c2 := HK3.out.wx.c2
  have c3 := HK3.out.wx.c3
  have c4 := HK3.out.wx.c4
  have HSZ3 : Hid (w3.heap.size + 1 = (w3.alloc (.cells #[.slice A3 0 cc3, .int .i64 0, .int .i64 0, .int .i64 0] 36)).heap.size) := by unfold Hid; simp
  go_wp2_with fail
  clear c0 c1 c2 c3 c4
  generalize w3.alloc (.cells #[.slice A3 0 cc3, .int .i64 0, .int .i64 0, .int .i64 0] 36) = U3 at *
  generalize w3.heap.size + 1 = q4 at *
  refine (run_b (akW d0 d1 d2 d3 16) (akR2 q4) (U3.alloc (.cells #[.int .i64 7, .int .i64 7] 3)) _ ak_twice (HK3.out.below (below_alloc _ _)).at_ (akR2_at U3 q4 HSZ3.out)).mono ?_
  rintro e w4 ⟨A4, cc4, rfl, h4⟩
  have HB4 := Lib.hid (below_next (below_alloc U3 (.cells #[.int .i64 7, .int .i64 7] 3)) h4.out.1)
  have HBX4 := Lib.hid (below_more HB4.out (.cells #[.slice A4 0 cc4, .int .i64 0, .int .i64 0, .int .i64 0] 36))
  have HK4 := Lib.hid (HK3.out.below HBX4.out)
  have HT4 := Lib.hid (HT3.out.below HBX4.out)
  have HBW4 := Lib.hid (below_next HBW3.out HBX4.out)
  clear h4 HB4 HBX4 HK3 HT3 HBW3
  have c0 := HK4.out.wx.c0
  have c1 := HK4.out.wx.c1
  have c2 := HK4.out.wx.c2
  have c3 := HK4.out.wx.c3
  have c4 := HK4.out.wx.c4
  have HSZ4 : Hid (w4.heap.size + 1 = (w4.alloc (.cells #[.slice A4 0 cc4, .int .i64 0, .int .i64 0, .int .i64 0] 36)).heap.size) := by unfold Hid; simp
  clear c4
  have c4 : (w4.alloc (.cells #[.slice A4 0 cc4, .int .i64 0, .int .i64 0, .int .i64 0] 36)).cell? ⟨d4, 4, none⟩ = some (.slice (some ⟨d3, 0, none⟩) 1 1) := HK4.out.wx.c4
  have g4 := HK4.out.r3.fz 4
  have s4 : (w4.alloc (.cells #[.slice A4 0 cc4, .int .i64 0, .int .i64 0, .int .i64 0] 36)).cell? ⟨d3, 4, none⟩ = some (.int .i64 16) := HK4.out.r3.cell 4 _ rfl
  have HK5 := Lib.hid (HK4.out.set HNE.out.1 HNE.out.2.1 HNE.out.2.2.1 HNE.out.2.2.2 15)
  have HT5 := Lib.hid (HT4.out.set HQ1.out HA1.out 4 (.int .i64 15))
  have HBW5 := Lib.hid (HBW4.out.setCell (p := ⟨d3, 4, none⟩) HS.out (.int .i64 15))
  have y0 := HK5.out.wx.c0
  have y1 := HK5.out.wx.c1
  have y2 := HK5.out.wx.c2
  have y3 := HK5.out.wx.c3
  have y4 := HK5.out.wx.c4
  have HSZ5 : Hid (w4.heap.size + 1 = ((w4.alloc (.cells #[.slice A4 0 cc4, .int .i64 0, .int .i64 0, .int .i64 0] 36)).setCell ⟨d3, 4, none⟩ (.int .i64 15)).heap.size) := by unfold Hid; rw [Go.Deep.nblk_setCell]; simp
  go_wp2_with fail
  clear c0 c1 c2 c3 c4 y0 y1 y2 y3 y4 g4 s4 HK4 HT4 HBW4
  generalize (w4.alloc (.cells #[.slice A4 0 cc4, .int .i64 0, .int .i64 0, .int .i64 0] 36)).setCell ⟨d3, 4, none⟩ (.int .i64 15) = U5 at *
  generalize w4.heap.size + 1 = q5 at *
  refine (run_b (akW d0 d1 d2 d3 15) (akR q5 3) (U5.alloc (.cells #[.int .i64 7] 3)) _ ak_late (HK5.out.below (below_alloc _ _)).at_ (akR_at U5 q5 3 HSZ5.out)).mono ?_
  rintro e w6 ⟨A6, cc6, rfl, h6⟩
  have HB6 := Lib.hid (below_next (below_alloc U5 (.cells #[.int .i64 7] 3)) h6.out.1)
  have HBX6 := Lib.hid (below_more HB6.out (.cells #[.slice A6 0 cc6, .int .i64 0, .int .i64 0, .int .i64 0] 36))
  have HK6 := Lib.hid (HK5.out.below HBX6.out)
  have HT6 := Lib.hid (HT5.out.below HBX6.out)
  have HBW6 := Lib.hid (below_next HBW5.out HBX6.out)
  clear h6 HB6 HBX6 HK5 HT5 HBW5 HSZ5
  have c0 := HK6.out.wx.c0
  have c1 := HK6.out.wx.c1
  have c2 := HK6.out.wx.c2
  have c3 := HK6.out.wx.c3
  have c4 := HK6.out.wx.c4
  have t0 := HT6.out.b.cell 0 _ rfl
  have t1 := HT6.out.b.cell 1 _ rfl
  have t2 := HT6.out.b.cell 2 _ rfl
  have t3 := HT6.out.b.cell 3 _ rfl
  obtain ⟨ad, hA, v0, v1, v2, v3⟩ := HT6.out.v.at_ (k := 0) (v := ⟨7, 5, 9, 11⟩) rfl
  rw [Nat.zero_mul, addr_add0] at v0 v1 v2 v3
  simp only at v0 v1 v2 v3
  have HAA := Lib.hid hA
  clear hA
  obtain rfl := HAA.out
  go_wp2_with fail
  clear c0 c1 c2 c3 c4 t0 t1 t2 t3 v0 v1 v2 v3
  generalize w6.alloc (.cells #[.slice A6 0 cc6, .int .i64 0, .int .i64 0, .int .i64 0] 36) = U6 at *
  refine (rworld_b (akW d0 d1 d2 d3 15) U6 0 ak_w HK6.out.at_).mono ?_
  rintro e w7 ⟨rfl, h7⟩
  have HBW7 := Lib.hid (below_next HBW6.out h7.out)
  have HK7 := Lib.hid (HK6.out.below h7.out)
  clear h7 HBW6 HK6 HT6
  go_wp2_with fail
  refine (rworld_b akN w7 1 ak_w0 (akN_at w7)).mono ?_
  rintro e w8 ⟨rfl, h8⟩
  have HBW8 := Lib.hid (below_next HBW7.out h8.out)
  have HK8 := Lib.hid (HK7.out.below h8.out)
  clear h8 HBW7 HK7
  have c0 := HK8.out.wx.c0
  have c1 := HK8.out.wx.c1
  have c2 := HK8.out.wx.c2
  have c3 := HK8.out.wx.c3
  have c4 := HK8.out.wx.c4
  go_wp2_with fail
  clear c0 c1 c2 c3 c4
  refine (truck_b (akW d0 d1 d2 d3 15) 3 w8 0 ak_t3 HK8.out.at_).mono ?_
  rintro e w9 ⟨rfl, h9⟩
  have HBW9 := Lib.hid (below_next HBW8.out h9.out)
  have HK9 := Lib.hid (HK8.out.below h9.out)
  clear h9 HBW8 HK8
  have c0 := HK9.out.wx.c0
  have c1 := HK9.out.wx.c1
  have c2 := HK9.out.wx.c2
  have c3 := HK9.out.wx.c3
  have c4 := HK9.out.wx.c4
  go_wp2_with fail
  clear c0 c1 c2 c3 c4
  refine (truck_b (akW d0 d1 d2 d3 15) 4 w9 (-1) ak_t4 HK9.out.at_).mono ?_
  rintro e w10 ⟨rfl, h10⟩
  have HBW10 := Lib.hid (below_next HBW9.out h10.out)
  clear h10 HBW9 HK9
  go_wp2
  go_ret
  exact ⟨rfl, HBW10.out⟩
end Go.Proofs.Ytihnkklnkcideaa
