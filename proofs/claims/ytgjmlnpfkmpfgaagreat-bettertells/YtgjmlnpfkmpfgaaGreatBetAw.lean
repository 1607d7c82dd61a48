/- The law's own wake-up call over package better returns true. -/
import Derived.Test.YtgjmlnpfkmpfgaaGreatBetEL
import Derived.Test.YtgjmlnpfkmpfgaaGreatBetPqr
namespace Go.Proofs.YtgjmlnpfkmpfgaaGreat
open Go.RowKit
set_option linter.unusedVariables false
set_option maxRecDepth 100000

def akD : List Int := [0, 5, 9, 5, 0, 1, 6, 9, 0]
def akZ : List Int := [0, 0, 0, 0, 0, 0, 0, 0, 0]
def akOs : List Ld.O := [⟨8, 0, 2, 1, 1, 0, 0, 0⟩, ⟨7, 0, 1, 1, 1, 0, 0, 0⟩]
def akTs : List Ld.T := [⟨3, 2, 2, 0, 0, 4, 2⟩]
def akW (d0 d1 d2 d3 : Nat) : Wd := ⟨3, some ⟨d0, 0, none⟩, 9, 9, akD, some ⟨d1, 0, none⟩, 9, 9, akZ, some ⟨d2, 0, none⟩, 2, 2, akOs, some ⟨d3, 0, none⟩, 1, 1, akTs⟩
def akR (d5 : Nat) : Rd := ⟨3, some ⟨d5, 0, none⟩, 2, 2, [8, 7]⟩
def akP (d5 d6 : Nat) : Pd := ⟨some ⟨d6, 0, none⟩, 1, 1, [akR d5], none, 0, 0, []⟩
def akU (d : Nat) : Pd := ⟨none, 0, 0, [], some ⟨d, 0, none⟩, 2, 2, [7, 8]⟩
def akE : Pd := ⟨none, 0, 0, [], none, 0, 0, []⟩
def akB (a b : List Pl.Ro) : Bool := Pl.lessB (Pl.checkS 3 akD akZ akOs akTs a (Pl.restS akOs a)) (Pl.checkS 3 akD akZ akOs akTs b (Pl.restS akOs b)) (Pl.restS akOs a).length (Pl.restS akOs b).length
def akM (a : List Pl.Ro) : List (List Pl.Ro) := Bt.movesL a (Pl.restS akOs a) (akTs.map Ld.T.id)
theorem ak_p : (Pl.checkS 3 akD akZ akOs akTs [⟨3, [8, 7]⟩] []).2 = 0 := by kernel_rfl
theorem ak_u : (Pl.checkS 3 akD akZ akOs akTs [] [7, 8]).2 = 0 := by kernel_rfl
theorem ak_e : Pl.checkS 3 akD akZ akOs akTs [] [] = (0, 2) := by kernel_rfl
theorem ak_go : (Bt.goS akB akM 100 [⟨3, [8, 7]⟩] (akM [⟨3, [8, 7]⟩])).1 = [⟨3, [7, 8]⟩] ∧ 0 < (Bt.goS akB akM 100 [⟨3, [8, 7]⟩] (akM [⟨3, [8, 7]⟩])).2 := ⟨by kernel_rfl, of_decide_eq_true (by kernel_rfl)⟩
theorem ak_l : (Bt.movesL [⟨3, [8, 7]⟩] [] (akTs.map Ld.T.id)).length = 5 := by kernel_rfl
theorem ak_m : (Bt.movesL [] [7, 8] (akTs.map Ld.T.id)).length = 2 := by kernel_rfl
theorem ak_rest : Pl.restS akOs [⟨3, [8, 7]⟩] = [] := by kernel_rfl
theorem box_new_at (W : World) (b : Nat) (cs : Array Value) (t : TypeId) (hb : b = W.heap.size) : Box (W.alloc (.cells cs t)) b cs t := by
  subst hb
  exact Box.new _ _ _

/-- all that is made, in its rows and boxes -/
structure AK (V : World) (d0 d1 d2 d3 d4 d5 d6 d7 : Nat) : Prop where
  r0 : Box V d0 #[.int .i64 0, .int .i64 5, .int .i64 9, .int .i64 5, .int .i64 0, .int .i64 1, .int .i64 6, .int .i64 9, .int .i64 0] 2
  r1 : Box V d1 (Array.replicate 9 (Value.int .i64 0)) 2
  r2 : Box V d2 #[.int .i64 8, .int .i64 0, .int .i64 2, .int .i64 1, .int .i64 1, .int .i64 0, .int .i64 0, .int .i64 0, .int .i64 7, .int .i64 0, .int .i64 1, .int .i64 1, .int .i64 1, .int .i64 0, .int .i64 0, .int .i64 0] 52
  r3 : Box V d3 #[.int .i64 3, .int .i64 2, .int .i64 2, .int .i64 0, .int .i64 0, .int .i64 4, .int .i64 2] 54
  r4 : Box V d4 #[.int .i64 3, .slice (some ⟨d0, 0, none⟩) 9 9, .slice (some ⟨d1, 0, none⟩) 9 9, .slice (some ⟨d2, 0, none⟩) 2 2, .slice (some ⟨d3, 0, none⟩) 1 1] 28
  r5 : Box V d5 #[.int .i64 8, .int .i64 7] 3
  r6 : Box V d6 #[.int .i64 3, .slice (some ⟨d5, 0, none⟩) 2 2] 49
  r7 : Box V d7 #[.slice (some ⟨d6, 0, none⟩) 1 1, .slice none 0 0] 32
theorem AK.below {V V' : World} {d0 d1 d2 d3 d4 d5 d6 d7 : Nat} (h : AK V d0 d1 d2 d3 d4 d5 d6 d7) (hb : Below V.heap.size V V') : AK V' d0 d1 d2 d3 d4 d5 d6 d7 := ⟨h.r0.below hb, h.r1.below hb, h.r2.below hb, h.r3.below hb, h.r4.below hb, h.r5.below hb, h.r6.below hb, h.r7.below hb⟩
theorem AK.wx {V : World} {d0 d1 d2 d3 d4 d5 d6 d7 : Nat} (h : AK V d0 d1 d2 d3 d4 d5 d6 d7) : WX V d4 (akW d0 d1 d2 d3) :=
  ⟨h.r4, ⟨⟨rfl, rfl, by show (9 : Nat) ≤ 400; omega, by show (9 : Nat) ≤ 400; omega, box_ints h.r0 rfl, box_ints h.r1 rfl⟩, by show (3 : Int) ≤ 9223372036854775807; omega, rfl, by show (2 : Nat) ≤ 1000; omega, rfl, by show (1 : Nat) ≤ 1000; omega, box_ints h.r2 rfl, box_ints h.r3 rfl⟩⟩
theorem AK.px {V : World} {d0 d1 d2 d3 d4 d5 d6 d7 : Nat} (h : AK V d0 d1 d2 d3 d4 d5 d6 d7) : PX V d7 (akP d5 d6) := by
  refine ⟨h.r7, rfl, by show (1 : Nat) ≤ 1000; omega, ?_, ?_, by show (2 : Nat) ≤ 10000; omega, rfl, by show (0 : Nat) ≤ 1000; omega, IntsAt.nil _ _⟩
  · refine RowsR.of fun j u hu => ?_
    rw [add_flat, Nat.zero_add]
    match j, hu with
    | 0, hu => rw [h.r6.cell 0 _ rfl]; exact hu
    | 1, hu => rw [h.r6.cell 1 _ rfl]; exact hu
    | j + 2, hu => simp [rCells, akP] at hu
  · intro r hr
    obtain rfl : r = akR d5 := by simpa [akP] using hr
    exact ⟨rfl, by show (2 : Nat) ≤ 1000; omega, box_ints h.r5 rfl⟩
theorem akP_cap (d5 d6 : Nat) : ∀ r ∈ (akP d5 d6).rs, r.sm ≤ r.sc := fun r hr => by
  obtain rfl : r = akR d5 := by simpa [akP] using hr
  exact Nat.le_refl _
/-- a plan of one route with the stops 7, 8 -/
theorem one_row {V : World} {q : Pd} (h : PAt V q) (hr : ros q.rs = [⟨3, [7, 8]⟩]) : ∃ (ad : Addr) (r : Rd), q.rA = some ad ∧ q.rm = 1 ∧ q.rs = [r] ∧ V.cell? ad = some (.int .i64 3) ∧ V.cell? ⟨ad.block, ad.off + 1, none⟩ = some (.slice r.sA 2 r.sc) ∧ IntsAt V r.sA [7, 8] := by
  have hl : (ros q.rs).length = 1 := by rw [hr]; rfl
  rw [ros_len] at hl
  obtain ⟨r, hrs⟩ := List.length_eq_one_iff.1 hl
  have h0 : q.rs[0]? = some r := by rw [hrs]; rfl
  obtain ⟨ad, e, hc, ha⟩ := h.at_ h0
  rw [Nat.zero_mul, show ad.add 0 = ad from by cases ad; simp [Addr.add]] at hc
  have h1 := ros_at h0
  rw [hr] at h1
  have h2 : (⟨3, [7, 8]⟩ : Pl.Ro) = r.ro := Option.some.inj h1
  injection h2 with ht hs
  have hsm : r.sm = 2 := by rw [← ha.sl, ← hs]; rfl
  refine ⟨ad, r, e, by rw [← h.rl]; exact hl, hrs, ?_, ?_, ?_⟩
  · rw [hc.c0, ← ht]
  · rw [hc.c1, hsm]
  · rw [hs]; exact ha.st
theorem akU_at (V : World) (d : Nat) (h : IntsAt V (some ⟨d, 0, none⟩) [7, 8]) : PAt V (akU d) :=
  ⟨rfl, by show (0 : Nat) ≤ 1000; omega, RowsR.nil _ _, (fun r hr => by cases hr), by show (0 : Nat) ≤ 10000; omega, rfl, by show (2 : Nat) ≤ 1000; omega, h⟩
theorem akE_at (V : World) : PAt V akE := ⟨rfl, by show (0 : Nat) ≤ 1000; omega, RowsR.nil _ _, (fun r hr => by cases hr), by show (0 : Nat) ≤ 10000; omega, rfl, by show (0 : Nat) ≤ 1000; omega, IntsAt.nil _ _⟩
theorem AK.new (w : World) : AK ((((((((w.alloc (.cells #[.int .i64 0, .int .i64 5, .int .i64 9, .int .i64 5, .int .i64 0, .int .i64 1, .int .i64 6, .int .i64 9, .int .i64 0] 2)).alloc (.cells (Array.replicate 9 (Value.int .i64 0)) 2)).alloc (.cells #[.int .i64 8, .int .i64 0, .int .i64 2, .int .i64 1, .int .i64 1, .int .i64 0, .int .i64 0, .int .i64 0, .int .i64 7, .int .i64 0, .int .i64 1, .int .i64 1, .int .i64 1, .int .i64 0, .int .i64 0, .int .i64 0] 52)).alloc (.cells #[.int .i64 3, .int .i64 2, .int .i64 2, .int .i64 0, .int .i64 0, .int .i64 4, .int .i64 2] 54)).alloc (.cells #[.int .i64 3, .slice (some ⟨w.heap.size, 0, none⟩) 9 9, .slice (some ⟨w.heap.size + 1, 0, none⟩) 9 9, .slice (some ⟨w.heap.size + 1 + 1, 0, none⟩) 2 2, .slice (some ⟨w.heap.size + 1 + 1 + 1, 0, none⟩) 1 1] 28)).alloc (.cells #[.int .i64 8, .int .i64 7] 3)).alloc (.cells #[.int .i64 3, .slice (some ⟨w.heap.size + 1 + 1 + 1 + 1 + 1, 0, none⟩) 2 2] 49)).alloc (.cells #[.slice (some ⟨w.heap.size + 1 + 1 + 1 + 1 + 1 + 1, 0, none⟩) 1 1, .slice none 0 0] 32)) (w.heap.size) (w.heap.size + 1) (w.heap.size + 1 + 1) (w.heap.size + 1 + 1 + 1) (w.heap.size + 1 + 1 + 1 + 1) (w.heap.size + 1 + 1 + 1 + 1 + 1) (w.heap.size + 1 + 1 + 1 + 1 + 1 + 1) (w.heap.size + 1 + 1 + 1 + 1 + 1 + 1 + 1) :=
  ⟨((((((((box_new_at _ _ _ _ (by simp)).below (below_alloc _ _)).below (below_alloc _ _)).below (below_alloc _ _)).below (below_alloc _ _)).below (below_alloc _ _)).below (below_alloc _ _)).below (below_alloc _ _)),
    (((((((box_new_at _ _ _ _ (by simp)).below (below_alloc _ _)).below (below_alloc _ _)).below (below_alloc _ _)).below (below_alloc _ _)).below (below_alloc _ _)).below (below_alloc _ _)),
    ((((((box_new_at _ _ _ _ (by simp)).below (below_alloc _ _)).below (below_alloc _ _)).below (below_alloc _ _)).below (below_alloc _ _)).below (below_alloc _ _)),
    (((((box_new_at _ _ _ _ (by simp)).below (below_alloc _ _)).below (below_alloc _ _)).below (below_alloc _ _)).below (below_alloc _ _)),
    ((((box_new_at _ _ _ _ (by simp)).below (below_alloc _ _)).below (below_alloc _ _)).below (below_alloc _ _)),
    (((box_new_at _ _ _ _ (by simp)).below (below_alloc _ _)).below (below_alloc _ _)),
    ((box_new_at _ _ _ _ (by simp)).below (below_alloc _ _)),
    (box_new_at _ _ _ _ (by simp))⟩

set_option maxHeartbeats 8000000 in
theorem awake_any (w : World) : Calls Tryz.prog 7 #[] w fun e w' => e = .returned (.bool true) ∧ Below w.heap.size w w' := by
  have HV0 := Lib.hid (AK.new w)
  have HB00 : Hid (Below w.heap.size w ((((((((w.alloc (.cells #[.int .i64 0, .int .i64 5, .int .i64 9, .int .i64 5, .int .i64 0, .int .i64 1, .int .i64 6, .int .i64 9, .int .i64 0] 2)).alloc (.cells (Array.replicate 9 (Value.int .i64 0)) 2)).alloc (.cells #[.int .i64 8, .int .i64 0, .int .i64 2, .int .i64 1, .int .i64 1, .int .i64 0, .int .i64 0, .int .i64 0, .int .i64 7, .int .i64 0, .int .i64 1, .int .i64 1, .int .i64 1, .int .i64 0, .int .i64 0, .int .i64 0] 52)).alloc (.cells #[.int .i64 3, .int .i64 2, .int .i64 2, .int .i64 0, .int .i64 0, .int .i64 4, .int .i64 2] 54)).alloc (.cells #[.int .i64 3, .slice (some ⟨w.heap.size, 0, none⟩) 9 9, .slice (some ⟨w.heap.size + 1, 0, none⟩) 9 9, .slice (some ⟨w.heap.size + 1 + 1, 0, none⟩) 2 2, .slice (some ⟨w.heap.size + 1 + 1 + 1, 0, none⟩) 1 1] 28)).alloc (.cells #[.int .i64 8, .int .i64 7] 3)).alloc (.cells #[.int .i64 3, .slice (some ⟨w.heap.size + 1 + 1 + 1 + 1 + 1, 0, none⟩) 2 2] 49)).alloc (.cells #[.slice (some ⟨w.heap.size + 1 + 1 + 1 + 1 + 1 + 1, 0, none⟩) 1 1, .slice none 0 0] 32))) := (below_more (below_more (below_more (below_more (below_more (below_more (below_more (below_alloc _ _) _) _) _) _) _) _) _)
  have hmk : ∀ W : World, (Instr.makeSlice 22 (.int .i64 9) (.int .i64 9)).run Tryz.prog W = .ok (.slice (some ⟨W.heap.size, 0, none⟩) 9 9) (W.alloc (.cells (Array.replicate 9 (Value.int .i64 0)) 2)) := make_nums2 9 (by omega)
  obtain ⟨zp, hzp⟩ : ∃ z, Pl.checkS 3 akD akZ akOs akTs [⟨3, [8, 7]⟩] [] = (z, 0) := ⟨_, Prod.ext rfl ak_p⟩
  obtain ⟨zu, hzu⟩ : ∃ z, Pl.checkS 3 akD akZ akOs akTs [] [7, 8] = (z, 0) := ⟨_, Prod.ext rfl ak_u⟩
  have HZP := Lib.hid hzp
  have HZU := Lib.hid hzu
  clear hzp hzu
  go_enter Tryz.func7, Tryz.ntmps7
  have c0 := HV0.out.wx.c0
  have c1 := HV0.out.wx.c1
  have c2 := HV0.out.wx.c2
  have c3 := HV0.out.wx.c3
  have c4 := HV0.out.wx.c4
  have p0 := HV0.out.px.c0
  have p1 := HV0.out.px.c1
  go_wp2_with fail
  clear c0 c1 c2 c3 c4 p0 p1 hmk
  generalize ((((((((w.alloc (.cells #[.int .i64 0, .int .i64 5, .int .i64 9, .int .i64 5, .int .i64 0, .int .i64 1, .int .i64 6, .int .i64 9, .int .i64 0] 2)).alloc (.cells (Array.replicate 9 (Value.int .i64 0)) 2)).alloc (.cells #[.int .i64 8, .int .i64 0, .int .i64 2, .int .i64 1, .int .i64 1, .int .i64 0, .int .i64 0, .int .i64 0, .int .i64 7, .int .i64 0, .int .i64 1, .int .i64 1, .int .i64 1, .int .i64 0, .int .i64 0, .int .i64 0] 52)).alloc (.cells #[.int .i64 3, .int .i64 2, .int .i64 2, .int .i64 0, .int .i64 0, .int .i64 4, .int .i64 2] 54)).alloc (.cells #[.int .i64 3, .slice (some ⟨w.heap.size, 0, none⟩) 9 9, .slice (some ⟨w.heap.size + 1, 0, none⟩) 9 9, .slice (some ⟨w.heap.size + 1 + 1, 0, none⟩) 2 2, .slice (some ⟨w.heap.size + 1 + 1 + 1, 0, none⟩) 1 1] 28)).alloc (.cells #[.int .i64 8, .int .i64 7] 3)).alloc (.cells #[.int .i64 3, .slice (some ⟨w.heap.size + 1 + 1 + 1 + 1 + 1, 0, none⟩) 2 2] 49)).alloc (.cells #[.slice (some ⟨w.heap.size + 1 + 1 + 1 + 1 + 1 + 1, 0, none⟩) 1 1, .slice none 0 0] 32)) = V at *
  generalize w.heap.size + 1 + 1 + 1 + 1 + 1 + 1 + 1 = d7 at *
  generalize w.heap.size + 1 + 1 + 1 + 1 + 1 + 1 = d6 at *
  generalize w.heap.size + 1 + 1 + 1 + 1 + 1 = d5 at *
  generalize w.heap.size + 1 + 1 + 1 + 1 = d4 at *
  generalize w.heap.size + 1 + 1 + 1 = d3 at *
  generalize w.heap.size + 1 + 1 = d2 at *
  generalize w.heap.size + 1 = d1 at *
  generalize hd0 : w.heap.size = d0 at HV0 ⊢
  clear hd0
  have HBV := Lib.hid HB00.out
  clear HB00
  refine (imp_yes (akW d0 d1 d2 d3) (akP d5 d6) V zp 100 HZP.out (by omega) HV0.out.wx.at_ HV0.out.px.at_).mono ?_
  rintro e w1 ⟨q, t, rfl, hgo, h1⟩
  have hb : betB (akW d0 d1 d2 d3) = akB := rfl
  have hm : mvB (akW d0 d1 d2 d3) = akM := rfl
  have hr : ros (akP d5 d6).rs = [⟨3, [8, 7]⟩] := rfl
  have HGO : Hid (ros q.rs = [⟨3, [7, 8]⟩] ∧ 0 < t) := by
    rw [hb, hm, hr] at hgo
    have h := ak_go
    rw [hgo] at h
    exact h
  clear hb hm hr hgo
  have HK1 := Lib.hid (HV0.out.below h1.out.1)
  have HB1 := Lib.hid (below_next HBV.out h1.out.1)
  have HQ1 := Lib.hid h1.out.2.1
  clear HV0 HBV h1
  have HK2 := Lib.hid (HK1.out.below (below_alloc w1 (.cells #[.slice q.rA q.rm q.rc, .slice q.uA q.um q.uc] 32)))
  have c0 := HK1.out.wx.c0
  have c1 := HK1.out.wx.c1
  have c2 := HK1.out.wx.c2
  have c3 := HK1.out.wx.c3
  have c4 := HK1.out.wx.c4
  have p0 := HK1.out.px.c0
  have p1 := HK1.out.px.c1
  have c0 := HK2.out.wx.c0
  have c1 := HK2.out.wx.c1
  have c2 := HK2.out.wx.c2
  have c3 := HK2.out.wx.c3
  have c4 := HK2.out.wx.c4
  have p0 := HK2.out.px.c0
  have p1 := HK2.out.px.c1
  go_wp2_with fail
  clear c0 c1 c2 c3 c4 p0 p1 HK1
  have HB2 := Lib.hid (below_more HB1.out (.cells #[.slice q.rA q.rm q.rc, .slice q.uA q.um q.uc] 32))
  have HX2 := Lib.hid (PX.new HQ1.out.at_)
  clear HB1 HQ1
  generalize w1.alloc (.cells #[.slice q.rA q.rm q.rc, .slice q.uA q.um q.uc] 32) = w2 at *
  generalize w1.heap.size = dq at *
  refine (imp_yes (akW d0 d1 d2 d3) (akP d5 d6) w2 zp 0 HZP.out (by omega) HK2.out.wx.at_ HK2.out.px.at_).mono ?_
  rintro e w3 ⟨q2, t2, rfl, hgo2, h3⟩
  rw [Bt.go_zero] at hgo2
  have ht2 : t2 = 0 := by injection hgo2 with _ h; exact h.symm
  subst ht2
  have HSR : Hid (ros q2.rs = ros (akP d5 d6).rs ∧ q2.us = (akP d5 d6).us) := by
    have h1 : ros (akP d5 d6).rs = ros q2.rs := by injection hgo2
    refine ⟨h1.symm, ?_⟩
    rw [h3.out.2.2.1, ← h1]
    exact ak_rest
  have HK3 := Lib.hid (HK2.out.below h3.out.1)
  have HB3 := Lib.hid (below_next HB2.out h3.out.1)
  have HX3 := Lib.hid (HX2.out.below h3.out.1)
  have HQ3 : Hid (PX (w3.alloc (.cells #[.slice q2.rA q2.rm q2.rc, .slice q2.uA q2.um q2.uc] 32)) w3.heap.size q2) := PX.new h3.out.2.1.at_
  clear HK2 HB2 HX2 h3 hgo2
  have HK3 := Lib.hid (HK3.out.below (below_alloc w3 (.cells #[.slice q2.rA q2.rm q2.rc, .slice q2.uA q2.um q2.uc] 32)))
  have HX3 := Lib.hid (HX3.out.below (below_alloc w3 (.cells #[.slice q2.rA q2.rm q2.rc, .slice q2.uA q2.um q2.uc] 32)))
  have HB3 := Lib.hid (below_more HB3.out (.cells #[.slice q2.rA q2.rm q2.rc, .slice q2.uA q2.um q2.uc] 32))
  have c0 := HK3.out.wx.c0
  have c1 := HK3.out.wx.c1
  have c2 := HK3.out.wx.c2
  have c3 := HK3.out.wx.c3
  have c4 := HK3.out.wx.c4
  have p0 := HK3.out.px.c0
  have p1 := HK3.out.px.c1
  go_wp2_with fail
  clear c0 c1 c2 c3 c4 p0 p1
  generalize w3.alloc (.cells #[.slice q2.rA q2.rm q2.rc, .slice q2.uA q2.um q2.uc] 32) = w3b at *
  generalize w3.heap.size = ds at *
  refine (imp_steps (akW d0 d1 d2 d3) (akP d5 d6) w3b zp (-1) HZP.out (.inl (by omega)) HK3.out.wx.at_ HK3.out.px.at_).mono ?_
  rintro e w4 ⟨rfl, h4⟩
  have HK4 := Lib.hid (HK3.out.below h4.out)
  have HB4 := Lib.hid (below_next HB3.out h4.out)
  have HX4 := Lib.hid (HX3.out.below h4.out)
  have HQ4 := Lib.hid (HQ3.out.below h4.out)
  clear HK3 HB3 HX3 HQ3 h4
  have HK4 := Lib.hid (HK4.out.below (below_alloc w4 (.cells #[.slice none 0 0, .slice none 0 0] 32)))
  have HB4 := Lib.hid (below_more HB4.out (.cells #[.slice none 0 0, .slice none 0 0] 32))
  have HX4 := Lib.hid (HX4.out.below (below_alloc w4 (.cells #[.slice none 0 0, .slice none 0 0] 32)))
  have HQ4 := Lib.hid (HQ4.out.below (below_alloc w4 (.cells #[.slice none 0 0, .slice none 0 0] 32)))
  have c0 := HK4.out.wx.c0
  have c1 := HK4.out.wx.c1
  have c2 := HK4.out.wx.c2
  have c3 := HK4.out.wx.c3
  have c4 := HK4.out.wx.c4
  have p0 := HK4.out.px.c0
  have p1 := HK4.out.px.c1
  go_wp2_with fail
  clear c0 c1 c2 c3 c4 p0 p1
  generalize w4.alloc (.cells #[.slice none 0 0, .slice none 0 0] 32) = w4b at *
  refine (moves_yes (akW d0 d1 d2 d3) (akP d5 d6) w4b zp HZP.out HK4.out.wx.at_ HK4.out.px.at_ (akP_cap d5 d6)).mono ?_
  rintro e w5 ⟨A5, m5, c5, l5, rfl, h5⟩
  have hm5 : m5 = 5 := by
    obtain ⟨A, c, he, _⟩ := h5.out.2.1.row
    injection he with _ he _
    have h := congrArg List.length h5.out.2.2.2
    rw [List.length_map] at h
    rw [he, h]
    exact ak_l
  subst hm5
  have HK5 := Lib.hid (HK4.out.below h5.out.1)
  have HB5 := Lib.hid (below_next HB4.out h5.out.1)
  have HX5 := Lib.hid (HX4.out.below h5.out.1)
  have HQ5 := Lib.hid (HQ4.out.below h5.out.1)
  clear HK4 HB4 HX4 HQ4 h5
  have HK6 := Lib.hid (HK5.out.below (below_alloc w5 (.cells #[.int .i64 7, .int .i64 8] 3)))
  have c0 := HK5.out.wx.c0
  have c1 := HK5.out.wx.c1
  have c2 := HK5.out.wx.c2
  have c3 := HK5.out.wx.c3
  have c4 := HK5.out.wx.c4
  have c0 := HK6.out.wx.c0
  have c1 := HK6.out.wx.c1
  have c2 := HK6.out.wx.c2
  have c3 := HK6.out.wx.c3
  have c4 := HK6.out.wx.c4
  go_wp2_with fail
  have hi6 : IntsAt (w5.alloc (.cells #[.int .i64 7, .int .i64 8] 3)) (some ⟨w5.heap.size, 0, none⟩) [7, 8] := box_ints (Box.new _ _ _) rfl
  refine (moves_yes (akW d0 d1 d2 d3) (akU w5.heap.size) (w5.alloc (.cells #[.int .i64 7, .int .i64 8] 3)) zu HZU.out HK6.out.wx.at_ (akU_at _ _ hi6) (fun r hr => by cases hr)).mono ?_
  rintro e w7 ⟨A7, m7, c7, l7, rfl, h7⟩
  have hm7 : m7 = 2 := by
    obtain ⟨A, c, he, _⟩ := h7.out.2.1.row
    injection he with _ he _
    have h := congrArg List.length h7.out.2.2.2
    rw [List.length_map] at h
    rw [he, h]
    exact ak_m
  subst hm7
  have HV57 : Hid (Below w5.heap.size w5 w7) := below_next (below_alloc w5 _) h7.out.1
  have HK7 := Lib.hid (HK5.out.below HV57.out)
  have HB7 := Lib.hid (below_next HB5.out HV57.out)
  have HX7 := Lib.hid (HX5.out.below HV57.out)
  have HQ7 := Lib.hid (HQ5.out.below HV57.out)
  clear HK5 HB5 HX5 HQ5 HK6 h7 hi6 HV57 c0 c1 c2 c3 c4
  obtain ⟨ad, r, hqA, hqm, hqr, hq0, hq1, hqs⟩ := one_row HX7.out.at_ HGO.out.1
  have HTT : Hid ((0 : Nat) < t) := HGO.out.2
  have HRI := Lib.hid hqs
  obtain ⟨qA, qm, qc, qrs, uA, um, uc, us⟩ := q
  dsimp only at hqA hqm
  subst hqA hqm
  have q0 : w7.cell? ⟨dq, 0, none⟩ = some (.slice (some ad) 1 qc) := HX7.out.c0
  have q1 : w7.cell? ⟨dq, 1, none⟩ = some (.slice uA um uc) := HX7.out.c1
  have dt : decide ((0 : Int) < (t : Int)) = true := decide_eq_true (by have := HTT.out; omega)
  clear HX7 HGO hqr
  have s0 := HQ7.out.c0
  have s1 := HQ7.out.c1
  have p0 := HK7.out.px.c0
  have p1 := HK7.out.px.c1
  go_wp2_with fail
  clear q0 q1 s0 s1 p0 p1
  have HV78 := Lib.hid (below_alloc w7 (.cells #[.int .i64 7, .int .i64 8] 3))
  refine (psame_b r.sA (some ⟨w7.heap.size, 0, none⟩) 2 r.sc 2 2 [7, 8] [7, 8] (w7.alloc (.cells #[.int .i64 7, .int .i64 8] 3)) true rfl rfl rfl (by omega) (by omega) (HRI.out.below HV78.out) (box_ints (Box.new _ _ _) rfl)).mono ?_
  rintro e w8 ⟨rfl, q8, rfl⟩
  have HK8 := Lib.hid ((HK7.out.below HV78.out).below (drewN_below _ q8))
  have HQ8 := Lib.hid ((HQ7.out.below HV78.out).below (drewN_below _ q8))
  have HB8 := Lib.hid (below_next (below_more HB7.out (.cells #[.int .i64 7, .int .i64 8] 3)) (drewN_below _ q8))
  clear HK7 HQ7 HB7 HV78 HRI
  generalize (w7.alloc (.cells #[.int .i64 7, .int .i64 8] 3)).drewN q8 = w8 at *
  have s0 := HQ8.out.c0
  have s1 := HQ8.out.c1
  have p0 := HK8.out.px.c0
  have p1 := HK8.out.px.c1
  go_wp2_with fail
  clear s0 s1 p0 p1
  refine (pequal_b q2 (akP d5 d6) w8 HQ8.out.at_ HK8.out.px.at_ HSR.out.1 HSR.out.2).mono ?_
  rintro e w9 ⟨rfl, h9⟩
  have HK9 := Lib.hid (HK8.out.below h9.out)
  have HB9 := Lib.hid (below_next HB8.out h9.out)
  clear HK8 HQ8 HB8 h9
  have c0 := HK9.out.wx.c0
  have c1 := HK9.out.wx.c1
  have c2 := HK9.out.wx.c2
  have c3 := HK9.out.wx.c3
  have c4 := HK9.out.wx.c4
  go_wp2_with fail
  clear c0 c1 c2 c3 c4
  refine (moves_no (akW d0 d1 d2 d3) akE w9 2 ak_e (by decide) HK9.out.wx.at_ (akE_at w9)).mono ?_
  rintro e w10 ⟨rfl, h10⟩
  have HB10 := Lib.hid (below_next HB9.out h10.out)
  go_wp2
  go_ret
  exact ⟨rfl, HB10.out⟩
end Go.Proofs.YtgjmlnpfkmpfgaaGreat
