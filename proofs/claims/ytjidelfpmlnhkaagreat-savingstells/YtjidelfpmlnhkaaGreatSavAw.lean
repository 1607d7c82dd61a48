/- The law's own wake-up call over package savings returns true. -/
import Derived.Test.YtjidelfpmlnhkaaGreatSavQ
namespace Go.Proofs.YtjidelfpmlnhkaaGreat
open Go.RowKit
set_option linter.unusedVariables false
set_option maxRecDepth 100000

def akD : List Int := [0, 5, 6, 5, 0, 1, 6, 1, 0]
def akZ : List Int := [0, 0, 0, 0, 0, 0, 0, 0, 0]
def akOs : List Ld.O := [⟨8, 0, 2, 1, 1, 0, 0, 0⟩, ⟨7, 0, 1, 1, 1, 0, 0, 0⟩]
def akTs : List Ld.T := [⟨3, 2, 2, 0, 0, 4, 2⟩, ⟨2, 2, 2, 0, 0, 5, 2⟩]
def akW (d0 d1 d2 d3 : Nat) : Wd := ⟨3, some ⟨d0, 0, none⟩, 9, 9, akD, some ⟨d1, 0, none⟩, 9, 9, akZ, some ⟨d2, 0, none⟩, 2, 2, akOs, some ⟨d3, 0, none⟩, 2, 2, akTs⟩
def akV : Wd := ⟨0, none, 0, 0, [], none, 0, 0, [], none, 0, 0, [], none, 0, 0, []⟩
theorem ak_w : Rt.worldE 3 akD akZ akOs akTs = 0 := by kernel_rfl
theorem ak_v : Rt.worldE 0 [] [] [] [] = 1 := by kernel_rfl
theorem ak_s : Sv.savS 3 akD akZ akOs akTs [7] [8] = (10, 0) := by kernel_rfl
theorem ak_n : Sv.savS 3 akD akZ akOs akTs [] [8] = (0, 2) := by kernel_rfl
theorem ak_a : Sv.aloneL 3 akD akZ akOs akTs = [[8], [7]] := by kernel_rfl
theorem ak_78 : Sv.gain 3 akD akZ akOs akTs [7] [8] = 10 := by kernel_rfl
theorem ak_87 : Sv.gain 3 akD akZ akOs akTs [8] [7] = 10 := by kernel_rfl
theorem ak_rows : Sv.IsRows 3 akD akZ akOs akTs [[7, 8]] := by
  refine ⟨⟨[[7, 8]], ?_, List.Perm.refl _⟩, List.pairwise_singleton _ _⟩
  rw [ak_a]
  refine .step (a := [7]) (b := [8]) (rest := []) (List.Perm.swap _ _ _) ⟨by simp, by simp, by simp, by rw [ak_78]; omega, ?_⟩ (List.Perm.refl _) (.done (List.Perm.refl _) ?_)
  · intro c hc d hd hcd _
    simp only [List.mem_cons, List.not_mem_nil, or_false] at hc hd
    rcases hc with rfl | rfl <;> rcases hd with rfl | rfl
    · exact absurd rfl hcd
    · rw [ak_87, ak_78]
      exact .inr ⟨rfl, .inl (by show (7 : Int) < 8; omega)⟩
    · rw [ak_78]
      exact .inr ⟨rfl, .inr ⟨rfl, Int.le_refl _⟩⟩
    · exact absurd rfl hcd
  · intro a ha b hb hab
    have ha : a = [7, 8] := List.mem_singleton.1 ha
    have hb : b = [7, 8] := List.mem_singleton.1 hb
    exact absurd (ha.trans hb.symm) hab
theorem ak_c3 : (Rt.runS 3 akD akZ akOs akTs 3 [7, 8]).e = 0 ∧ (Rt.runS 3 akD akZ akOs akTs 3 [7, 8]).cost = 28 := ⟨by kernel_rfl, by kernel_rfl⟩
theorem ak_c2 : (Rt.runS 3 akD akZ akOs akTs 2 [7, 8]).cost = 29 := by kernel_rfl
theorem ak_plan : Sv.IsPlan 3 akD akZ akOs akTs [⟨3, [7, 8]⟩] := by
  refine ⟨[[7, 8]], ak_rows, .take (l := []) (p := []) (st := [7, 8]) (u := 3) rfl rfl .nil (by simp [akTs]) (by simp [Pl.trs]) ak_c3.1 ?_⟩
  intro v hv _ _
  have hv : v = 3 ∨ v = 2 := by simpa [akTs] using hv
  rcases hv with rfl | rfl
  · exact .inr ⟨rfl, Int.le_refl _⟩
  · left
    show (Rt.runS 3 akD akZ akOs akTs 3 [7, 8]).cost < (Rt.runS 3 akD akZ akOs akTs 2 [7, 8]).cost
    rw [ak_c3.2, ak_c2]
    omega
theorem ak_rest : Pl.restS akOs [⟨3, [7, 8]⟩] = [] := by kernel_rfl
theorem box_new_at (W : World) (b : Nat) (cs : Array Value) (t : TypeId) (hb : b = W.heap.size) : Box (W.alloc (.cells cs t)) b cs t := by
  subst hb
  exact Box.new _ _ _

/-- all that is made, in its rows and boxes -/
structure AK (V : World) (d0 d1 d2 d3 d4 d5 d6 : Nat) : Prop where
  r0 : Box V d0 #[.int .i64 0, .int .i64 5, .int .i64 6, .int .i64 5, .int .i64 0, .int .i64 1, .int .i64 6, .int .i64 1, .int .i64 0] 2
  r1 : Box V d1 (Array.replicate 9 (Value.int .i64 0)) 2
  r2 : Box V d2 #[.int .i64 8, .int .i64 0, .int .i64 2, .int .i64 1, .int .i64 1, .int .i64 0, .int .i64 0, .int .i64 0, .int .i64 7, .int .i64 0, .int .i64 1, .int .i64 1, .int .i64 1, .int .i64 0, .int .i64 0, .int .i64 0] 62
  r3 : Box V d3 #[.int .i64 3, .int .i64 2, .int .i64 2, .int .i64 0, .int .i64 0, .int .i64 4, .int .i64 2, .int .i64 2, .int .i64 2, .int .i64 2, .int .i64 0, .int .i64 0, .int .i64 5, .int .i64 2] 51
  r4 : Box V d4 #[.int .i64 3, .slice (some ⟨d0, 0, none⟩) 9 9, .slice (some ⟨d1, 0, none⟩) 9 9, .slice (some ⟨d2, 0, none⟩) 2 2, .slice (some ⟨d3, 0, none⟩) 2 2] 28
  r5 : Box V d5 #[.int .i64 7] 3
  r6 : Box V d6 #[.int .i64 8] 3
theorem AK.below {V V' : World} {d0 d1 d2 d3 d4 d5 d6 : Nat} (h : AK V d0 d1 d2 d3 d4 d5 d6) (hb : Below V.heap.size V V') : AK V' d0 d1 d2 d3 d4 d5 d6 := ⟨h.r0.below hb, h.r1.below hb, h.r2.below hb, h.r3.below hb, h.r4.below hb, h.r5.below hb, h.r6.below hb⟩
theorem AK.wx {V : World} {d0 d1 d2 d3 d4 d5 d6 : Nat} (h : AK V d0 d1 d2 d3 d4 d5 d6) : WX V d4 (akW d0 d1 d2 d3) :=
  ⟨h.r4, ⟨⟨rfl, rfl, by show (9 : Nat) ≤ 400; omega, by show (9 : Nat) ≤ 400; omega, box_ints h.r0 rfl, box_ints h.r1 rfl⟩, by show (3 : Int) ≤ 9223372036854775807; omega, rfl, by show (2 : Nat) ≤ 1000; omega, rfl, by show (2 : Nat) ≤ 1000; omega, box_ints h.r2 rfl, box_ints h.r3 rfl⟩⟩
theorem AK.new (w : World) : AK (((((((w.alloc (.cells #[.int .i64 0, .int .i64 5, .int .i64 6, .int .i64 5, .int .i64 0, .int .i64 1, .int .i64 6, .int .i64 1, .int .i64 0] 2)).alloc (.cells (Array.replicate 9 (Value.int .i64 0)) 2)).alloc (.cells #[.int .i64 8, .int .i64 0, .int .i64 2, .int .i64 1, .int .i64 1, .int .i64 0, .int .i64 0, .int .i64 0, .int .i64 7, .int .i64 0, .int .i64 1, .int .i64 1, .int .i64 1, .int .i64 0, .int .i64 0, .int .i64 0] 62)).alloc (.cells #[.int .i64 3, .int .i64 2, .int .i64 2, .int .i64 0, .int .i64 0, .int .i64 4, .int .i64 2, .int .i64 2, .int .i64 2, .int .i64 2, .int .i64 0, .int .i64 0, .int .i64 5, .int .i64 2] 51)).alloc (.cells #[.int .i64 3, .slice (some ⟨w.heap.size, 0, none⟩) 9 9, .slice (some ⟨w.heap.size + 1, 0, none⟩) 9 9, .slice (some ⟨w.heap.size + 1 + 1, 0, none⟩) 2 2, .slice (some ⟨w.heap.size + 1 + 1 + 1, 0, none⟩) 2 2] 28)).alloc (.cells #[.int .i64 7] 3)).alloc (.cells #[.int .i64 8] 3)) (w.heap.size) (w.heap.size + 1) (w.heap.size + 1 + 1) (w.heap.size + 1 + 1 + 1) (w.heap.size + 1 + 1 + 1 + 1) (w.heap.size + 1 + 1 + 1 + 1 + 1) (w.heap.size + 1 + 1 + 1 + 1 + 1 + 1) :=
  ⟨((((((box_new_at _ _ _ _ (by simp)).below (below_alloc _ _)).below (below_alloc _ _)).below (below_alloc _ _)).below (below_alloc _ _)).below (below_alloc _ _)).below (below_alloc _ _),
    (((((box_new_at _ _ _ _ (by simp)).below (below_alloc _ _)).below (below_alloc _ _)).below (below_alloc _ _)).below (below_alloc _ _)).below (below_alloc _ _),
    ((((box_new_at _ _ _ _ (by simp)).below (below_alloc _ _)).below (below_alloc _ _)).below (below_alloc _ _)).below (below_alloc _ _),
    (((box_new_at _ _ _ _ (by simp)).below (below_alloc _ _)).below (below_alloc _ _)).below (below_alloc _ _),
    ((box_new_at _ _ _ _ (by simp)).below (below_alloc _ _)).below (below_alloc _ _),
    (box_new_at _ _ _ _ (by simp)).below (below_alloc _ _),
    box_new_at _ _ _ _ (by simp)⟩
theorem akV_at (w : World) : WAt w akV := ⟨⟨rfl, rfl, by show (0 : Nat) ≤ 400; omega, by show (0 : Nat) ≤ 400; omega, IntsAt.nil _ _, IntsAt.nil _ _⟩, by show (0 : Int) ≤ 9223372036854775807; omega, rfl, by show (0 : Nat) ≤ 1000; omega, rfl, by show (0 : Nat) ≤ 1000; omega, IntsAt.nil _ _, IntsAt.nil _ _⟩

set_option maxHeartbeats 8000000 in
theorem awake_any (w : World) : Calls Tryz.prog 7 #[] w fun e w' => e = .returned (.bool true) ∧ Below w.heap.size w w' := by
  have HV0 := Lib.hid (AK.new w)
  have HB0 : Hid (Below w.heap.size w (((((((w.alloc (.cells #[.int .i64 0, .int .i64 5, .int .i64 6, .int .i64 5, .int .i64 0, .int .i64 1, .int .i64 6, .int .i64 1, .int .i64 0] 2)).alloc (.cells (Array.replicate 9 (Value.int .i64 0)) 2)).alloc (.cells #[.int .i64 8, .int .i64 0, .int .i64 2, .int .i64 1, .int .i64 1, .int .i64 0, .int .i64 0, .int .i64 0, .int .i64 7, .int .i64 0, .int .i64 1, .int .i64 1, .int .i64 1, .int .i64 0, .int .i64 0, .int .i64 0] 62)).alloc (.cells #[.int .i64 3, .int .i64 2, .int .i64 2, .int .i64 0, .int .i64 0, .int .i64 4, .int .i64 2, .int .i64 2, .int .i64 2, .int .i64 2, .int .i64 0, .int .i64 0, .int .i64 5, .int .i64 2] 51)).alloc (.cells #[.int .i64 3, .slice (some ⟨w.heap.size, 0, none⟩) 9 9, .slice (some ⟨w.heap.size + 1, 0, none⟩) 9 9, .slice (some ⟨w.heap.size + 1 + 1, 0, none⟩) 2 2, .slice (some ⟨w.heap.size + 1 + 1 + 1, 0, none⟩) 2 2] 28)).alloc (.cells #[.int .i64 7] 3)).alloc (.cells #[.int .i64 8] 3))) := below_more (below_more (below_more (below_more (below_more (below_more (below_alloc _ _) _) _) _) _) _) _
  have hmk : ∀ W : World, (Instr.makeSlice 22 (.int .i64 9) (.int .i64 9)).run Tryz.prog W = .ok (.slice (some ⟨W.heap.size, 0, none⟩) 9 9) (W.alloc (.cells (Array.replicate 9 (Value.int .i64 0)) 2)) := make_nums2 9 (by omega)
  go_enter Tryz.func7, Tryz.ntmps7
  have c0 := HV0.out.wx.c0
  have c1 := HV0.out.wx.c1
  have c2 := HV0.out.wx.c2
  have c3 := HV0.out.wx.c3
  have c4 := HV0.out.wx.c4
  go_wp2_with fail
  clear c0 c1 c2 c3 c4 hmk
  generalize (((((((w.alloc (.cells #[.int .i64 0, .int .i64 5, .int .i64 6, .int .i64 5, .int .i64 0, .int .i64 1, .int .i64 6, .int .i64 1, .int .i64 0] 2)).alloc (.cells (Array.replicate 9 (Value.int .i64 0)) 2)).alloc (.cells #[.int .i64 8, .int .i64 0, .int .i64 2, .int .i64 1, .int .i64 1, .int .i64 0, .int .i64 0, .int .i64 0, .int .i64 7, .int .i64 0, .int .i64 1, .int .i64 1, .int .i64 1, .int .i64 0, .int .i64 0, .int .i64 0] 62)).alloc (.cells #[.int .i64 3, .int .i64 2, .int .i64 2, .int .i64 0, .int .i64 0, .int .i64 4, .int .i64 2, .int .i64 2, .int .i64 2, .int .i64 2, .int .i64 0, .int .i64 0, .int .i64 5, .int .i64 2] 51)).alloc (.cells #[.int .i64 3, .slice (some ⟨w.heap.size, 0, none⟩) 9 9, .slice (some ⟨w.heap.size + 1, 0, none⟩) 9 9, .slice (some ⟨w.heap.size + 1 + 1, 0, none⟩) 2 2, .slice (some ⟨w.heap.size + 1 + 1 + 1, 0, none⟩) 2 2] 28)).alloc (.cells #[.int .i64 7] 3)).alloc (.cells #[.int .i64 8] 3)) = V at *
  generalize w.heap.size + 1 + 1 + 1 + 1 + 1 + 1 = d6 at *
  generalize w.heap.size + 1 + 1 + 1 + 1 + 1 = d5 at *
  generalize w.heap.size + 1 + 1 + 1 + 1 = d4 at *
  generalize w.heap.size + 1 + 1 + 1 = d3 at *
  generalize w.heap.size + 1 + 1 = d2 at *
  generalize w.heap.size + 1 = d1 at *
  generalize hd0 : w.heap.size = d0 at HV0 ⊢
  clear hd0
  refine (saved_b (akW d0 d1 d2 d3) (some ⟨d5, 0, none⟩) 1 1 [7] (some ⟨d6, 0, none⟩) 1 1 [8] V (10, 0) ak_s HV0.out.wx.at_ rfl (by omega) (box_ints HV0.out.r5 rfl) rfl (by omega) (box_ints HV0.out.r6 rfl)).mono ?_
  rintro e w1 ⟨rfl, h1⟩
  have HK1 := Lib.hid (HV0.out.below h1.out)
  have HB1 := Lib.hid (below_next HB0.out h1.out)
  clear HV0 HB0 h1
  have c0 := HK1.out.wx.c0
  have c1 := HK1.out.wx.c1
  have c2 := HK1.out.wx.c2
  have c3 := HK1.out.wx.c3
  have c4 := HK1.out.wx.c4
  go_wp2_with fail
  clear c0 c1 c2 c3 c4
  refine (rows_b (akW d0 d1 d2 d3) w1 HK1.out.wx.at_).mono ?_
  rintro e w2 ⟨A, n, c, l, he, h2⟩
  have hw : Rt.worldE (akW d0 d1 d2 d3).N (akW d0 d1 d2 d3).D (akW d0 d1 d2 d3).T (akW d0 d1 d2 d3).os (akW d0 d1 d2 d3).ts = 0 := ak_w
  rw [hw] at he h2
  subst he
  have HROW : Hid (RowsAt w2 A l ∧ sts l = [[7, 8]] ∧ l.length = n) := ⟨h2.out.2.2.2.1.at', (h2.out.2.2.2.2.1 rfl).uniq ak_w ak_rows, h2.out.2.1⟩
  have HK2 := Lib.hid (HK1.out.below h2.out.1)
  have HB2 := Lib.hid (below_next HB1.out h2.out.1)
  have hn1 : n = 1 := by rw [← HROW.out.2.2, ← sts_len, HROW.out.2.1]; rfl
  subst hn1
  clear HK1 HB1 h2
  have c0 := HK2.out.wx.c0
  have c1 := HK2.out.wx.c1
  have c2 := HK2.out.wx.c2
  have c3 := HK2.out.wx.c3
  have c4 := HK2.out.wx.c4
  go_wp2_with fail
  clear c0 c1 c2 c3 c4
  refine (build_b (akW d0 d1 d2 d3) w2 HK2.out.wx.at_).mono ?_
  rintro e w3 ⟨p, he, h3⟩
  rw [hw] at he h3
  subst he
  have HPA := Lib.hid h3.out.2.1
  have HRO : Hid (ros p.rs = [⟨3, [7, 8]⟩]) := (h3.out.2.2.1 rfl).1.uniq ak_w ak_plan
  have HUS : Hid (p.us = []) := by
    have h := (h3.out.2.2.1 rfl).2
    rw [HRO.out] at h
    exact h.trans ak_rest
  have HK3 := Lib.hid (HK2.out.below h3.out.1)
  have HB3 := Lib.hid (below_next HB2.out h3.out.1)
  have HROW3 : Hid (RowsAt w3 A l) := HROW.out.1.below h3.out.1
  have HSTS := Lib.hid HROW.out.2.1
  have HLN := Lib.hid HROW.out.2.2
  clear HK2 HB2 h3 hw HROW
  obtain ⟨rA, rm, rc, rs, uA, um, uc, us⟩ := p
  have hrl : rs.length = rm := HPA.out.rl
  have hul : us.length = um := HPA.out.ul
  have hrm : rm = 1 := by
    have h2 : (ros rs).length = 1 := by rw [show ros rs = _ from HRO.out]; rfl
    rw [ros_len] at h2
    omega
  have hum : um = 0 := by
    rw [show us = [] from HUS.out] at hul
    exact hul.symm
  subst hrm hum
  have hr0 : ∃ ad, rA = some ad ∧ w3.cell? ad = some (.int .i64 3) := by
    obtain ⟨r, hr⟩ := mlist_at rs 0 (by omega)
    obtain ⟨ad, e, hc, _⟩ := HPA.out.at_ hr
    have htr : r.tr = 3 := by
      have h1 := ros_at hr
      rw [show ros rs = _ from HRO.out] at h1
      have h2 : (⟨3, [7, 8]⟩ : Pl.Ro) = r.ro := Option.some.inj h1
      injection h2 with h2 _
      exact h2.symm
    have h0 := hc.c0
    rw [Nat.zero_mul, add_zero', htr] at h0
    exact ⟨ad, e, h0⟩
  obtain ⟨ad, rfl, hc3⟩ := hr0
  have HC3 := Lib.hid hc3
  clear hc3 HPA HRO HUS hrl hul
  have HPB : Hid (Box (w3.alloc (.cells #[.slice (some ad) 1 rc, .slice uA 0 uc] 40)) w3.heap.size #[.slice (some ad) 1 rc, .slice uA 0 uc] 40) := Box.new _ _ _
  have HK4 := Lib.hid (HK3.out.below (below_alloc w3 (.cells #[.slice (some ad) 1 rc, .slice uA 0 uc] 40)))
  have HB4 := Lib.hid (below_more HB3.out (.cells #[.slice (some ad) 1 rc, .slice uA 0 uc] 40))
  have HROW4 := Lib.hid (HROW3.out.below (below_alloc w3 (.cells #[.slice (some ad) 1 rc, .slice uA 0 uc] 40)))
  have HC4 : Hid ((w3.alloc (.cells #[.slice (some ad) 1 rc, .slice uA 0 uc] 40)).cell? ad = some (.int .i64 3)) := by unfold Hid; rw [(below_alloc w3 _).cell (p := ad) (lt_of_cell HC3.out)]; exact HC3.out
  clear HK3 HB3 HROW3 HC3
  have c0 := HK4.out.wx.c0
  have c1 := HK4.out.wx.c1
  have c2 := HK4.out.wx.c2
  have c3 := HK4.out.wx.c3
  have c4 := HK4.out.wx.c4
  go_wp2_with fail
  clear c0 c1 c2 c3 c4
  have HSZ4 : Hid ((w3.alloc (.cells #[.slice (some ad) 1 rc, .slice uA 0 uc] 40)).heap.size = w3.heap.size + 1) := by unfold Hid; simp
  generalize w3.alloc (.cells #[.slice (some ad) 1 rc, .slice uA 0 uc] 40) = w4 at *
  generalize w3.heap.size + 1 = s4 at *
  generalize w3.heap.size = dp at *
  have HK5 := Lib.hid (HK4.out.below (below_alloc w4 (.cells #[.int .i64 8] 3)))
  have hi8 : IntsAt (w4.alloc (.cells #[.int .i64 8] 3)) (some ⟨s4, 0, none⟩) [8] := by have h := one_int w4 8; rwa [HSZ4.out] at h
  refine (saved_b (akW d0 d1 d2 d3) none 0 0 [] (some ⟨s4, 0, none⟩) 1 1 [8] (w4.alloc (.cells #[.int .i64 8] 3)) (0, 2) ak_n HK5.out.wx.at_ rfl (by omega) (IntsAt.nil _ _) rfl (by omega) hi8).mono ?_
  rintro e w6 ⟨rfl, h6⟩
  have HV46 : Hid (Below w4.heap.size w4 w6) := below_next (below_alloc w4 _) h6.out
  have HB6 := Lib.hid (below_next HB4.out HV46.out)
  have HROW6 := Lib.hid (HROW4.out.below HV46.out)
  have HPB6 := Lib.hid (HPB.out.below HV46.out)
  have HC6 : Hid (w6.cell? ad = some (.int .i64 3)) := by unfold Hid; rw [HV46.out.cell (p := ad) (lt_of_cell HC4.out)]; exact HC4.out
  clear HK4 HB4 HROW4 HPB HC4 HK5 h6 HV46 hi8 HSZ4
  go_wp2_with fail
  refine (build_b akV w6 (akV_at w6)).mono ?_
  rintro e w7 ⟨p, he, h7⟩
  have hv : Rt.worldE akV.N akV.D akV.T akV.os akV.ts = 1 := ak_v
  rw [hv] at he
  subst he
  have HV67 := Lib.hid h7.out.1
  clear h7 hv
  obtain ⟨rA2, rm2, rc2, rs2, uA2, um2, uc2, us2⟩ := p
  simp only at *
  have HV68 : Hid (Below w6.heap.size w6 (w7.alloc (.cells #[.slice rA2 rm2 rc2, .slice uA2 um2 uc2] 40))) := below_more HV67.out _
  have HB8 := Lib.hid (below_next HB6.out HV68.out)
  have HROW8 := Lib.hid (HROW6.out.below HV68.out)
  have HPB8 := Lib.hid (HPB6.out.below HV68.out)
  have HC8 : Hid ((w7.alloc (.cells #[.slice rA2 rm2 rc2, .slice uA2 um2 uc2] 40)).cell? ad = some (.int .i64 3)) := by unfold Hid; rw [HV68.out.cell (p := ad) (lt_of_cell HC6.out)]; exact HC6.out
  clear HB6 HROW6 HPB6 HC6 HV67 HV68
  have HSZ8 : Hid ((w7.alloc (.cells #[.slice rA2 rm2 rc2, .slice uA2 um2 uc2] 40)).heap.size = w7.heap.size + 1) := by unfold Hid; simp
  go_wp2_with fail
  generalize w7.alloc (.cells #[.slice rA2 rm2 rc2, .slice uA2 um2 uc2] 40) = w8 at *
  generalize w7.heap.size + 1 = s8 at *
  have HV9 : Hid (Below w8.heap.size w8 ((w8.alloc (.cells #[.int .i64 7, .int .i64 8] 3)).alloc (.cells #[.slice (some ⟨s8, 0, none⟩) 2 2] 29))) := below_more (below_alloc _ _) _
  have HR9 : Hid (RowsAt ((w8.alloc (.cells #[.int .i64 7, .int .i64 8] 3)).alloc (.cells #[.slice (some ⟨s8, 0, none⟩) 2 2] 29)) (some ⟨s8 + 1, 0, none⟩) [⟨some ⟨s8, 0, none⟩, 2, 2, [7, 8]⟩]) := fun k r hk => by
    have hk0 : k = 0 := by have := (List.getElem?_eq_some_iff.1 hk).1; simp at this; exact this
    subst hk0
    obtain rfl : (⟨some ⟨s8, 0, none⟩, 2, 2, [7, 8]⟩ : Rw) = r := by simpa using hk
    have hb1 : Box ((w8.alloc (.cells #[.int .i64 7, .int .i64 8] 3)).alloc (.cells #[.slice (some ⟨s8, 0, none⟩) 2 2] 29)) (s8 + 1) #[.slice (some ⟨s8, 0, none⟩) 2 2] 29 := box_new_at _ _ _ _ (by have := HSZ8.out; simp; omega)
    refine ⟨_, rfl, ?_, rfl, by show (2 : Nat) ≤ 1000; omega, ?_⟩
    · rw [add_zero']; exact hb1.cell 0 _ rfl
    · exact (show IntsAt (w8.alloc (.cells #[.int .i64 7, .int .i64 8] 3)) (some ⟨s8, 0, none⟩) [7, 8] by have h := box_row2 w8 7 8 3; rwa [HSZ8.out] at h).below (below_alloc _ _)
  have HRO := Lib.hid (rowed_b A (some ⟨s8 + 1, 0, none⟩) 1 c 1 1 l [⟨some ⟨s8, 0, none⟩, 2, 2, [7, 8]⟩] _ HLN.out rfl (by omega) (HROW8.out.below HV9.out) HR9.out (by rw [HSTS.out]; rfl))
  have HB9 := Lib.hid (below_next HB8.out HV9.out)
  have HPB9 := Lib.hid (HPB8.out.below HV9.out)
  have HC9 : Hid (((w8.alloc (.cells #[.int .i64 7, .int .i64 8] 3)).alloc (.cells #[.slice (some ⟨s8, 0, none⟩) 2 2] 29)).cell? ad = some (.int .i64 3)) := by unfold Hid; rw [HV9.out.cell (p := ad) (lt_of_cell HC8.out)]; exact HC8.out
  clear HB8 HROW8 HPB8 HC8 HR9 HLN HSTS HV9 HSZ8
  with_reducible refine HRO.out.mono ?_
  rintro e w10 ⟨rfl, q, rfl⟩
  have HB10 := Lib.hid (below_next HB9.out (drewN_below _ q))
  have HPB10 := Lib.hid (HPB9.out.below (drewN_below _ q))
  have hc10 : (((w8.alloc (.cells #[.int .i64 7, .int .i64 8] 3)).alloc (.cells #[.slice (some ⟨s8, 0, none⟩) 2 2] 29)).drewN q).cell? ad = some (.int .i64 3) := by simpa using HC9.out
  clear HRO HB9 HPB9 HC9
  generalize ((w8.alloc (.cells #[.int .i64 7, .int .i64 8] 3)).alloc (.cells #[.slice (some ⟨s8, 0, none⟩) 2 2] 29)).drewN q = w10 at *
  have p0 := HPB10.out.cell 0 _ rfl
  have p1 := HPB10.out.cell 1 _ rfl
  go_wp2
  go_ret
  exact ⟨rfl, HB10.out⟩
end Go.Proofs.YtjidelfpmlnhkaaGreat
