/- Contracts of package plan: tripCosts, Rest. -/
import Derived.Test.YtbacakblboodeaaPlanA
namespace Go.Proofs.Ytbacakblboodeaa
open Go.RowKit
set_option linter.unusedVariables false
set_option maxRecDepth 100000

/-- the boxes of a world and of a plan -/
structure WPB (V : World) (b1 b2 : Nat) (x : Wd) (p : Pd) : Prop where
  w : WX V b1 x
  p : PX V b2 p
theorem WPB.below {V V' : World} {b1 b2 : Nat} {x : Wd} {p : Pd} (h : WPB V b1 b2 x p) (hb : Below V.heap.size V V') : WPB V' b1 b2 x p := ⟨h.w.below hb, h.p.below hb⟩
theorem WPB.new {w : World} {x : Wd} {p : Pd} (hx : WAt w x) (hp : PAt w p) :
    WPB ((w.alloc (.cells #[.int .i64 x.N, .slice x.dA x.dm x.dc, .slice x.tA x.tm x.tc, .slice x.A x.m x.c, .slice x.B x.k x.d] 28)).alloc (.cells #[.slice p.rA p.rm p.rc, .slice p.uA p.um p.uc] 45)) w.heap.size (w.heap.size + 1) x p := by
  refine ⟨(WX.new hx).below (below_alloc _ _), ?_⟩
  rw [size_one w (.cells #[.int .i64 x.N, .slice x.dA x.dm x.dc, .slice x.tA x.tm x.tc, .slice x.A x.m x.c, .slice x.B x.k x.d] 28)]
  exact PX.new (hp.below (below_alloc _ _))

/-- what a call that tells the costs of trips leaves -/
def CostsPost (w : World) (f : Pl.Ro → Rt.R) (rs : List Pl.Ro) (e : Ending) (w' : World) : Prop :=
  ∃ A m c, e = .returned (.tuple #[.slice A m c, .int .i64 (Pl.tripE f rs)]) ∧ Hid (Below w.heap.size w w' ∧ (Pl.tripE f rs = 0 → IntsAt w' A (Pl.costs f rs) ∧ m = rs.length))

set_option maxHeartbeats 4000000 in
theorem tripCosts_b (x : Wd) (p : Pd) (w : World) (hx : WAt w x) (hp : PAt w p) :
    Calls Try.prog 37 #[.agg #[.int .i64 x.N, .slice x.dA x.dm x.dc, .slice x.tA x.tm x.tc, .slice x.A x.m x.c, .slice x.B x.k x.d], .agg #[.slice p.rA p.rm p.rc, .slice p.uA p.um p.uc]] w (CostsPost w (Pl.run x.N x.D x.T x.os x.ts) (ros p.rs)) := by
  have HX := Lib.hid (WPB.new hx hp)
  have HB0 : Hid (Below w.heap.size w ((w.alloc (.cells #[.int .i64 x.N, .slice x.dA x.dm x.dc, .slice x.tA x.tm x.tc, .slice x.A x.m x.c, .slice x.B x.k x.d] 28)).alloc (.cells #[.slice p.rA p.rm p.rc, .slice p.uA p.um p.uc] 45))) := below_more (below_alloc _ _) _
  have hrm := hp.r2
  obtain ⟨f, hf⟩ : ∃ f, Pl.run x.N x.D x.T x.os x.ts = f := ⟨_, rfl⟩
  have HF := Lib.hid hf
  rw [hf]
  clear hf
  have hmk : ∀ W : World, (Instr.makeSlice 22 (.int .i64 (p.rm : Int)) (.int .i64 (p.rm : Int))).run Try.prog W = .ok (.slice (some ⟨W.heap.size, 0, none⟩) p.rm p.rm) (W.alloc (.cells (Array.replicate p.rm (Value.int .i64 0)) 2)) := make_nums2 p.rm (by omega)
  have HLT : Hid ((Pl.costs f (ros p.rs)).length = p.rm) := by show (List.map _ (List.map _ _)).length = _; rw [List.length_map, List.length_map]; exact hp.rl
  clear hp hx
  go_enter Try.func37, Try.ntmps37
  have x0 := HX.out.p.c0
  have HSZ : Hid (w.heap.size + 1 + 1 = ((w.alloc (.cells #[.int .i64 x.N, .slice x.dA x.dm x.dc, .slice x.tA x.tm x.tc, .slice x.A x.m x.c, .slice x.B x.k x.d] 28)).alloc (.cells #[.slice p.rA p.rm p.rc, .slice p.uA p.um p.uc] 45)).heap.size) := by unfold Hid; simp
  have x0' : (((w.alloc (.cells #[.int .i64 x.N, .slice x.dA x.dm x.dc, .slice x.tA x.tm x.tc, .slice x.A x.m x.c, .slice x.B x.k x.d] 28)).alloc (.cells #[.slice p.rA p.rm p.rc, .slice p.uA p.um p.uc] 45)).alloc (.cells (Array.replicate p.rm (Value.int .i64 0)) 2)).cell? ⟨w.heap.size + 1, 0, none⟩ = some (.slice p.rA p.rm p.rc) := (HX.out.below (below_alloc _ _)).p.c0
  go_wp2_with fail
  generalize (w.alloc (.cells #[.int .i64 x.N, .slice x.dA x.dm x.dc, .slice x.tA x.tm x.tc, .slice x.A x.m x.c, .slice x.B x.k x.d] 28)).alloc (.cells #[.slice p.rA p.rm p.rc, .slice p.uA p.um p.uc] 45) = V at *
  generalize w.heap.size + 1 + 1 = g at *
  generalize w.heap.size + 1 = b2 at *
  generalize hb1 : w.heap.size = b1 at HX ⊢
  clear hb1
  have HS0 : Hid (Below g V (V.alloc (.cells (Array.replicate p.rm (Value.int .i64 0)) 2)) ∧ Nums (V.alloc (.cells (Array.replicate p.rm (Value.int .i64 0)) 2)) g (filled (Pl.costs f (ros p.rs)) p.rm 0)) := by
    rw [HSZ.out]
    refine ⟨below_alloc _ _, ?_⟩
    rw [filled_none]; unfold Nums; rw [arr_zeros]
    exact Box.new _ _ _
  generalize V.alloc (.cells (Array.replicate p.rm (Value.int .i64 0)) 2) = V1 at *
  clear x0 x0' hmk
  go_loopg [18] p.rm (fun gk s18 W => ∃ (k : Nat) (W0 : World), W0 = W ∧ k + gk = p.rm ∧ s18 = .int .i64 k ∧ Hid (Below g V W0) ∧ Hid (Nums W0 g (filled (Pl.costs f (ros p.rs)) p.rm k)) ∧ Hid (∀ (j : Nat) (s : Pl.Ro), j < k → (ros p.rs)[j]? = some s → (f s).e = 0))
  case atStart => exact ⟨0, _, rfl, by omega, rfl, HS0.out.1, HS0.out.2, fun j s hj => by omega⟩
  case round =>
    obtain ⟨k, W0, rfl, hkg, rfl, HK, HO, HE⟩ := hrel
    have HK' : Hid (Below V.heap.size V W0) := by rw [← HSZ.out]; exact HK.out
    by_cases hlt : k < p.rm
    · obtain ⟨gk, rfl⟩ : ∃ j, gk = j + 1 := ⟨gk - 1, by omega⟩
      obtain ⟨r, hr⟩ := mlist_at p.rs k (by rw [HX.out.p.at_.rl]; exact hlt)
      have HX0 := Lib.hid (HX.out.below HK'.out)
      obtain ⟨ad, hrA, hc, hra⟩ := HX0.out.p.at_.at_ hr
      obtain ⟨c0, c1⟩ := hc
      have i2 : (k : Int) < (p.rm : Int) := by omega
      have HR := Lib.hid (ros_at hr)
      have HX1 := Lib.hid (HX0.out.below (below_alloc W0 (.cells #[.int .i64 r.tr, .slice r.sA r.sm r.sc] 78)))
      have x0 := HX1.out.w.c0
      have x1 := HX1.out.w.c1
      have x2 := HX1.out.w.c2
      have x3 := HX1.out.w.c3
      have x4 := HX1.out.w.c4
      obtain ⟨res, hres⟩ : ∃ z, f r.ro = z := ⟨_, rfl⟩
      have HRES := Lib.hid hres
      have HC := Lib.hid (run_b x r (W0.alloc (.cells #[.int .i64 r.tr, .slice r.sA r.sm r.sc] 78)) res (by rw [← HF.out] at hres; exact hres) HX1.out.w.at_ (hra.below (below_alloc _ _)))
      have HBW := Lib.hid (Below.alloc HK.out (by rw [HSZ.out]; exact HK'.out.size) (.cells #[.int .i64 r.tr, .slice r.sA r.sm r.sc] 78))
      have HN2 := Lib.hid (Box.below HO.out (below_alloc W0 (.cells #[.int .i64 r.tr, .slice r.sA r.sm r.sc] 78)))
      have HRA := Lib.hid hrA
      clear hr hra hrA hres
      generalize p.rA = rA at *
      obtain rfl := HRA.out
      go_wp2_with fail
      with_reducible refine HC.out.mono ?_
      rintro e w2 ⟨A2, c2, rfl, h2⟩
      clear x0 x1 x2 x3 x4 c0 c1 HC
      have HGS : Hid (g ≤ (W0.alloc (.cells #[.int .i64 r.tr, .slice r.sA r.sm r.sc] 78)).heap.size) := by unfold Hid; rw [HSZ.out]; exact Nat.le_trans HK'.out.size (below_alloc _ _).size
      have HB2 : Hid (Below g V w2) := HBW.out.trans (h2.out.1.mono HGS.out)
      have HN3 := Lib.hid (Box.below HN2.out h2.out.1)
      have HG2 : Hid (g ≤ w2.heap.size) := Nat.le_trans HGS.out h2.out.1.size
      by_cases he : res.e = 0
      · have e1 : (res.e != (0 : Int)) = false := by rw [he]; decide
        have HE2 : Hid (∀ (j : Nat) (s : Pl.Ro), j < k + 1 → (ros p.rs)[j]? = some s → (f s).e = 0) := fun j s hj hs => by
          by_cases h : j < k
          · exact HE.out j s h hs
          · obtain rfl : j = k := by omega
            rw [HR.out] at hs
            obtain rfl := Option.some.inj hs
            rw [HRES.out]
            exact he
        have HSET : Hid ((filled (Pl.costs f (ros p.rs)) p.rm k).set k res.cost = filled (Pl.costs f (ros p.rs)) p.rm (k + 1)) := filled_set _ _ _ _ HLT.out (by show (List.map _ _)[k]? = _; rw [List.getElem?_map, HR.out]; show some (f r.ro).cost = _; rw [HRES.out])
        clear he
        generalize res.vs.length = vn at *
        have HN4 := Lib.hid (Box.below HN3.out (below_alloc w2 (.cells #[.slice A2 vn c2, .int .i64 res.back, .int .i64 res.dist, .int .i64 res.cost] 94)))
        obtain ⟨z, z0⟩ := Nums.cellAt HN4.out (k := k) (by rw [filled_len _ _ _ HLT.out (by omega)]; exact hlt)
        have z1 := Nums.fz HN4.out k
        have HB4 := Lib.hid (Below.alloc HB2.out HG2.out (.cells #[.slice A2 vn c2, .int .i64 res.back, .int .i64 res.dist, .int .i64 res.cost] 94))
        go_wp2_with fail
        go_roundg gk
        case measure => omega
        case rel => exact ⟨k + 1, _, rfl, by omega, by first | rfl | go_num, HB4.out.setCell (p := ⟨g, k, none⟩) (Nat.le_refl _) _, by rw [← HSET.out]; exact Nums.set HN4.out k _, HE2.out⟩
      · have e1 : (res.e != (0 : Int)) = true := bne_iff_ne.2 he
        have HT : Hid (Pl.tripE f (ros p.rs) = res.e) := by
          have := Pl.trip_first HR.out HE.out (by rw [HRES.out]; exact he)
          rw [HRES.out] at this
          exact this
        have HT0 := Lib.hid he
        clear he
        generalize res.vs.length = vn at *
        have HB4 := Lib.hid (Below.alloc HB2.out HG2.out (.cells #[.slice A2 vn c2, .int .i64 res.back, .int .i64 res.dist, .int .i64 res.cost] 94))
        go_wp2_with fail
        go_ret2
        refine ⟨none, 0, 0, by rw [HT.out]; rfl, below_next HB0.out (by rw [← HSZ.out]; exact HB4.out), fun h => absurd ?_ HT0.out⟩
        rw [← HT.out]; exact h
    · have hk : k = p.rm := by omega
      subst hk
      have HT : Hid (Pl.tripE f (ros p.rs) = 0) := Pl.trip_all fun j s hs => HE.out j s (by have := (List.getElem?_eq_some_iff.1 hs).1; rw [ros_len, HX.out.p.at_.rl] at this; exact this) hs
      have HO2 := HO.out
      rw [filled_all _ _ HLT.out] at HO2
      have HO3 := Lib.hid HO2
      clear HO2
      go_wp2_with fail
      go_ret2
      exact ⟨some ⟨g, 0, none⟩, p.rm, p.rm, by rw [HT.out]; rfl, below_next HB0.out HK'.out, fun _ => ⟨HO3.out.ints, by rw [ros_len]; exact HX.out.p.at_.rl.symm⟩⟩

theorem one_int (W : World) (z : Int) : IntsAt (W.alloc (.cells #[.int .i64 z] 3)) (some ⟨W.heap.size, 0, none⟩) [z] := box_ints (Box.new _ _ _) rfl

set_option maxHeartbeats 4000000 in
theorem rest_b (x : Wd) (p : Pd) (w : World) (hx : WAt w x) (hp : PAt w p) :
    Calls Try.prog 40 #[.agg #[.int .i64 x.N, .slice x.dA x.dm x.dc, .slice x.tA x.tm x.tc, .slice x.A x.m x.c, .slice x.B x.k x.d], .agg #[.slice p.rA p.rm p.rc, .slice p.uA p.um p.uc]] w (NewI w (Pl.restS x.os (ros p.rs))) := by
  have HX := Lib.hid (WPB.new hx hp)
  have HB0 : Hid (Below w.heap.size w ((w.alloc (.cells #[.int .i64 x.N, .slice x.dA x.dm x.dc, .slice x.tA x.tm x.tc, .slice x.A x.m x.c, .slice x.B x.k x.d] 28)).alloc (.cells #[.slice p.rA p.rm p.rc, .slice p.uA p.um p.uc] 45))) := below_more (below_alloc _ _) _
  have hxm := hx.m2
  have HXM := Lib.hid hx.ml
  have HTOT : Hid ((Pl.servedS (ros p.rs)).length ≤ 10000) := by unfold Hid Pl.servedS; rw [Pl.srt_len]; exact hp.tot
  clear hp hx
  go_enter Try.func40, Try.ntmps40
  have x0 := HX.out.p.c0
  have x1 := HX.out.p.c1
  go_wp2_with fail
  generalize (w.alloc (.cells #[.int .i64 x.N, .slice x.dA x.dm x.dc, .slice x.tA x.tm x.tc, .slice x.A x.m x.c, .slice x.B x.k x.d] 28)).alloc (.cells #[.slice p.rA p.rm p.rc, .slice p.uA p.um p.uc] 45) = V at *
  generalize w.heap.size + 1 = b2 at *
  generalize hb1 : w.heap.size = b1 at HX ⊢
  clear hb1
  have HC := Lib.hid (served_b p V HX.out.p.at_)
  with_reducible refine HC.out.mono ?_
  rintro e V2 ⟨As, cs, rfl, hcs, hs⟩
  clear x0 x1 HC hcs
  have HB2 := Lib.hid (below_next HB0.out hs.out.1)
  have HX2 := Lib.hid (HX.out.below hs.out.1)
  have HS := Lib.hid hs.out.2.1
  have HSP : Hid (∀ ad, As = some ad → ad.spot = none) := fun ad e => (hs.out.2.2 ad e).2
  clear hs HX HB0
  obtain ⟨sv, hsv⟩ : ∃ s, Pl.servedS (ros p.rs) = s := ⟨_, rfl⟩
  have HSV := Lib.hid hsv
  have HSO : Hid (sv.Pairwise (· ≤ ·)) := by rw [← HSV.out]; exact Pl.srt_sorted _
  rw [hsv] at HS HTOT ⊢
  clear hsv
  obtain ⟨ns, hns⟩ : ∃ n, sv.length = n := ⟨_, rfl⟩
  have HNS := Lib.hid hns
  rw [hns] at HTOT ⊢
  clear hns
  have x3 := HX2.out.w.c3
  have HGL : Hid (V2.heap.size ≤ V2.heap.size) := Nat.le_refl _
  go_wp2_with fail
  obtain ⟨g, hg⟩ : ∃ g, g = V2.heap.size := ⟨_, rfl⟩
  have HGE := Lib.hid hg
  clear hg x3
  go_loopg [6, 16] x.m (fun gk s6 s16 W => ∃ (k m c : Nat) (A : Option Addr) (W0 : World), W0 = W ∧ k + gk = x.m ∧ s6 = .slice A m c ∧ s16 = .int .i64 k ∧ Hid (Below V2.heap.size V2 W0 ∧ g ≤ W0.heap.size) ∧ Hid (OwnI W0 g (.slice A m c) (Pl.restL (x.os.take k) (ros p.rs))))
  case atStart => exact ⟨0, 0, 0, none, _, rfl, by omega, rfl, rfl, ⟨Below.refl _ _, by rw [HGE.out]; exact Nat.le_refl _⟩, ownI_nil _ _⟩
  case round =>
    obtain ⟨k, m, c, A, W0, rfl, hkg, rfl, rfl, HK, HO⟩ := hrel
    by_cases hlt : k < x.m
    · obtain ⟨gk, rfl⟩ : ∃ j, gk = j + 1 := ⟨gk - 1, by omega⟩
      obtain ⟨o, ho⟩ := mlist_at x.os k (by rw [HXM.out]; exact hlt)
      have HX0 := Lib.hid (HX2.out.below HK.out.1)
      obtain ⟨ad, hA, hc⟩ := HX0.out.w.at_.os.at_ ho
      obtain ⟨c0, c1, c2, c3, c4, c5, c6, c7⟩ := hc
      obtain ⟨a0, a1, a2, a3, a4, a5, a6, a7⟩ := o
      simp only at c0 c1 c2 c3 c4 c5 c6 c7
      have i2 : (k : Int) < (x.m : Int) := by omega
      have HOK := Lib.hid ho
      obtain ⟨r, hr⟩ : ∃ r, Pl.outB sv a0 = r := ⟨_, rfl⟩
      have HR := Lib.hid hr
      have HBX := Lib.hid (Box.new W0 #[.int .i64 a0, .int .i64 a1, .int .i64 a2, .int .i64 a3, .int .i64 a4, .int .i64 a5, .int .i64 a6, .int .i64 a7] 57)
      have HB3 := Lib.hid (Below.alloc HK.out.1 HK.out.1.size (.cells #[.int .i64 a0, .int .i64 a1, .int .i64 a2, .int .i64 a3, .int .i64 a4, .int .i64 a5, .int .i64 a6, .int .i64 a7] 57))
      have HC := Lib.hid (search_b As ns cs sv a0 (W0.alloc (.cells #[.int .i64 a0, .int .i64 a1, .int .i64 a2, .int .i64 a3, .int .i64 a4, .int .i64 a5, .int .i64 a6, .int .i64 a7] 57)) r hr HNS.out (HS.out.below HB3.out) HSP.out HSO.out (by have := HTOT.out; omega))
      have HO3 := Lib.hid (HO.out.below (below_alloc W0 (.cells #[.int .i64 a0, .int .i64 a1, .int .i64 a2, .int .i64 a3, .int .i64 a4, .int .i64 a5, .int .i64 a6, .int .i64 a7] 57)))
      have HG3 : Hid (g ≤ (W0.alloc (.cells #[.int .i64 a0, .int .i64 a1, .int .i64 a2, .int .i64 a3, .int .i64 a4, .int .i64 a5, .int .i64 a6, .int .i64 a7] 57)).heap.size) := Nat.le_trans HK.out.2 (below_alloc W0 _).size
      have HRA := Lib.hid hA
      clear ho hA hr
      generalize x.A = oA at *
      obtain rfl := HRA.out
      cases r with
      | false =>
        have HNX : Hid (Pl.restL (x.os.take (k + 1)) (ros p.rs) = Pl.restL (x.os.take k) (ros p.rs)) := Pl.restL_take_out HOK.out (by rw [HSV.out]; exact HR.out)
        go_wp2_with fail
        with_reducible refine HC.out.mono ?_
        rintro e w2 ⟨q, rfl, h2⟩
        go_wp2
        go_roundg gk
        case measure => omega
        case rel => exact ⟨k + 1, m, c, A, _, rfl, by omega, rfl, by first | rfl | go_num, ⟨below_next HB3.out h2.out, Nat.le_trans HG3.out h2.out.size⟩, by rw [HNX.out]; exact HO3.out.below h2.out⟩
      | true =>
        have HNX : Hid (Pl.restL (x.os.take (k + 1)) (ros p.rs) = Pl.restL (x.os.take k) (ros p.rs) ++ [a0]) := Pl.restL_take_in HOK.out (by rw [HSV.out]; exact HR.out)
        go_wp2_with fail
        with_reducible refine HC.out.mono ?_
        rintro e w2 ⟨q, rfl, h2⟩
        have HB4 := Lib.hid (below_more (below_next HB3.out h2.out) (.cells #[.int .i64 a0] 3))
        have HO4 := Lib.hid ((HO3.out.below h2.out).below (below_alloc w2 (.cells #[.int .i64 a0] 3)))
        have HG4 : Hid (g ≤ (w2.alloc (.cells #[.int .i64 a0] 3)).heap.size) := Nat.le_trans HG3.out (Nat.le_trans h2.out.size (below_alloc w2 _).size)
        have y0 : w2.cell? ⟨W0.heap.size, 0, none⟩ = some (.int .i64 a0) := (HBX.out.below h2.out).cell 0 _ rfl
        obtain ⟨M, hM⟩ : ∃ M, (Pl.restL (x.os.take k) (ros p.rs) ++ [a0]).length = M := ⟨_, rfl⟩
        have HA := Lib.hid (owni_next (w := V2) HB4.out (by rw [HGE.out]; exact Nat.le_refl _) HG4.out HO4.out (some ⟨w2.heap.size, 0, none⟩) 1 1 [a0] rfl (one_int w2 a0) (by have := Pl.restL_len (x.os.take k) (ros p.rs); have h3 : (x.os.take k).length ≤ x.os.length := List.length_take_le' _ _; rw [HXM.out] at h3; omega) M hM)
        clear hM
        go_wp2_with (at_builtin; refine wpList_append_any rfl (.tmp 29) (.tmp 32) 29 29 rfl _ _ rfl rfl _ HA.out ?_; intro v5 w5 hap; obtain ⟨A5, c5, rfl, HAP⟩ := hap)
        go_roundg gk
        case measure => omega
        case rel => exact ⟨k + 1, M, c5, A5, _, rfl, by omega, rfl, by first | rfl | go_num, ⟨HAP.out.2.1, HAP.out.2.2.1⟩, by rw [HNX.out]; exact HAP.out.1⟩
    · have HALL : Hid (x.os.take k = x.os) := List.take_of_length_le (by rw [HXM.out]; omega)
      have hm : m ≤ 100000 := by
        obtain ⟨A', c', e, _⟩ := HO.out.ints
        injection e with _ e2 _
        have := Pl.restL_len (x.os.take k) (ros p.rs)
        have h3 : (x.os.take k).length ≤ x.os.length := List.length_take_le' _ _
        rw [HXM.out] at h3
        omega
      have HC := Lib.hid (sort_own A m c _ W0 g HO.out HK.out.2 hm)
      go_wp2_with fail
      with_reducible refine HC.out.mono ?_
      rintro e w2 ⟨rfl, h2⟩
      go_wp2
      go_ret
      exact newi_sorted (by rw [HGE.out]; exact HB2.out.size) (below_next HB2.out HK.out.1) (by rw [HALL.out]; rfl) h2.out
end Go.Proofs.Ytbacakblboodeaa
