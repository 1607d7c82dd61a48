/- The document's answer for plans: Served, Rest. -/
import Derived.Test.YtgjmlnpfkmpfgaaGreatPlanR1
import Derived.Test.YtgjmlnpfkmpfgaaGreatPlanAB
namespace Go.Proofs.YtgjmlnpfkmpfgaaGreat
open Go.RowKit
set_option linter.unusedVariables false
set_option maxRecDepth 100000

/-- a plan's box, and a row that grows -/
theorem box_below {w : World} {o : Obj} : Hid (OwnI ((w.alloc o).alloc (.cells #[] 3)) (w.heap.size + 1) (.slice (some ⟨w.heap.size + 1, 0, none⟩) 0 0) []) := by
  rw [size_one w o]
  exact own_none _ _ (Nat.le_refl _)

set_option maxHeartbeats 4000000 in
theorem dserved_b (p : Pd) (w : World) (hp : PAt w p) :
    Calls Tryz.prog 53 #[.agg #[.slice p.rA p.rm p.rc, .slice p.uA p.um p.uc]] w (NewI w (Pl.servedS (ros p.rs))) := by
  have HP := Lib.hid hp
  have HX : Hid (Box ((w.alloc (.cells #[.slice p.rA p.rm p.rc, .slice p.uA p.um p.uc] 32)).alloc (.cells #[] 3)) w.heap.size p.cells 32) := (Box.new w _ _).below (below_alloc _ _)
  have HB0 : Hid (Below w.heap.size w ((w.alloc (.cells #[.slice p.rA p.rm p.rc, .slice p.uA p.um p.uc] 32)).alloc (.cells #[] 3))) := below_more (below_alloc _ _) _
  have HG : Hid (w.heap.size ≤ w.heap.size + 1) := by unfold Hid; omega
  have HGW : Hid (w.heap.size + 1 ≤ ((w.alloc (.cells #[.slice p.rA p.rm p.rc, .slice p.uA p.um p.uc] 32)).alloc (.cells #[] 3)).heap.size) := by unfold Hid; simp
  have HO0 : Hid (OwnI ((w.alloc (.cells #[.slice p.rA p.rm p.rc, .slice p.uA p.um p.uc] 32)).alloc (.cells #[] 3)) (w.heap.size + 1) (.slice (some ⟨w.heap.size + 1, 0, none⟩) 0 0) []) := box_below
  have hrm := hp.r2
  clear hp
  go_enter Tryz.func53, Tryz.ntmps53
  go_wp2_with fail
  generalize (w.alloc (.cells #[.slice p.rA p.rm p.rc, .slice p.uA p.um p.uc] 32)).alloc (.cells #[] 3) = V at *
  obtain ⟨g, hg⟩ : ∃ g, w.heap.size + 1 = g := ⟨_, rfl⟩
  rw [hg] at HGW HO0 HG ⊢
  have HGE : Hid (w.heap.size + 1 ≤ g) := by rw [← hg]; exact Nat.le_refl _
  clear hg
  go_loopg [3, 4] p.rm (fun gk s3 s4 W => ∃ (k m c : Nat) (A : Option Addr) (W0 : World), W0 = W ∧ k + gk = p.rm ∧ s3 = .slice A m c ∧ s4 = .int .i64 k ∧ Hid (Below w.heap.size w W0 ∧ g ≤ W0.heap.size) ∧ Hid (OwnI W0 g (.slice A m c) (Pl.stops ((ros p.rs).take k))) ∧ Hid (Below g V W0))
  case atStart => exact ⟨0, 0, 0, _, _, rfl, by omega, rfl, rfl, ⟨HB0.out, HGW.out⟩, HO0.out, Below.refl _ _⟩
  case round =>
    obtain ⟨k, m, c, A, W0, rfl, hkg, rfl, rfl, HK, HO, HV⟩ := hrel
    have HXW : Hid (Box W0 w.heap.size p.cells 32) := HX.out.old HV.out (Nat.lt_of_lt_of_le (Nat.lt_succ_self _) HGE.out)
    have x0 : W0.cell? ⟨w.heap.size, 0, none⟩ = some (.slice p.rA p.rm p.rc) := HXW.out.cell 0 _ rfl
    by_cases hlt : k < p.rm
    · obtain ⟨gk, rfl⟩ : ∃ j, gk = j + 1 := ⟨gk - 1, by omega⟩
      obtain ⟨r, hr⟩ := mlist_at p.rs k (by rw [HP.out.rl]; exact hlt)
      obtain ⟨ad, hrA, hc, hra⟩ := (HP.out.below HK.out.1).at_ hr
      obtain ⟨c0, c1⟩ := hc
      have i2 : (k : Int) < (p.rm : Int) := by omega
      have HST := Lib.hid (Pl.stops_take (ros_at hr))
      have hle := Pl.stops_le (ros p.rs) (k + 1)
      have htot := HP.out.tot
      obtain ⟨M, hM⟩ : ∃ M, (Pl.stops ((ros p.rs).take k) ++ r.ro.st).length = M := ⟨_, rfl⟩
      have HA := Lib.hid (owni_next HK.out.1 HG.out HK.out.2 HO.out r.sA r.sm r.sc r.st hra.sl hra.st (by
        have e : (Pl.stops ((ros p.rs).take (k + 1))).length = (Pl.stops ((ros p.rs).take k)).length + r.sm := by rw [HST.out, List.length_append]; rw [← hra.sl]; rfl
        omega) M hM)
      have HRA := Lib.hid hrA
      clear hr hM hra hle htot hrA
      generalize p.rA = rA at *
      obtain rfl := HRA.out
      go_wp2_with (at_builtin; refine wpList_append_any rfl (.tmp 13) (.tmp 19) 30 30 rfl _ _ rfl rfl _ HA.out ?_; intro v2 w2 hap; obtain ⟨A2, c2, rfl, HAP⟩ := hap)
      go_roundg gk
      case measure => omega
      case rel => exact ⟨k + 1, M, c2, A2, _, rfl, by omega, rfl, by first | rfl | go_num, ⟨HAP.out.2.1, HAP.out.2.2.1⟩, by rw [HST.out]; exact HAP.out.1, HV.out.trans HAP.out.2.2.2⟩
    · have HALL : Hid ((ros p.rs).take k = ros p.rs) := List.take_of_length_le (by rw [ros_len, HP.out.rl]; omega)
      have hm : m ≤ 20000 ∧ (Pl.stops ((ros p.rs).take k)).length = m ∧ IntsAt W0 A (Pl.stops ((ros p.rs).take k)) := by
        obtain ⟨A', c', e, _, _, hI⟩ := HO.out.ints
        injection e with e1 e2 _
        subst e1
        have := Pl.stops_le (ros p.rs) k
        have := HP.out.tot
        exact ⟨by omega, e2.symm, hI⟩
      have HC := Lib.hid (dsorted_b A m c _ W0 hm.2.1 hm.1 hm.2.2)
      clear hm
      go_wp2_with fail
      with_reducible refine HC.out.mono ?_
      rintro e w2 ⟨A2, c2, rfl, hc2, h2⟩
      have HN := Lib.hid (NewI.old (w := w) ⟨A2, c2, rfl, hc2, h2⟩ HK.out.1)
      clear h2 hc2
      go_wp2
      go_ret
      rw [← (show Pl.srt (Pl.stops ((ros p.rs).take k)) = Pl.servedS (ros p.rs) by rw [HALL.out]; rfl)]
      exact HN.out

set_option maxHeartbeats 4000000 in
theorem drest_b (x : Wd) (p : Pd) (w : World) (hx : WAt w x) (hp : PAt w p) :
    Calls Tryz.prog 54 #[.agg #[.int .i64 x.N, .slice x.dA x.dm x.dc, .slice x.tA x.tm x.tc, .slice x.A x.m x.c, .slice x.B x.k x.d], .agg #[.slice p.rA p.rm p.rc, .slice p.uA p.um p.uc]] w (NewI w (Pl.restS x.os (ros p.rs))) := by
  have HX := Lib.hid (WPB.new hx hp)
  have HB0 : Hid (Below w.heap.size w ((w.alloc (.cells #[.int .i64 x.N, .slice x.dA x.dm x.dc, .slice x.tA x.tm x.tc, .slice x.A x.m x.c, .slice x.B x.k x.d] 28)).alloc (.cells #[.slice p.rA p.rm p.rc, .slice p.uA p.um p.uc] 32))) := below_more (below_alloc _ _) _
  have hxm := hx.m2
  have HXM := Lib.hid hx.ml
  have HTOT : Hid ((Pl.servedS (ros p.rs)).length ≤ 10000) := by unfold Hid Pl.servedS; rw [Pl.srt_len]; exact hp.tot
  clear hp hx
  go_enter Tryz.func54, Tryz.ntmps54
  have x0 := HX.out.p.c0
  have x1 := HX.out.p.c1
  go_wp2_with fail
  generalize (w.alloc (.cells #[.int .i64 x.N, .slice x.dA x.dm x.dc, .slice x.tA x.tm x.tc, .slice x.A x.m x.c, .slice x.B x.k x.d] 28)).alloc (.cells #[.slice p.rA p.rm p.rc, .slice p.uA p.um p.uc] 32) = V at *
  generalize w.heap.size + 1 = b2 at *
  generalize hb1 : w.heap.size = b1 at HX ⊢
  clear hb1
  have HC := Lib.hid (dserved_b p V HX.out.p.at_)
  with_reducible refine HC.out.mono ?_
  rintro e V2 ⟨As, cs, rfl, hcs, hs⟩
  clear x0 x1 HC hcs
  have HB2 := Lib.hid (below_next HB0.out hs.out.1)
  have HX2 := Lib.hid (HX.out.below hs.out.1)
  have HS := Lib.hid hs.out.2.1
  clear hs HX HB0
  obtain ⟨sv, hsv⟩ : ∃ s, Pl.servedS (ros p.rs) = s := ⟨_, rfl⟩
  have HSV := Lib.hid hsv
  rw [hsv] at HS HTOT ⊢
  clear hsv
  obtain ⟨ns, hns⟩ : ∃ n, sv.length = n := ⟨_, rfl⟩
  have HNS := Lib.hid hns
  rw [hns] at HTOT ⊢
  clear hns
  have HV3 : Hid (Below V2.heap.size V2 (V2.alloc (.cells #[] 3)) ∧ V2.heap.size ≤ (V2.alloc (.cells #[] 3)).heap.size) := ⟨below_alloc _ _, (below_alloc V2 _).size⟩
  have HO0 : Hid (OwnI (V2.alloc (.cells #[] 3)) V2.heap.size (.slice (some ⟨V2.heap.size, 0, none⟩) 0 0) []) := own_none V2 _ (Nat.le_refl _)
  go_wp2_with fail
  generalize V2.alloc (.cells #[] 3) = V3 at *
  go_loopg [6, 7] x.m (fun gk s6 s7 W => ∃ (k m c : Nat) (A : Option Addr) (W0 : World), W0 = W ∧ k + gk = x.m ∧ s6 = .slice A m c ∧ s7 = .int .i64 k ∧ Hid (Below V2.heap.size V2 W0 ∧ V2.heap.size ≤ W0.heap.size) ∧ Hid (OwnI W0 V2.heap.size (.slice A m c) (Pl.restL (x.os.take k) (ros p.rs))))
  case atStart => exact ⟨0, 0, 0, _, _, rfl, by omega, rfl, rfl, HV3.out, HO0.out⟩
  case round =>
    obtain ⟨k, m, c, A, W0, rfl, hkg, rfl, rfl, HK, HO⟩ := hrel
    have HX0 := Lib.hid (HX2.out.below HK.out.1)
    have x3 := HX0.out.w.c3
    by_cases hlt : k < x.m
    · obtain ⟨gk, rfl⟩ : ∃ j, gk = j + 1 := ⟨gk - 1, by omega⟩
      obtain ⟨o, ho⟩ := mlist_at x.os k (by rw [HXM.out]; exact hlt)
      obtain ⟨ad, hA, hc⟩ := HX0.out.w.at_.os.at_ ho
      have c0 := hc.c0
      obtain ⟨a0, a1, a2, a3, a4, a5, a6, a7⟩ := o
      simp only at c0
      have i2 : (k : Int) < (x.m : Int) := by omega
      have HOK := Lib.hid ho
      obtain ⟨r, hr⟩ : ∃ r, sv.contains a0 = r := ⟨_, rfl⟩
      have HR := Lib.hid hr
      have HC := Lib.hid (din_b As ns cs sv a0 W0 r hr HNS.out (by have := HTOT.out; omega) (HS.out.below HK.out.1))
      have HRA := Lib.hid hA
      clear ho hA hr hc
      cases r with
      | true =>
        have HNX : Hid (Pl.restL (x.os.take (k + 1)) (ros p.rs) = Pl.restL (x.os.take k) (ros p.rs)) := Pl.restL_take_out HOK.out (by rw [HSV.out]; unfold Pl.outB; exact congrArg Bool.not HR.out)
        generalize x.A = oA at *
        obtain rfl := HRA.out
        go_wp2_with fail
        with_reducible refine HC.out.mono ?_
        rintro e w2 ⟨rfl, rfl⟩
        go_wp2
        go_roundg gk
        case measure => omega
        case rel => exact ⟨k + 1, m, c, A, _, rfl, by omega, rfl, by first | rfl | go_num, HK.out, by rw [HNX.out]; exact HO.out⟩
      | false =>
        have HNX : Hid (Pl.restL (x.os.take (k + 1)) (ros p.rs) = Pl.restL (x.os.take k) (ros p.rs) ++ [a0]) := Pl.restL_take_in HOK.out (by rw [HSV.out]; unfold Pl.outB; exact congrArg Bool.not HR.out)
        have HB4 := Lib.hid (below_more HK.out.1 (.cells #[.int .i64 a0] 3))
        have HO4 := Lib.hid (HO.out.below (below_alloc W0 (.cells #[.int .i64 a0] 3)))
        have HG4 : Hid (V2.heap.size ≤ (W0.alloc (.cells #[.int .i64 a0] 3)).heap.size) := Nat.le_trans HK.out.2 (below_alloc W0 _).size
        obtain ⟨M, hM⟩ : ∃ M, (Pl.restL (x.os.take k) (ros p.rs) ++ [a0]).length = M := ⟨_, rfl⟩
        have HA := Lib.hid (owni_next (w := V2) HB4.out (Nat.le_refl _) HG4.out HO4.out (some ⟨W0.heap.size, 0, none⟩) 1 1 [a0] rfl (one_int W0 a0) (by have := Pl.restL_len (x.os.take k) (ros p.rs); have h3 : (x.os.take k).length ≤ x.os.length := List.length_take_le' _ _; rw [HXM.out] at h3; omega) M hM)
        clear hM
        generalize x.A = oA at *
        obtain rfl := HRA.out
        go_wp2_with fail
        with_reducible refine HC.out.mono ?_
        rintro e w2 ⟨rfl, rfl⟩
        go_wp2_with (at_builtin; refine wpList_append_any rfl (.tmp 27) (.tmp 34) 30 30 rfl _ _ rfl rfl _ HA.out ?_; intro v5 w5 hap; obtain ⟨A5, c5, rfl, HAP⟩ := hap)
        go_roundg gk
        case measure => omega
        case rel => exact ⟨k + 1, M, c5, A5, _, rfl, by omega, rfl, by first | rfl | go_num, ⟨HAP.out.2.1, HAP.out.2.2.1⟩, by rw [HNX.out]; exact HAP.out.1⟩
    · have HALL : Hid (x.os.take k = x.os) := List.take_of_length_le (by rw [HXM.out]; omega)
      have hm : m ≤ 20000 ∧ (Pl.restL (x.os.take k) (ros p.rs)).length = m ∧ IntsAt W0 A (Pl.restL (x.os.take k) (ros p.rs)) := by
        obtain ⟨A', c', e, _, _, hI⟩ := HO.out.ints
        injection e with e1 e2 _
        subst e1
        have := Pl.restL_len (x.os.take k) (ros p.rs)
        have h3 : (x.os.take k).length ≤ x.os.length := List.length_take_le' _ _
        rw [HXM.out] at h3
        exact ⟨by omega, e2.symm, hI⟩
      have HC := Lib.hid (dsorted_b A m c _ W0 hm.2.1 hm.1 hm.2.2)
      clear hm
      go_wp2_with fail
      with_reducible refine HC.out.mono ?_
      rintro e w2 ⟨A2, c2, rfl, hc2, h2⟩
      have HN := Lib.hid (NewI.old (w := w) ⟨A2, c2, rfl, hc2, h2⟩ (below_next HB2.out HK.out.1))
      clear h2 hc2
      go_wp2
      go_ret
      rw [← (show Pl.srt (Pl.restL (x.os.take k) (ros p.rs)) = Pl.restS x.os (ros p.rs) by rw [HALL.out]; rfl)]
      exact HN.out
end Go.Proofs.YtgjmlnpfkmpfgaaGreat
