/- Contracts of package savings: the trucks of a world, rising, and which of some runs a row at the least cost. -/
import Derived.Test.YtjidelfpmlnhkaaGreatSavAM
import Derived.Test.YtjidelfpmlnhkaaGreatPlanMem
import Derived.Test.YtjidelfpmlnhkaaGreatSavShelf
namespace Go.Proofs.YtjidelfpmlnhkaaGreat
open Go.RowKit Go.Shelf Go.Sort
set_option linter.unusedVariables false
set_option maxRecDepth 100000

theorem OwnI.mono {W : World} {b b' : Nat} {v : Value} {l : List Int} (h : OwnI W b v l) (hb : b' ≤ b) : OwnI W b' v l := by
  obtain ⟨h1, h2⟩ := h
  refine ⟨h1, ?_⟩
  rcases h2 with h2 | ⟨g, cap, cur, hv, hg, r⟩
  · exact .inl h2
  · exact .inr ⟨g, cap, cur, hv, Nat.le_trans hb hg, r⟩

/-- numbers of one's own, sorted: they stay one's own -/
theorem sort_own2 (g n c : Nat) (l : List Int) (W : World) (base : Nat) (h : OwnI W base (.slice (some ⟨g, 0, none⟩) n c) l) (hn : l.length = n) (hl : n ≤ 100000) :
    Calls Tryz.prog 50 #[.slice (some ⟨g, 0, none⟩) n c] W fun e w' => e = .returned (.tuple #[]) ∧ Hid (RowKit.Below base W w' ∧ OwnI w' base (.slice (some ⟨g, 0, none⟩) n c) (Pl.srt l)) := by
  subst hn
  obtain ⟨h1, h2⟩ := h
  rcases h2 with ⟨e, _⟩ | ⟨g', cap, cur, e, hbg, hg, hnc, hcm, hcs, hct⟩
  · cases e
  injection e with e1 e2 e3
  injection e1 with e1
  injection e1 with e1
  subst e1 e3
  have hbox : Box W g cur 3 := hg
  have hH : Holds (Value.int .i64) W g 0 l.toArray := fun j hj => by
    have hj' : j < l.length := by simpa using hj
    refine ⟨?_, hbox.fz _⟩
    rw [Nat.zero_add, getElem!_pos l.toArray j hj]
    refine hbox.cell j _ ?_
    have e : (l.map (Value.int .i64))[j]? = some (.int .i64 l[j]) := by simp [hj']
    rw [← hct, List.getElem?_take_of_lt (by omega)] at e
    simpa using e
  have hc := Any.slices_Sort_int Tryz.laysSort g 0 c l W hH hbox.lt (by omega)
  rw [Pl.merge_srt] at hc
  refine Calls.mono hc ?_
  rintro e w' ⟨rfl, q, os, rfl⟩
  have hsl : (Pl.srt l).length = l.length := Pl.srt_len l
  obtain ⟨hb2, hc2⟩ := row_put (Value.int .i64) hbox q (Pl.srt l).toArray os (by simp; omega)
  refine ⟨rfl, put_below _ W g q _ os hbg (Nat.le_of_lt (Nat.lt_of_le_of_lt hbg hbox.lt)), by simp, .inr ⟨g, c, _, by rw [hsl], hbg, hb2, by omega, hcm, by simp [putCells]; omega, ?_⟩⟩
  rw [Nat.mul_one]
  apply List.ext_getElem?
  intro j
  by_cases hj : j < l.length
  · obtain ⟨z, hz⟩ := mlist_at (Pl.srt l) j (by omega)
    rw [List.getElem?_take_of_lt (by omega), List.getElem?_map, hz, Array.getElem?_toList]
    exact hc2 j z hz
  · rw [List.getElem?_eq_none (by rw [List.length_take]; omega), List.getElem?_eq_none (by rw [List.length_map]; omega)]

set_option maxHeartbeats 2000000 in
theorem strucks_b (x : Wd) (w : World) (hx : WAt w x) :
    Calls Tryz.prog 35 #[.agg #[.int .i64 x.N, .slice x.dA x.dm x.dc, .slice x.tA x.tm x.tc, .slice x.A x.m x.c, .slice x.B x.k x.d]] w fun e w' => ∃ (A : Option Addr) (c : Nat), e = .returned (.slice A (Pl.srt (x.ts.map Ld.T.id)).length c) ∧ Hid (RowKit.Below w.heap.size w w' ∧ OwnI w' w.heap.size (.slice A (Pl.srt (x.ts.map Ld.T.id)).length c) (Pl.srt (x.ts.map Ld.T.id)) ∧ ∀ ad, A = some ad → ad.block < w'.heap.size) := by
  have HP := Lib.hid hx
  have HX := Lib.hid (WX.new hx)
  have hrm := hx.k2
  have hmk : ∀ W : World, (Instr.makeSlice 29 (.int .i64 (x.k : Int)) (.int .i64 (x.k : Int))).run Tryz.prog W = .ok (.slice (some ⟨W.heap.size, 0, none⟩) x.k x.k) (W.alloc (.cells (Array.replicate x.k (Value.int .i64 0)) 3)) := make_ints x.k (by omega)
  have HLT : Hid ((x.ts.map Ld.T.id).length = x.k) := by unfold Hid; rw [List.length_map]; exact hx.kl
  have HS0 : Hid (RowKit.Below w.heap.size w ((w.alloc (.cells #[.int .i64 x.N, .slice x.dA x.dm x.dc, .slice x.tA x.tm x.tc, .slice x.A x.m x.c, .slice x.B x.k x.d] 28)).alloc (.cells (Array.replicate x.k (Value.int .i64 0)) 3)) ∧ NumI ((w.alloc (.cells #[.int .i64 x.N, .slice x.dA x.dm x.dc, .slice x.tA x.tm x.tc, .slice x.A x.m x.c, .slice x.B x.k x.d] 28)).alloc (.cells (Array.replicate x.k (Value.int .i64 0)) 3)) (w.heap.size + 1) (filled (x.ts.map Ld.T.id) x.k 0)) := by
    refine ⟨below_more (below_alloc _ _) _, ?_⟩
    rw [filled_none]; unfold NumI; rw [arr_zeros, size_one w (.cells #[.int .i64 x.N, .slice x.dA x.dm x.dc, .slice x.tA x.tm x.tc, .slice x.A x.m x.c, .slice x.B x.k x.d] 28)]
    exact Box.new _ _ _
  have HG : Hid (w.heap.size ≤ w.heap.size + 1) := by unfold Hid; omega
  have x0 := HX.out.c4
  have x0' : ((w.alloc (.cells #[.int .i64 x.N, .slice x.dA x.dm x.dc, .slice x.tA x.tm x.tc, .slice x.A x.m x.c, .slice x.B x.k x.d] 28)).alloc (.cells (Array.replicate x.k (Value.int .i64 0)) 3)).cell? ⟨w.heap.size, 4, none⟩ = some (.slice x.B x.k x.d) := (HX.out.below (below_alloc _ _)).c4
  clear hx
  go_enter Tryz.func35, Tryz.ntmps35
  go_wp2_with fail
  generalize ((w.alloc (.cells #[.int .i64 x.N, .slice x.dA x.dm x.dc, .slice x.tA x.tm x.tc, .slice x.A x.m x.c, .slice x.B x.k x.d] 28)).alloc (.cells (Array.replicate x.k (Value.int .i64 0)) 3)) = V at *
  generalize w.heap.size + 1 = g at *
  clear x0 x0' HX hmk
  go_loopg [13] x.k (fun gk s13 W => ∃ (k : Nat) (W0 : World), W0 = W ∧ k + gk = x.k ∧ s13 = .int .i64 k ∧ Hid (RowKit.Below w.heap.size w W0) ∧ Hid (NumI W0 g (filled (x.ts.map Ld.T.id) x.k k)))
  case atStart => exact ⟨0, _, rfl, by omega, rfl, HS0.out.1, HS0.out.2⟩
  case round =>
    obtain ⟨k, W0, rfl, hkg, rfl, HK, HO⟩ := hrel
    by_cases hlt : k < x.k
    · obtain ⟨gk, rfl⟩ : ∃ j, gk = j + 1 := ⟨gk - 1, by omega⟩
      obtain ⟨⟨t0, t1, t2, t3, t4, t5, t6⟩, ht⟩ := mlist_at x.ts k (by rw [HP.out.kl]; exact hlt)
      obtain ⟨ad, hB, c0, c1, c2, c3, c4, c5, c6⟩ := (HP.out.below HK.out).ts.at_ ht
      have i2 : (k : Int) < (x.k : Int) := by omega
      have HSET : Hid ((filled (x.ts.map Ld.T.id) x.k k).set k t0 = filled (x.ts.map Ld.T.id) x.k (k + 1)) := filled_set _ _ _ _ HLT.out (by rw [List.getElem?_map, ht]; rfl)
      have HN2 := Lib.hid (Box.below HO.out (below_alloc W0 (.cells #[.int .i64 t0, .int .i64 t1, .int .i64 t2, .int .i64 t3, .int .i64 t4, .int .i64 t5, .int .i64 t6] 51)))
      obtain ⟨z, z0⟩ := NumI.cell HN2.out (k := k) (by rw [filled_len _ _ _ HLT.out (by omega)]; exact hlt)
      have z1 := NumI.fz HN2.out k
      have HB2 := Lib.hid (below_more HK.out (.cells #[.int .i64 t0, .int .i64 t1, .int .i64 t2, .int .i64 t3, .int .i64 t4, .int .i64 t5, .int .i64 t6] 51))
      have HRA := Lib.hid hB
      clear ht hB
      generalize x.B = B at *
      obtain rfl := HRA.out
      simp only at c0 c1 c2 c3 c4 c5 c6
      go_wp2_with fail
      go_roundg gk
      case measure => omega
      case rel => exact ⟨k + 1, _, rfl, by omega, by first | rfl | go_num, HB2.out.setCell (p := ⟨g, k, none⟩) HG.out _, by rw [← HSET.out]; exact NumI.set HN2.out k _⟩
    · have hk : k = x.k := by omega
      subst hk
      have HO2 := HO.out
      rw [filled_all _ _ HLT.out] at HO2
      have HC := Lib.hid (sort_own2 g x.k x.k _ W0 g (NumI.own HO2 HLT.out (Nat.le_refl _) (by omega)) HLT.out (by omega))
      clear HO2
      go_wp2_with fail
      with_reducible refine HC.out.mono ?_
      rintro e w2 ⟨rfl, h2⟩
      go_wp2
      go_ret
      have hsl : (Pl.srt (x.ts.map Ld.T.id)).length = x.k := by rw [Pl.srt_len]; exact HLT.out
      rw [hsl]
      refine ⟨_, _, rfl, HK.out.trans (h2.out.1.mono HG.out), h2.out.2.mono HG.out, fun ad e => ?_⟩
      obtain rfl := Option.some.inj e
      exact Nat.lt_of_lt_of_le (Box.lt HO.out) h2.out.1.size

/-- what a call that tells the cheapest truck's place leaves -/
def ChPost (w : World) (f : Int → Rt.R) (l : List Int) (n : Nat) (e : Ending) (w' : World) : Prop := ∃ p z : Int, e = .returned (.int .i64 p) ∧ Hid (RowKit.Below w.heap.size w w' ∧ Sv.Ch f l n p z)
set_option maxHeartbeats 4000000 in
theorem cheapest_b (x : Wd) (A : Option Addr) (n c : Nat) (l : List Int) (r : Rw) (w : World) (f : Int → Rt.R) (hf : (fun u => Rt.runS x.N x.D x.T x.os x.ts u r.st) = f) (hx : WAt w x) (hn : l.length = n) (hn2 : n ≤ 1000) (hl : IntsAt w A l) (hr : RwOk w r) :
    Calls Tryz.prog 36 #[.agg #[.int .i64 x.N, .slice x.dA x.dm x.dc, .slice x.tA x.tm x.tc, .slice x.A x.m x.c, .slice x.B x.k x.d], .slice A n c, .slice r.A r.m r.c] w (ChPost w f l n) := by
  have HX := Lib.hid (WX.new hx)
  have HB0 : Hid (RowKit.Below w.heap.size w (w.alloc (.cells #[.int .i64 x.N, .slice x.dA x.dm x.dc, .slice x.tA x.tm x.tc, .slice x.A x.m x.c, .slice x.B x.k x.d] 28))) := below_alloc _ _
  have HL : Hid (IntsAt (w.alloc (.cells #[.int .i64 x.N, .slice x.dA x.dm x.dc, .slice x.tA x.tm x.tc, .slice x.A x.m x.c, .slice x.B x.k x.d] 28)) A l) := hl.below (below_alloc _ _)
  have HR : Hid (RwOk (w.alloc (.cells #[.int .i64 x.N, .slice x.dA x.dm x.dc, .slice x.tA x.tm x.tc, .slice x.A x.m x.c, .slice x.B x.k x.d] 28)) r) := hr.below (below_alloc _ _)
  have HN := Lib.hid hn
  have HRUN : Hid (∀ (u : Int) (W : World), WAt W x → RwOk W r → Calls Tryz.prog 21 #[.agg #[.int .i64 x.N, .slice x.dA x.dm x.dc, .slice x.tA x.tm x.tc, .slice x.A x.m x.c, .slice x.B x.k x.d], .agg #[.int .i64 u, .slice r.A r.m r.c]] W (TripPost W (f u))) := fun u W h1 h2 => by
    subst hf
    exact run_b x (r.rd u) W _ rfl h1 (h2.rat u)
  clear hx hl hr hn hf
  go_enter Tryz.func36, Tryz.ntmps36
  go_wp2_with fail
  generalize (w.alloc (.cells #[.int .i64 x.N, .slice x.dA x.dm x.dc, .slice x.tA x.tm x.tc, .slice x.A x.m x.c, .slice x.B x.k x.d] 28)) = V at *
  generalize hb1 : w.heap.size = b1 at HX ⊢
  clear hb1
  go_loopg [7, 8, 15] n (fun gk s7 s8 s15 W => ∃ (k : Nat) (p z : Int) (W0 : World), W0 = W ∧ k + gk = n ∧ s15 = .int .i64 k ∧ s7 = .int .i64 p ∧ s8 = .int .i64 z ∧ Hid (RowKit.Below V.heap.size V W0) ∧ Hid (Sv.Ch f l k p z))
  case atStart => exact ⟨0, -1, 0, _, rfl, by omega, rfl, rfl, rfl, Below.refl _ _, Sv.Ch.zero _ _ _⟩
  case round =>
    obtain ⟨k, p, z, W0, rfl, hkg, rfl, rfl, rfl, HB, HK⟩ := hrel
    by_cases hlt : k < n
    · obtain ⟨gk, rfl⟩ : ∃ j, gk = j + 1 := ⟨gk - 1, by omega⟩
      obtain ⟨u, hu⟩ := mlist_at l k (by rw [HN.out]; exact hlt)
      have HX0 := Lib.hid (HX.out.below HB.out)
      obtain ⟨ad, rfl, hc⟩ := (HL.out.below HB.out) k u hu
      have HU := Lib.hid hu
      have HC := Lib.hid (HRUN.out u W0 HX0.out.at_ (HR.out.below HB.out))
      have i2 : (k : Int) < (n : Int) := by omega
      clear hu
      have x0 := HX0.out.c0
      have x1 := HX0.out.c1
      have x2 := HX0.out.c2
      have x3 := HX0.out.c3
      have x4 := HX0.out.c4
      go_wp2_with fail
      clear x0 x1 x2 x3 x4 hc
      with_reducible refine HC.out.mono ?_
      rintro e W1 ⟨tA, tc, rfl, h1⟩
      obtain ⟨res, hres⟩ : ∃ res, f u = res := ⟨_, rfl⟩
      have HRES := Lib.hid hres
      rw [hres] at h1 ⊢
      have HB1 := Lib.hid (below_more (below_next HB.out h1.out.1) (.cells #[.slice tA res.vs.length tc, .int .i64 res.back, .int .i64 res.dist, .int .i64 res.cost] 54))
      have z3 : (W1.alloc (.cells #[.slice tA res.vs.length tc, .int .i64 res.back, .int .i64 res.dist, .int .i64 res.cost] 54)).cell? ⟨W1.heap.size, 3, none⟩ = some (.int .i64 res.cost) := (Box.new W1 _ _).cell 3 _ rfl
      clear h1 hres HC
      obtain ⟨vs, back, dist, cost, er⟩ := res
      simp only at *
      by_cases he : er = 0
      · subst he
        have e1 : ((0 : Int) != (0 : Int)) = false := by decide
        by_cases hp : p = -1
        · subst hp
          have e2 : ((-1 : Int) == (-1 : Int)) = true := by decide
          have HK2 := Lib.hid (HK.out.take HU.out (by rw [HRES.out]) (.inl rfl))
          rw [HRES.out] at HK2
          go_wp2
          go_quiet (fail)
          go_wp2
          go_roundg gk
          case measure => omega
          case rel => exact ⟨k + 1, _, _, _, rfl, by omega, by first | rfl | go_num, rfl, rfl, HB1.out.trans ⟨rfl, rfl, rfl, Nat.le_refl _, fun _ _ => rfl⟩, HK2.out⟩
        · have e2 : (p == (-1 : Int)) = false := by rw [beq_eq_false_iff_ne]; exact hp
          by_cases hz : cost < z
          · have e3 : decide (cost < z) = true := decide_eq_true hz
            have HK2 := Lib.hid (HK.out.take HU.out (by rw [HRES.out]) (.inr (by rw [HRES.out]; exact hz)))
            rw [HRES.out] at HK2
            clear hz
            go_wp2
            go_quiet (fail)
            go_wp2
            go_roundg gk
            case measure => omega
            case rel => exact ⟨k + 1, _, _, _, rfl, by omega, by first | rfl | go_num, rfl, rfl, HB1.out.trans ⟨rfl, rfl, rfl, Nat.le_refl _, fun _ _ => rfl⟩, HK2.out⟩
          · have e3 : decide (cost < z) = false := decide_eq_false hz
            have HK2 := Lib.hid (HK.out.keep hp HU.out (by rw [HRES.out]; exact hz))
            clear hz
            go_wp2
            go_roundg gk
            case measure => omega
            case rel => exact ⟨k + 1, _, _, _, rfl, by omega, by first | rfl | go_num, rfl, rfl, HB1.out, HK2.out⟩
      · have e1 : (er != (0 : Int)) = true := bne_iff_ne.2 he
        have HK2 := Lib.hid (HK.out.skip HU.out (by rw [HRES.out]; exact he))
        go_wp2
        go_roundg gk
        case measure => omega
        case rel => exact ⟨k + 1, _, _, _, rfl, by omega, by first | rfl | go_num, rfl, rfl, HB1.out, HK2.out⟩
    · have hk : k = n := by omega
      subst hk
      have HB1 := Lib.hid (below_next HB0.out HB.out)
      go_wp2
      go_ret
      exact ⟨_, _, rfl, HB1.out, HK.out⟩
end Go.Proofs.YtjidelfpmlnhkaaGreat
