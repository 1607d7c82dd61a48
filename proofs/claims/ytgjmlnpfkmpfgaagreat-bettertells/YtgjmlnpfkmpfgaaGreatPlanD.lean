/- Contracts of package plan: the worth of a plan, Less. -/
import Derived.Test.YtgjmlnpfkmpfgaaGreatPlanC
import Derived.Laws.StructEq
namespace Go.Proofs.YtgjmlnpfkmpfgaaGreat
open Go.RowKit
set_option linter.unusedVariables false
set_option maxRecDepth 100000

theorem und_worth : Tryz.prog.underlying 71 = some (.struct ((match Tryz.prog.underlying 71 with | some (.struct fs) => fs | _ => #[]))) := by kernel_rfl
theorem size_worth : (Tryz.prog.info? 71).map (·.size) = some 2 := by kernel_rfl
theorem load_worth {W : World} {b : Nat} {cs : Array Value} (h : Box W b cs 71) (hs : cs.size = 2) : (loadVar 71 ⟨b, 0, none⟩).run Tryz.prog W = .ok (.agg cs) W :=
  run_loadVar_row W b _ _ cs (0, 0) _ h und_worth rfl (by rw [hs]; exact size_worth)
theorem results_worth {fn : Func} {p u : Tmp} (h : fn.results = #[.cell p 71, .tmp u]) (tmps : Array Value) {W : World} {b : Nat} {cs : Array Value} (hb : Box W b cs 71) (hs : cs.size = 2) (hp : tmps.getD p undef = .pointer (some ⟨b, 0, none⟩)) {v : Value} (hv : tmps.getD u undef = v) :
    (results fn tmps).run Tryz.prog W = .ok (.tuple #[.agg cs, v]) W := by
  rw [results_cell_tmp h, hp, hv]
  simp [asAddr, Result.andThen, load_worth hb hs]
theorem worth_set {W : World} {b : Nat} {x0 x1 : Value} (h : Box W b #[x0, x1] 71) (v0 v1 : Value) : Box ((W.setCell ⟨b, 0, none⟩ v0).setCell ⟨b, 1, none⟩ v1) b #[v0, v1] 71 :=
  (h.set 0 v0 #[v0, x1] rfl).set 1 v1 #[v0, v1] rfl
theorem below_set2 {B : Nat} {w W : World} (h : Below B w W) (b : Nat) (hb : B ≤ b) (v0 v1 : Value) : Below B w ((W.setCell ⟨b, 0, none⟩ v0).setCell ⟨b, 1, none⟩ v1) :=
  (h.setCell (p := ⟨b, 0, none⟩) hb _).setCell (p := ⟨b, 1, none⟩) hb _

/-- the worth of a plan, or why none -/
def WorthPost (w : World) (n : Nat) (c : Int × Int) (e : Ending) (w' : World) : Prop :=
  ∃ u v : Int, e = .returned (.tuple #[.agg #[.int .i64 u, .int .i64 v], .int .i64 c.2]) ∧ Hid (Below w.heap.size w w' ∧ (c.2 = 0 → u = (n : Int) ∧ v = c.1))

set_option maxHeartbeats 4000000 in
theorem worth_b (x : Wd) (p : Pd) (w : World) (c : Int × Int) (hc : Pl.checkS x.N x.D x.T x.os x.ts (ros p.rs) p.us = c) (hx : WAt w x) (hp : PAt w p) :
    Calls Tryz.prog 37 #[.agg #[.int .i64 x.N, .slice x.dA x.dm x.dc, .slice x.tA x.tm x.tc, .slice x.A x.m x.c, .slice x.B x.k x.d], .agg #[.slice p.rA p.rm p.rc, .slice p.uA p.um p.uc]] w (WorthPost w p.um c) := by
  have HX : Hid (WPB (((w.alloc (.cells #[.int .i64 x.N, .slice x.dA x.dm x.dc, .slice x.tA x.tm x.tc, .slice x.A x.m x.c, .slice x.B x.k x.d] 28)).alloc (.cells #[.slice p.rA p.rm p.rc, .slice p.uA p.um p.uc] 32)).alloc (.cells #[.int .i64 0, .int .i64 0] 71)) w.heap.size (w.heap.size + 1) x p) := (WPB.new hx hp).below (below_alloc _ _)
  have HB0 : Hid (Below w.heap.size w (((w.alloc (.cells #[.int .i64 x.N, .slice x.dA x.dm x.dc, .slice x.tA x.tm x.tc, .slice x.A x.m x.c, .slice x.B x.k x.d] 28)).alloc (.cells #[.slice p.rA p.rm p.rc, .slice p.uA p.um p.uc] 32)).alloc (.cells #[.int .i64 0, .int .i64 0] 71))) := below_more (below_more (below_alloc _ _) _) _
  have HT : Hid (Box (((w.alloc (.cells #[.int .i64 x.N, .slice x.dA x.dm x.dc, .slice x.tA x.tm x.tc, .slice x.A x.m x.c, .slice x.B x.k x.d] 28)).alloc (.cells #[.slice p.rA p.rm p.rc, .slice p.uA p.um p.uc] 32)).alloc (.cells #[.int .i64 0, .int .i64 0] 71)) (w.heap.size + 1 + 1) #[.int .i64 0, .int .i64 0] 71) := by
    have e : w.heap.size + 1 + 1 = ((w.alloc (.cells #[.int .i64 x.N, .slice x.dA x.dm x.dc, .slice x.tA x.tm x.tc, .slice x.A x.m x.c, .slice x.B x.k x.d] 28)).alloc (.cells #[.slice p.rA p.rm p.rc, .slice p.uA p.um p.uc] 32)).heap.size := by simp
    rw [e]
    exact Box.new _ _ _
  have HG : Hid (w.heap.size ≤ w.heap.size + 1 + 1) := by unfold Hid; omega
  have HCK := Lib.hid hc
  have hum := hp.u2
  clear hx hp hc
  go_enter Tryz.func37, Tryz.ntmps37
  have x0 := HX.out.w.c0
  have x1 := HX.out.w.c1
  have x2 := HX.out.w.c2
  have x3 := HX.out.w.c3
  have x4 := HX.out.w.c4
  have y0 := HX.out.p.c0
  have y1 := HX.out.p.c1
  go_wp2_with fail
  clear x0 x1 x2 x3 x4 y0 y1
  generalize (((w.alloc (.cells #[.int .i64 x.N, .slice x.dA x.dm x.dc, .slice x.tA x.tm x.tc, .slice x.A x.m x.c, .slice x.B x.k x.d] 28)).alloc (.cells #[.slice p.rA p.rm p.rc, .slice p.uA p.um p.uc] 32)).alloc (.cells #[.int .i64 0, .int .i64 0] 71)) = V at *
  generalize w.heap.size + 1 + 1 = b3 at *
  generalize w.heap.size + 1 = b2 at *
  generalize hb1 : w.heap.size = b1 at HX ⊢
  clear hb1
  have HC := Lib.hid (check_b x p V c HCK.out HX.out.w.at_ HX.out.p.at_)
  with_reducible refine HC.out.mono ?_
  rintro e V1 ⟨rfl, hV1⟩
  have HX1 := Lib.hid (HX.out.below hV1.out)
  have HB1 := Lib.hid (below_next HB0.out hV1.out)
  have HT1 := Lib.hid (HT.out.below hV1.out)
  clear HC HX HB0 HT hV1 HCK
  obtain ⟨cost, er⟩ := c
  have z0 := HT1.out.cell 0 _ rfl
  have z1 := HT1.out.cell 1 _ rfl
  have g0 := HT1.out.fz 0
  have g1 := HT1.out.fz 1
  by_cases he : er = 0
  · subst he
    have e1 : ((0 : Int) != (0 : Int)) = false := by decide
    have y1 := HX1.out.p.c1
    go_wp2_with fail
    exact bodyPost_ret (results_worth (v := .int .i64 0) rfl _ (worth_set HT1.out _ _) rfl rfl rfl) rfl ⟨_, _, rfl, below_set2 HB1.out _ HG.out _ _, fun _ => ⟨rfl, rfl⟩⟩
  · have e1 : (er != (0 : Int)) = true := bne_iff_ne.2 he
    have HE := Lib.hid he
    clear he
    go_wp2_with fail
    exact bodyPost_ret (results_worth (v := .int .i64 er) rfl _ (worth_set HT1.out _ _) rfl rfl rfl) rfl ⟨_, _, rfl, below_set2 HB1.out _ HG.out _ _, fun h => absurd h HE.out⟩

set_option maxHeartbeats 1000000 in
theorem noWorse_b (u v u' v' : Int) (w : World) (r : Bool) (hr : decide (u < u' ∨ u = u' ∧ v ≤ v') = r) :
    Calls Tryz.prog 38 #[.agg #[.int .i64 u, .int .i64 v], .agg #[.int .i64 u', .int .i64 v']] w fun e w' => e = .returned (.bool r) ∧ Hid (Below w.heap.size w w') := by
  have HB0 : Hid (Below w.heap.size w ((w.alloc (.cells #[.int .i64 u, .int .i64 v] 71)).alloc (.cells #[.int .i64 u', .int .i64 v'] 71))) := below_more (below_alloc _ _) _
  have HR := Lib.hid hr
  clear hr
  by_cases h : u = u'
  · subst h
    have e1 : (u != u) = false := by simp
    have HE : Hid (r = decide (v ≤ v')) := by rw [← HR.out]; exact decide_eq_decide.2 (by omega)
    go_enter Tryz.func38, Tryz.ntmps38
    go_wp2
    go_ret
    exact ⟨by rw [HE.out]; rfl, HB0.out⟩
  · have e1 : (u != u') = true := bne_iff_ne.2 h
    have HE : Hid (r = decide (u < u')) := by rw [← HR.out]; exact decide_eq_decide.2 (by omega)
    clear h
    go_enter Tryz.func38, Tryz.ntmps38
    go_wp2
    go_ret
    exact ⟨by rw [HE.out]; rfl, HB0.out⟩

theorem neq_worth (u v u' v' : Int) (r : Bool) (hr : decide (u = u' ∧ v = v') = r) (W : World) : (binOp .neq 71 (.agg #[.int .i64 u, .int .i64 v]) (.agg #[.int .i64 u', .int .i64 v'])).run Tryz.prog W = .ok (.bool (!r)) W := by
  have u3 := Tryz.underlying3
  have a3 := Tryz.isAgg3
  have z3 := Tryz.sizeOf3
  have u4 := Tryz.underlying2
  have a4 := Tryz.isAgg2
  have z4 := Tryz.sizeOf2
  have hS : Tryz.prog.underlying 71 = some (.struct (Tryz.prog.fieldsOf 71)) := by kernel_rfl
  have hp : Tryz.prog.stoodInHeld 71 = false := by kernel_rfl
  rw [run_neq_struct, show (10000 : Nat) = 9999 + 1 from rfl, run_equalIn_agg W 9999 71 _ _ hS hp]
  simp only [Program.fieldsOf, Tryz.underlying71]
  go_simp
  subst hr
  by_cases h1 : u = u' <;> by_cases h2 : v = v' <;> simp [h1, h2]

/-- the boxes of a world and of two plans -/
structure WPP (V : World) (b1 b2 b3 : Nat) (x : Wd) (a b : Pd) : Prop where
  w : WX V b1 x
  a : PX V b2 a
  b : PX V b3 b
theorem WPP.below {V V' : World} {b1 b2 b3 : Nat} {x : Wd} {a b : Pd} (h : WPP V b1 b2 b3 x a b) (hb : Below V.heap.size V V') : WPP V' b1 b2 b3 x a b := ⟨h.w.below hb, h.a.below hb, h.b.below hb⟩
theorem WPP.new {w : World} {x : Wd} {a b : Pd} (hx : WAt w x) (ha : PAt w a) (hb : PAt w b) : WPP (((w.alloc (.cells #[.int .i64 x.N, .slice x.dA x.dm x.dc, .slice x.tA x.tm x.tc, .slice x.A x.m x.c, .slice x.B x.k x.d] 28)).alloc (.cells #[.slice a.rA a.rm a.rc, .slice a.uA a.um a.uc] 32)).alloc (.cells #[.slice b.rA b.rm b.rc, .slice b.uA b.um b.uc] 32)) w.heap.size (w.heap.size + 1) (w.heap.size + 1 + 1) x a b := by
  have h := WPB.new hx ha
  have h2 := h.below (below_alloc _ (.cells #[.slice b.rA b.rm b.rc, .slice b.uA b.um b.uc] 32))
  refine ⟨h2.w, h2.p, ?_⟩
  have e : w.heap.size + 1 + 1 = ((w.alloc (.cells #[.int .i64 x.N, .slice x.dA x.dm x.dc, .slice x.tA x.tm x.tc, .slice x.A x.m x.c, .slice x.B x.k x.d] 28)).alloc (.cells #[.slice a.rA a.rm a.rc, .slice a.uA a.um a.uc] 32)).heap.size := by simp
  rw [e]
  exact PX.new (hb.below (below_more (below_alloc _ _) _))

set_option maxHeartbeats 8000000 in
theorem less_b (x : Wd) (a b : Pd) (w : World) (r : Bool) (hr : Pl.lessB (Pl.checkS x.N x.D x.T x.os x.ts (ros a.rs) a.us) (Pl.checkS x.N x.D x.T x.os x.ts (ros b.rs) b.us) a.um b.um = r) (hx : WAt w x) (ha : PAt w a) (hb : PAt w b) :
    Calls Tryz.prog 16 #[.agg #[.int .i64 x.N, .slice x.dA x.dm x.dc, .slice x.tA x.tm x.tc, .slice x.A x.m x.c, .slice x.B x.k x.d], .agg #[.slice a.rA a.rm a.rc, .slice a.uA a.um a.uc], .agg #[.slice b.rA b.rm b.rc, .slice b.uA b.um b.uc]] w fun e w' => e = .returned (.bool r) ∧ Hid (Below w.heap.size w w') := by
  have HX := Lib.hid (WPP.new hx ha hb)
  have HB0 : Hid (Below w.heap.size w (((w.alloc (.cells #[.int .i64 x.N, .slice x.dA x.dm x.dc, .slice x.tA x.tm x.tc, .slice x.A x.m x.c, .slice x.B x.k x.d] 28)).alloc (.cells #[.slice a.rA a.rm a.rc, .slice a.uA a.um a.uc] 32)).alloc (.cells #[.slice b.rA b.rm b.rc, .slice b.uA b.um b.uc] 32))) := below_more (below_more (below_alloc _ _) _) _
  obtain ⟨ca, hca⟩ : ∃ c, Pl.checkS x.N x.D x.T x.os x.ts (ros a.rs) a.us = c := ⟨_, rfl⟩
  obtain ⟨cb, hcb⟩ : ∃ c, Pl.checkS x.N x.D x.T x.os x.ts (ros b.rs) b.us = c := ⟨_, rfl⟩
  rw [hca, hcb] at hr
  have HR := Lib.hid hr
  have HCA := Lib.hid hca
  have HCB := Lib.hid hcb
  clear hx ha hb hr hca hcb
  have hg0 : Tryz.prog.eqGuardType Tryz.prog.depth 71 = false := by kernel_rfl
  go_enter Tryz.func16, Tryz.ntmps16
  have x0 := HX.out.w.c0
  have x1 := HX.out.w.c1
  have x2 := HX.out.w.c2
  have x3 := HX.out.w.c3
  have x4 := HX.out.w.c4
  have y0 := HX.out.a.c0
  have y1 := HX.out.a.c1
  go_wp2_with fail
  clear x0 x1 x2 x3 x4 y0 y1
  generalize (((w.alloc (.cells #[.int .i64 x.N, .slice x.dA x.dm x.dc, .slice x.tA x.tm x.tc, .slice x.A x.m x.c, .slice x.B x.k x.d] 28)).alloc (.cells #[.slice a.rA a.rm a.rc, .slice a.uA a.um a.uc] 32)).alloc (.cells #[.slice b.rA b.rm b.rc, .slice b.uA b.um b.uc] 32)) = V at *
  generalize w.heap.size + 1 + 1 = b3 at *
  generalize w.heap.size + 1 = b2 at *
  generalize hb1 : w.heap.size = b1 at HX ⊢
  clear hb1
  have HC := Lib.hid (worth_b x a V ca HCA.out HX.out.w.at_ HX.out.a.at_)
  with_reducible refine HC.out.mono ?_
  rintro e V1 ⟨u1, v1, rfl, hV1⟩
  have HX1 := Lib.hid ((HX.out.below hV1.out.1).below (below_alloc V1 (.cells #[.int .i64 u1, .int .i64 v1] 71)))
  have HB1 := Lib.hid (below_more (below_next HB0.out hV1.out.1) (.cells #[.int .i64 u1, .int .i64 v1] 71))
  have HT1 := Lib.hid (Box.new V1 #[.int .i64 u1, .int .i64 v1] 71)
  have HE1 := Lib.hid hV1.out.2
  clear HC HX HB0 hV1 HCA
  obtain ⟨cost1, er1⟩ := ca
  by_cases he1 : er1 = 0
  · have HE1' := Lib.hid (HE1.out he1)
    clear HE1
    subst he1
    have e1 : ((0 : Int) != (0 : Int)) = false := by decide
    have x0 := HX1.out.w.c0
    have x1 := HX1.out.w.c1
    have x2 := HX1.out.w.c2
    have x3 := HX1.out.w.c3
    have x4 := HX1.out.w.c4
    have y0 := HX1.out.b.c0
    have y1 := HX1.out.b.c1
    go_wp2_with fail
    clear x0 x1 x2 x3 x4 y0 y1
    generalize V1.alloc (.cells #[.int .i64 u1, .int .i64 v1] 71) = V2 at *
    generalize V1.heap.size = q1 at *
    have HC := Lib.hid (worth_b x b V2 cb HCB.out HX1.out.w.at_ HX1.out.b.at_)
    with_reducible refine HC.out.mono ?_
    rintro e V3 ⟨u2, v2, rfl, hV3⟩
    have HX3 := Lib.hid ((HX1.out.below hV3.out.1).below (below_alloc V3 (.cells #[.int .i64 u2, .int .i64 v2] 71)))
    have HB3 := Lib.hid (below_more (below_next HB1.out hV3.out.1) (.cells #[.int .i64 u2, .int .i64 v2] 71))
    have HT3 := Lib.hid ((HT1.out.below hV3.out.1).below (below_alloc V3 (.cells #[.int .i64 u2, .int .i64 v2] 71)))
    have HU3 := Lib.hid (Box.new V3 #[.int .i64 u2, .int .i64 v2] 71)
    have HE3 := Lib.hid hV3.out.2
    clear HC HX1 HB1 HT1 hV3 HCB
    obtain ⟨cost2, er2⟩ := cb
    by_cases he2 : er2 = 0
    · have HE3' := Lib.hid (HE3.out he2)
      clear HE3
      subst he2
      obtain ⟨r1, hr1⟩ : ∃ r, decide (u1 = u2 ∧ v1 = v2) = r := ⟨_, rfl⟩
      have hneq := neq_worth u1 v1 u2 v2 r1 hr1
      have HR1 := Lib.hid hr1
      clear hr1
      have t0 := HT3.out.cell 0 _ rfl
      have t1 := HT3.out.cell 1 _ rfl
      have s0 := HU3.out.cell 0 _ rfl
      have s1 := HU3.out.cell 1 _ rfl
      cases r1 with
      | true =>
        have HF : Hid (r = false) := by
          rw [← HR.out]
          have h1 := of_decide_eq_true HR1.out
          have h2 := HE1'.out
          have h3 := HE3'.out
          exact decide_eq_false fun e => by
            have := e.2.2
            simp only at h2 h3 this
            omega
        go_wp2_with fail
        go_ret
        exact ⟨by rw [HF.out]; rfl, HB3.out⟩
      | false =>
        have HF : Hid (r = decide (u1 < u2 ∨ u1 = u2 ∧ v1 ≤ v2)) := by
          rw [← HR.out]
          have h1 := of_decide_eq_false HR1.out
          have h2 := HE1'.out
          have h3 := HE3'.out
          simp only at h2 h3
          exact decide_eq_decide.2 ⟨fun e => by have := e.2.2; simp only at this; omega, fun e => ⟨rfl, rfl, by simp only; omega⟩⟩
        have HC := Lib.hid (noWorse_b u1 v1 u2 v2 (V3.alloc (.cells #[.int .i64 u2, .int .i64 v2] 71)) _ HF.out.symm)
        go_wp2_with fail
        with_reducible refine HC.out.mono ?_
        rintro e V5 ⟨rfl, h5⟩
        go_wp2
        go_ret
        exact ⟨rfl, below_next HB3.out h5.out⟩
    · have e2 : (er2 != (0 : Int)) = true := bne_iff_ne.2 he2
      have HF : Hid (r = false) := by rw [← HR.out]; exact Pl.less_no2 he2
      clear he2
      go_wp2_with fail
      go_ret
      exact ⟨by rw [HF.out]; rfl, HB3.out⟩
  · have e1 : (er1 != (0 : Int)) = true := bne_iff_ne.2 he1
    have HF : Hid (r = false) := by rw [← HR.out]; exact Pl.less_no1 he1
    clear he1
    go_wp2_with fail
    go_ret
    exact ⟨by rw [HF.out]; rfl, HB1.out⟩

end Go.Proofs.YtgjmlnpfkmpfgaaGreat
