/- Texts joined: Package better: Improve. Package better: Improve, where steps are taken. -/
import Derived.Test.YtgjmlnpfkmpfgaaGreatBetPp
import Derived.Test.YtgjmlnpfkmpfgaaGreatPlanE
section
/-! Package better: Improve. -/
namespace Go.Proofs.YtgjmlnpfkmpfgaaGreat
open Go.RowKit
set_option linter.unusedVariables false
set_option maxRecDepth 100000

theorem results_imp {fn : Func} (h : fn.results = #[.cell 6 32, .tmp 7, .tmp 8]) (tmps : Array Value) {W : World} {b : Nat} {cs : Array Value} (hb : Box W b cs 32) (hs : cs.size = 2) (hp : tmps.getD 6 undef = .pointer (some ⟨b, 0, none⟩)) :
    (results fn tmps).run Tryz.prog W = .ok (.tuple #[.agg cs, tmps.getD 7 undef, tmps.getD 8 undef]) W := by
  have e1 : tmps[6]?.getD undef = .pointer (some ⟨b, 0, none⟩) := by simpa using hp
  simp [results, h, e1, asAddr, load_plan hb hs]

/-- none of a plan's rows lies in a block -/
def Nb (q : Pd) (b : Nat) : Prop := ∀ ad, (q.rA = some ad ∨ q.uA = some ad ∨ ∃ r ∈ q.rs, r.sA = some ad) → ad.block ≠ b
theorem PlOwn.nb {B b : Nat} {U : World} {q : Pd} (h : PlOwn B U q) (hb : b < B) : Nb q b := by
  rintro ad (e | e | ⟨r, hr, e⟩)
  · have := (h.rr.len.2.2.2 ad e).1; omega
  · have := (h.u.lt ad.block (by rw [e]; rfl)).1; omega
  · have := ((h.st r hr).lt ad.block (by rw [e]; rfl)).1; omega
theorem PlOwn.nb_new {B : Nat} {U : World} {q : Pd} (h : PlOwn B U q) : Nb q U.heap.size := by
  rintro ad (e | e | ⟨r, hr, e⟩)
  · have := (h.rr.len.2.2.2 ad e).2.1; omega
  · have := (h.u.lt ad.block (by rw [e]; rfl)).2; omega
  · have := ((h.st r hr).lt ad.block (by rw [e]; rfl)).2; omega
theorem PlOwn.set {B b : Nat} {U : World} {q : Pd} (h : PlOwn B U q) (hn : Nb q b) (v0 v1 : Value) : PlOwn B ((U.setCell ⟨b, 0, none⟩ v0).setCell ⟨b, 1, none⟩ v1) q :=
  h.put fun k cs t fr _ ho ad ha e => (but_set2 U b v0 v1 k (by rw [← e]; exact hn ad ha)).trans ho
theorem PlOwn.below {B : Nat} {U W : World} {q : Pd} (h : PlOwn B U q) (hb : Below U.heap.size U W) : PlOwn B W q := h.put fun k cs t fr _ ho _ _ _ => (hb.block k (lt_some ho)).trans ho
theorem copied_own {w w' : World} {p q : Pd} (h : CopiedP w w' p q) : PlOwn w.heap.size w' q := by
  obtain ⟨h1, h2, h3, h4, h5⟩ := h.own
  exact ⟨h.at_, h3, fun r hr => (h5 r hr).mono h2, h.uo⟩

/-- what Improve tells of so many steps -/
def ImpPost (w : World) (x : Wd) (rs : List Pl.Ro) (n : Nat) (e : Ending) (w' : World) : Prop := ∃ (q : Pd) (t : Nat), e = .returned (.tuple #[.agg #[.slice q.rA q.rm q.rc, .slice q.uA q.um q.uc], .int .i64 (t : Int), .int .i64 0]) ∧
  Bt.goS (betB x) (mvB x) n rs (mvB x rs) = (ros q.rs, t) ∧ Hid (Below w.heap.size w w' ∧ PlOwn w.heap.size w' q ∧ q.us = Pl.restS x.os (ros q.rs) ∧ ∀ r ∈ q.rs, r.sm ≤ r.sc)

theorem box3 (w : World) (x : Wd) (p : Pd) (hx : WAt w x) (hp : PAt w p) : WPB ((w.alloc (.cells #[.int .i64 x.N, .slice x.dA x.dm x.dc, .slice x.tA x.tm x.tc, .slice x.A x.m x.c, .slice x.B x.k x.d] 28)).alloc (.cells #[.slice p.rA p.rm p.rc, .slice p.uA p.um p.uc] 32)) w.heap.size (w.heap.size + 1) x p ∧
    Box (((w.alloc (.cells #[.int .i64 x.N, .slice x.dA x.dm x.dc, .slice x.tA x.tm x.tc, .slice x.A x.m x.c, .slice x.B x.k x.d] 28)).alloc (.cells #[.slice p.rA p.rm p.rc, .slice p.uA p.um p.uc] 32)).alloc (.cells #[.slice none 0 0, .slice none 0 0] 32)) (w.heap.size + 1 + 1) #[.slice none 0 0, .slice none 0 0] 32 := by
  refine ⟨WPB.new hx hp, ?_⟩
  have e : ((w.alloc (.cells #[.int .i64 x.N, .slice x.dA x.dm x.dc, .slice x.tA x.tm x.tc, .slice x.A x.m x.c, .slice x.B x.k x.d] 28)).alloc (.cells #[.slice p.rA p.rm p.rc, .slice p.uA p.um p.uc] 32)).heap.size = w.heap.size + 1 + 1 := by simp
  rw [← e]
  exact Box.new _ _ _

set_option maxHeartbeats 4000000 in
theorem imp_check (x : Wd) (p : Pd) (w : World) (z n : Int) (hc : Pl.checkS x.N x.D x.T x.os x.ts (ros p.rs) p.us = (0, z)) (hz : z ≠ 0) (hx : WAt w x) (hp : PAt w p) :
    Calls Tryz.prog 12 #[.agg #[.int .i64 x.N, .slice x.dA x.dm x.dc, .slice x.tA x.tm x.tc, .slice x.A x.m x.c, .slice x.B x.k x.d], .agg #[.slice p.rA p.rm p.rc, .slice p.uA p.um p.uc], .int .i64 n] w fun e w' => e = .returned (.tuple #[.agg #[.slice none 0 0, .slice none 0 0], .int .i64 0, .int .i64 z]) ∧ Hid (Below w.heap.size w w') := by
  have HB3 := Lib.hid (box3 w x p hx hp)
  have HB0 : Hid (Below w.heap.size w (((w.alloc (.cells #[.int .i64 x.N, .slice x.dA x.dm x.dc, .slice x.tA x.tm x.tc, .slice x.A x.m x.c, .slice x.B x.k x.d] 28)).alloc (.cells #[.slice p.rA p.rm p.rc, .slice p.uA p.um p.uc] 32)).alloc (.cells #[.slice none 0 0, .slice none 0 0] 32))) := below_more (below_more (below_alloc _ _) _) _
  have HW : Hid (WPB (((w.alloc (.cells #[.int .i64 x.N, .slice x.dA x.dm x.dc, .slice x.tA x.tm x.tc, .slice x.A x.m x.c, .slice x.B x.k x.d] 28)).alloc (.cells #[.slice p.rA p.rm p.rc, .slice p.uA p.um p.uc] 32)).alloc (.cells #[.slice none 0 0, .slice none 0 0] 32)) w.heap.size (w.heap.size + 1) x p) := HB3.out.1.below (below_alloc _ _)
  have HCK := Lib.hid (check_b x p _ (0, z) hc HW.out.w.at_ HW.out.p.at_)
  have d1 : (z != 0) = true := by simpa using hz
  have x0 := HW.out.w.c0
  have x1 := HW.out.w.c1
  have x2 := HW.out.w.c2
  have x3 := HW.out.w.c3
  have x4 := HW.out.w.c4
  have y0 := HW.out.p.c0
  have y1 := HW.out.p.c1
  have HLE : Hid (w.heap.size ≤ w.heap.size + 1 + 1) := by unfold Hid; omega
  clear hx hp hc
  go_enter Tryz.func12, Tryz.ntmps12
  go_wp2_with fail
  clear x0 x1 x2 x3 x4 y0 y1
  generalize ((w.alloc (.cells #[.int .i64 x.N, .slice x.dA x.dm x.dc, .slice x.tA x.tm x.tc, .slice x.A x.m x.c, .slice x.B x.k x.d] 28)).alloc (.cells #[.slice p.rA p.rm p.rc, .slice p.uA p.um p.uc] 32)).alloc (.cells #[.slice none 0 0, .slice none 0 0] 32) = V at *
  with_reducible refine HCK.out.mono ?_
  rintro e w1 ⟨rfl, hb1⟩
  have HB1 := Lib.hid (below_next HB0.out hb1.out)
  have HR1 := Lib.hid (HB3.out.2.below hb1.out)
  have z0 := HR1.out.cell 0 _ rfl
  have z1 := HR1.out.cell 1 _ rfl
  have g0 := HR1.out.fz 0
  have g1 := HR1.out.fz 1
  go_wp2
  refine bodyPost_ret (results_imp rfl _ (plan_set HR1.out _ _) rfl rfl) rfl ⟨rfl, below_set2 HB1.out _ HLE.out _ _⟩

set_option maxHeartbeats 4000000 in
theorem imp_steps (x : Wd) (p : Pd) (w : World) (z n : Int) (hc : Pl.checkS x.N x.D x.T x.os x.ts (ros p.rs) p.us = (z, 0)) (hn : n < 0 ∨ 100000 < n) (hx : WAt w x) (hp : PAt w p) :
    Calls Tryz.prog 12 #[.agg #[.int .i64 x.N, .slice x.dA x.dm x.dc, .slice x.tA x.tm x.tc, .slice x.A x.m x.c, .slice x.B x.k x.d], .agg #[.slice p.rA p.rm p.rc, .slice p.uA p.um p.uc], .int .i64 n] w fun e w' => e = .returned (.tuple #[.agg #[.slice none 0 0, .slice none 0 0], .int .i64 0, .int .i64 1]) ∧ Hid (Below w.heap.size w w') := by
  have HB3 := Lib.hid (box3 w x p hx hp)
  have HB0 : Hid (Below w.heap.size w (((w.alloc (.cells #[.int .i64 x.N, .slice x.dA x.dm x.dc, .slice x.tA x.tm x.tc, .slice x.A x.m x.c, .slice x.B x.k x.d] 28)).alloc (.cells #[.slice p.rA p.rm p.rc, .slice p.uA p.um p.uc] 32)).alloc (.cells #[.slice none 0 0, .slice none 0 0] 32))) := below_more (below_more (below_alloc _ _) _) _
  have HW : Hid (WPB (((w.alloc (.cells #[.int .i64 x.N, .slice x.dA x.dm x.dc, .slice x.tA x.tm x.tc, .slice x.A x.m x.c, .slice x.B x.k x.d] 28)).alloc (.cells #[.slice p.rA p.rm p.rc, .slice p.uA p.um p.uc] 32)).alloc (.cells #[.slice none 0 0, .slice none 0 0] 32)) w.heap.size (w.heap.size + 1) x p) := HB3.out.1.below (below_alloc _ _)
  have HCK := Lib.hid (check_b x p _ (z, 0) hc HW.out.w.at_ HW.out.p.at_)
  have x0 := HW.out.w.c0
  have x1 := HW.out.w.c1
  have x2 := HW.out.w.c2
  have x3 := HW.out.w.c3
  have x4 := HW.out.w.c4
  have y0 := HW.out.p.c0
  have y1 := HW.out.p.c1
  have HLE : Hid (w.heap.size ≤ w.heap.size + 1 + 1) := by unfold Hid; omega
  have HNN := Lib.hid hn
  clear hx hp hc hn
  go_enter Tryz.func12, Tryz.ntmps12
  go_wp2_with fail
  clear x0 x1 x2 x3 x4 y0 y1
  generalize ((w.alloc (.cells #[.int .i64 x.N, .slice x.dA x.dm x.dc, .slice x.tA x.tm x.tc, .slice x.A x.m x.c, .slice x.B x.k x.d] 28)).alloc (.cells #[.slice p.rA p.rm p.rc, .slice p.uA p.um p.uc] 32)).alloc (.cells #[.slice none 0 0, .slice none 0 0] 32) = V at *
  with_reducible refine HCK.out.mono ?_
  rintro e w1 ⟨rfl, hb1⟩
  have HB1 := Lib.hid (below_next HB0.out hb1.out)
  have HR1 := Lib.hid (HB3.out.2.below hb1.out)
  have z0 := HR1.out.cell 0 _ rfl
  have z1 := HR1.out.cell 1 _ rfl
  have g0 := HR1.out.fz 0
  have g1 := HR1.out.fz 1
  by_cases h1 : n < 0
  · have d1 : decide (n < 0) = true := decide_eq_true h1
    go_wp2
    refine bodyPost_ret (results_imp rfl _ (plan_set HR1.out _ _) rfl rfl) rfl ⟨rfl, below_set2 HB1.out _ HLE.out _ _⟩
  · have d1 : decide (n < 0) = false := decide_eq_false h1
    have h2 : 100000 < n := by rcases HNN.out with h | h <;> omega
    have d2 : decide (100000 < n) = true := decide_eq_true h2
    go_wp2
    refine bodyPost_ret (results_imp rfl _ (plan_set HR1.out _ _) rfl rfl) rfl ⟨rfl, below_set2 HB1.out _ HLE.out _ _⟩

theorem bet_may {x : Wd} {a b : List Pl.Ro} (h : betB x a b = true) : Pl.May x.N x.D x.T x.os x.ts a (Pl.restS x.os a) := by
  unfold betB Pl.lessB at h
  exact (Pl.may_of (of_decide_eq_true h).1).1
end Go.Proofs.YtgjmlnpfkmpfgaaGreat
end

section
/-! Package better: Improve, where steps are taken. -/
namespace Go.Proofs.YtgjmlnpfkmpfgaaGreat
open Go.RowKit
set_option linter.unusedVariables false
set_option maxRecDepth 100000

/-- what is known between two steps that made it better -/
structure IM (w : World) (b0 b6 bn : Nat) (x : Wd) (rs : List Pl.Ro) (n : Nat) (q : Pd) (t m : Nat) (U : World) : Prop where
  bel : Below w.heap.size w U
  wx : WX U b0 x
  rb : Box U b6 #[.slice none 0 0, .slice none 0 0] 32
  nb : Box U bn q.cells 32
  own : PlOwn w.heap.size U q
  n1 : Nb q bn
  n2 : Nb q b6
  us : q.us = Pl.restS x.os (ros q.rs)
  cap : ∀ r ∈ q.rs, r.sm ≤ r.sc
  may : Pl.May x.N x.D x.T x.os x.ts (ros q.rs) q.us
  eq : Bt.goS (betB x) (mvB x) n rs (mvB x rs) = ((Bt.goS (betB x) (mvB x) m (ros q.rs) (mvB x (ros q.rs))).1, (Bt.goS (betB x) (mvB x) m (ros q.rs) (mvB x (ros q.rs))).2 + t)

set_option maxHeartbeats 4000000 in
theorem imp_yes (x : Wd) (p : Pd) (w : World) (z : Int) (n : Nat) (hc : Pl.checkS x.N x.D x.T x.os x.ts (ros p.rs) p.us = (z, 0)) (hn : n ≤ 100000) (hx : WAt w x) (hp : PAt w p) :
    Calls Tryz.prog 12 #[.agg #[.int .i64 x.N, .slice x.dA x.dm x.dc, .slice x.tA x.tm x.tc, .slice x.A x.m x.c, .slice x.B x.k x.d], .agg #[.slice p.rA p.rm p.rc, .slice p.uA p.um p.uc], .int .i64 (n : Int)] w (ImpPost w x (ros p.rs) n) := by
  have HMAY := Lib.hid (Pl.may_of (by rw [hc])).1
  have HXW := Lib.hid hx
  have HB3 := Lib.hid (box3 w x p hx hp)
  have HB0 : Hid (Below w.heap.size w (((w.alloc (.cells #[.int .i64 x.N, .slice x.dA x.dm x.dc, .slice x.tA x.tm x.tc, .slice x.A x.m x.c, .slice x.B x.k x.d] 28)).alloc (.cells #[.slice p.rA p.rm p.rc, .slice p.uA p.um p.uc] 32)).alloc (.cells #[.slice none 0 0, .slice none 0 0] 32))) := below_more (below_more (below_alloc _ _) _) _
  have HW : Hid (WPB (((w.alloc (.cells #[.int .i64 x.N, .slice x.dA x.dm x.dc, .slice x.tA x.tm x.tc, .slice x.A x.m x.c, .slice x.B x.k x.d] 28)).alloc (.cells #[.slice p.rA p.rm p.rc, .slice p.uA p.um p.uc] 32)).alloc (.cells #[.slice none 0 0, .slice none 0 0] 32)) w.heap.size (w.heap.size + 1) x p) := HB3.out.1.below (below_alloc _ _)
  have HR := Lib.hid HB3.out.2
  have HCK := Lib.hid (check_b x p _ (z, 0) hc HW.out.w.at_ HW.out.p.at_)
  have x0 := HW.out.w.c0
  have x1 := HW.out.w.c1
  have x2 := HW.out.w.c2
  have x3 := HW.out.w.c3
  have x4 := HW.out.w.c4
  have y0 := HW.out.p.c0
  have y1 := HW.out.p.c1
  have HLE : Hid (w.heap.size ≤ w.heap.size + 1 + 1) := by unfold Hid; omega
  have d1 : decide ((n : Int) < 0) = false := decide_eq_false (by omega)
  have d2 : decide ((100000 : Int) < (n : Int)) = false := decide_eq_false (by omega)
  clear hx hp hc HB3
  go_enter Tryz.func12, Tryz.ntmps12
  go_wp2_with fail
  clear x0 x1 x2 x3 x4 y0 y1
  generalize ((w.alloc (.cells #[.int .i64 x.N, .slice x.dA x.dm x.dc, .slice x.tA x.tm x.tc, .slice x.A x.m x.c, .slice x.B x.k x.d] 28)).alloc (.cells #[.slice p.rA p.rm p.rc, .slice p.uA p.um p.uc] 32)).alloc (.cells #[.slice none 0 0, .slice none 0 0] 32) = V at *
  generalize w.heap.size + 1 + 1 = b6 at *
  generalize w.heap.size + 1 = b1 at *
  with_reducible refine HCK.out.mono ?_
  rintro e w1 ⟨rfl, hb1⟩
  have HB1 := Lib.hid (below_next HB0.out hb1.out)
  have HW1 := Lib.hid (HW.out.below hb1.out)
  have HR1 := Lib.hid (HR.out.below hb1.out)
  have y0 := HW1.out.p.c0
  have y1 := HW1.out.p.c1
  have HCP := Lib.hid (copy_b p w1 HW1.out.p.at_)
  clear HCK HB0
  go_wp2_with fail
  clear y0 y1
  with_reducible refine HCP.out.mono ?_
  rintro e w2 ⟨q0, rfl, hq⟩
  have HI0 : Hid (IM w w.heap.size b6 w2.heap.size x (ros p.rs) n q0 0 n (w2.alloc (.cells #[.slice q0.rA q0.rm q0.rc, .slice q0.uA q0.um q0.uc] 32))) := by
    have ho := copied_own hq.out
    have ha := below_alloc w2 (.cells #[.slice q0.rA q0.rm q0.rc, .slice q0.uA q0.um q0.uc] 32)
    refine ⟨below_next (below_next HB1.out hq.out.bel) ha, (HW1.out.w.below hq.out.bel).below ha, (HR1.out.below hq.out.bel).below ha, Box.new w2 _ _, (ho.mono HB1.out.size).below ha, ho.nb_new, ho.nb HR1.out.lt, ?_, ?_, ?_, ?_⟩
    · rw [hq.out.us, hq.out.ro]; exact HMAY.out.us
    · intro r hr
      obtain ⟨_, _, _, _, h5⟩ := hq.out.own
      exact (h5 r hr).len.2.1
    · rw [hq.out.us, hq.out.ro]; exact HMAY.out
    · rw [hq.out.ro]; rfl
  have HBN : Hid (w.heap.size ≤ w2.heap.size ∧ w.heap.size ≠ w2.heap.size ∧ b6 ≠ w2.heap.size) := by
    have h1 := (HW1.out.w.box.below hq.out.bel).lt
    have h2 := (HR1.out.below hq.out.bel).lt
    unfold Hid; omega
  clear HCP hq
  go_wp2_with fail
  generalize w2.alloc (.cells #[.slice q0.rA q0.rm q0.rc, .slice q0.uA q0.um q0.uc] 32) = V2 at *
  generalize w2.heap.size = bn at *
  go_loopg [12] n (fun gk s12 Wx => ∃ (t : Nat) (q : Pd) (U : World), U = Wx ∧ t + gk = n ∧ s12 = .int .i64 (t : Int) ∧ Hid (IM w w.heap.size b6 bn x (ros p.rs) n q t gk U))
  case atStart => exact ⟨0, q0, _, rfl, by omega, rfl, HI0.out⟩
  case round =>
    clear HI0
    obtain ⟨t, q, U, rfl, htm, rfl, HI⟩ := hrel
    have x0 := HI.out.wx.c0
    have x1 := HI.out.wx.c1
    have x2 := HI.out.wx.c2
    have x3 := HI.out.wx.c3
    have x4 := HI.out.wx.c4
    have y0 : U.cell? ⟨bn, 0, none⟩ = some (.slice q.rA q.rm q.rc) := HI.out.nb.cell 0 _ rfl
    have y1 : U.cell? ⟨bn, 1, none⟩ = some (.slice q.uA q.um q.uc) := HI.out.nb.cell 1 _ rfl
    have wr1 : IntKind.i64.wrap ((n : Int) - (t : Int)) = (gk : Int) := by rw [IntWalk.i64_in _ (by omega)]; omega
    have HFB := Lib.hid (first_b x q U gk (by omega) HI.out.may HI.out.wx.at_ HI.out.own.at_ HI.out.cap)
    go_wp2_with fail
    with_reducible refine HFB.out.mono ?_
    clear x0 x1 x2 x3 x4 y0 y1 HFB
    rintro e w3 (⟨tt, hfs, rfl, hb⟩ | ⟨q2, tt, hfs, rfl, h⟩)
    · have HGO := Lib.hid (Bt.go_none (better := betB x) (mv := mvB x) gk hfs)
      have htt : tt ≤ gk := by have := Bt.fb_le (b := fun q' => betB x q' (ros q.rs)) gk (mvB x (ros q.rs)); rw [hfs] at this; exact this
      have wr2 : IntKind.i64.wrap ((t : Int) + (tt : Int)) = (t : Int) + (tt : Int) := IntWalk.i64_in _ (by omega)
      have HB4 : Hid (Below U.heap.size U (w3.alloc (.cells #[.slice none 0 0, .slice none 0 0] 32))) := below_next hb.out (below_alloc _ _)
      have HN4 := Lib.hid (HI.out.nb.below HB4.out)
      have HR4 := Lib.hid (HI.out.rb.below HB4.out)
      have y0 : (w3.alloc (.cells #[.slice none 0 0, .slice none 0 0] 32)).cell? ⟨bn, 0, none⟩ = some (.slice q.rA q.rm q.rc) := HN4.out.cell 0 _ rfl
      have y1 : (w3.alloc (.cells #[.slice none 0 0, .slice none 0 0] 32)).cell? ⟨bn, 1, none⟩ = some (.slice q.uA q.um q.uc) := HN4.out.cell 1 _ rfl
      have z0 := HR4.out.cell 0 _ rfl
      have z1 := HR4.out.cell 1 _ rfl
      have g0 := HR4.out.fz 0
      have g1 := HR4.out.fz 1
      clear hfs hb
      go_wp2_with fail
      clear y0 y1 z0 z1 g0 g1
      refine bodyPost_ret (results_imp rfl _ (plan_set HR4.out _ _) rfl rfl) rfl ⟨q, t + tt, ?_, ?_, below_set2 (below_next HI.out.bel HB4.out) b6 HLE.out _ _, (HI.out.own.below HB4.out).set HI.out.n2 _ _, HI.out.us, HI.out.cap⟩
      · first | rfl | (simp; done) | (congr 3; push_cast; rfl)
      · rw [HI.out.eq, HGO.out]
        show (_, tt + t) = _
        rw [Nat.add_comm]
    · obtain ⟨m, hm, hgo⟩ := Bt.go_some (better := betB x) (mv := mvB x) gk hfs
      obtain ⟨hmem, hbt, ht1, ht2⟩ := Bt.fb_some hfs
      have HGO := Lib.hid hgo
      have HMAY2 : Hid (Pl.May x.N x.D x.T x.os x.ts (ros q2.rs) q2.us) := by rw [h.out.2.2.1]; exact bet_may hbt
      have wr2 : IntKind.i64.wrap ((t : Int) + (tt : Int)) = (t : Int) + (tt : Int) := IntWalk.i64_in _ (by omega)
      have HB4 : Hid (Below U.heap.size U (w3.alloc (.cells #[.slice q2.rA q2.rm q2.rc, .slice q2.uA q2.um q2.uc] 32))) := below_next h.out.1 (below_alloc _ _)
      have HN4 := Lib.hid (HI.out.nb.below HB4.out)
      have HX4 : Hid (Box (w3.alloc (.cells #[.slice q2.rA q2.rm q2.rc, .slice q2.uA q2.um q2.uc] 32)) w3.heap.size q2.cells 32) := Box.new _ _ _
      have y0 : (w3.alloc (.cells #[.slice q2.rA q2.rm q2.rc, .slice q2.uA q2.um q2.uc] 32)).cell? ⟨w3.heap.size, 0, none⟩ = some (.slice q2.rA q2.rm q2.rc) := HX4.out.cell 0 _ rfl
      have y1 : (w3.alloc (.cells #[.slice q2.rA q2.rm q2.rc, .slice q2.uA q2.um q2.uc] 32)).cell? ⟨w3.heap.size, 1, none⟩ = some (.slice q2.uA q2.um q2.uc) := HX4.out.cell 1 _ rfl
      have z0 : (w3.alloc (.cells #[.slice q2.rA q2.rm q2.rc, .slice q2.uA q2.um q2.uc] 32)).cell? ⟨bn, 0, none⟩ = some (.slice q.rA q.rm q.rc) := HN4.out.cell 0 _ rfl
      have z1 : (w3.alloc (.cells #[.slice q2.rA q2.rm q2.rc, .slice q2.uA q2.um q2.uc] 32)).cell? ⟨bn, 1, none⟩ = some (.slice q.uA q.um q.uc) := HN4.out.cell 1 _ rfl
      have g0 := HN4.out.fz 0
      have g1 := HN4.out.fz 1
      have HI2 : Hid (IM w w.heap.size b6 bn x (ros p.rs) n q2 (t + tt) m (((w3.alloc (.cells #[.slice q2.rA q2.rm q2.rc, .slice q2.uA q2.um q2.uc] 32)).setCell ⟨bn, 0, none⟩ (.slice q2.rA q2.rm q2.rc)).setCell ⟨bn, 1, none⟩ (.slice q2.uA q2.um q2.uc))) := by
        have hbn := HI.out.nb.lt
        have hb6 := HI.out.rb.lt
        have hoth : ∀ i, i ≠ bn → (((w3.alloc (.cells #[.slice q2.rA q2.rm q2.rc, .slice q2.uA q2.um q2.uc] 32)).setCell ⟨bn, 0, none⟩ (.slice q2.rA q2.rm q2.rc)).setCell ⟨bn, 1, none⟩ (.slice q2.uA q2.um q2.uc)).heap[i]? = (w3.alloc (.cells #[.slice q2.rA q2.rm q2.rc, .slice q2.uA q2.um q2.uc] 32)).heap[i]? := fun i hi => but_set2 _ bn _ _ i hi
        have hbw : w.heap.size ≤ bn := HBN.out.1
        have hbel := below_set2 (below_next HI.out.bel HB4.out) bn hbw (.slice q2.rA q2.rm q2.rc) (.slice q2.uA q2.um q2.uc)
        refine ⟨hbel, ⟨(hoth _ HBN.out.2.1).trans (HI.out.wx.box.below HB4.out), HXW.out.below hbel⟩, (hoth b6 HBN.out.2.2).trans (HI.out.rb.below HB4.out), plan_set HN4.out _ _, ?_, h.out.2.1.nb hbn, h.out.2.1.nb hb6, h.out.2.2.1, h.out.2.2.2, HMAY2.out, ?_⟩
        · exact ((h.out.2.1.mono HI.out.bel.size).below (below_alloc _ _)).set (h.out.2.1.nb hbn) _ _
        · rw [HI.out.eq, HGO.out]
          show (_, _ + tt + t) = (_, _ + (t + tt))
          rw [Nat.add_assoc, Nat.add_comm tt t]
      clear hfs h hgo hmem hbt
      go_wp2_with fail
      go_roundg m
      case measure => omega
      case rel => exact ⟨t + tt, q2, _, rfl, by omega, by first | rfl | go_num, HI2.out⟩
end Go.Proofs.YtgjmlnpfkmpfgaaGreat
end
