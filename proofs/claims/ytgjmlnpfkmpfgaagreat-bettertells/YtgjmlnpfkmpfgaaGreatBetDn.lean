/- The document's answer for better: steps. -/
import Derived.Test.YtgjmlnpfkmpfgaaGreatBetMvm
import Derived.Test.YtgjmlnpfkmpfgaaGreatBetPqr
import Derived.Test.YtgjmlnpfkmpfgaaGreatBetNm
namespace Go.Proofs.YtgjmlnpfkmpfgaaGreat
open Go.RowKit
set_option linter.unusedVariables false
set_option maxRecDepth 100000

set_option maxHeartbeats 4000000 in
theorem dimp_check (x : Wd) (p : Pd) (w : World) (z n : Int) (hc : Pl.checkS x.N x.D x.T x.os x.ts (ros p.rs) p.us = (0, z)) (hz : z ≠ 0) (hx : WAt w x) (hp : PAt w p) :
    Calls Tryz.prog 13 #[.agg #[.int .i64 x.N, .slice x.dA x.dm x.dc, .slice x.tA x.tm x.tc, .slice x.A x.m x.c, .slice x.B x.k x.d], .agg #[.slice p.rA p.rm p.rc, .slice p.uA p.um p.uc], .int .i64 n] w fun e w' => e = .returned (.tuple #[.agg #[.slice none 0 0, .slice none 0 0], .int .i64 0, .int .i64 z]) ∧ Hid (Below w.heap.size w w') := by
  have HB3 := Lib.hid (box3 w x p hx hp)
  have HB0 : Hid (Below w.heap.size w (((w.alloc (.cells #[.int .i64 x.N, .slice x.dA x.dm x.dc, .slice x.tA x.tm x.tc, .slice x.A x.m x.c, .slice x.B x.k x.d] 28)).alloc (.cells #[.slice p.rA p.rm p.rc, .slice p.uA p.um p.uc] 32)).alloc (.cells #[.slice none 0 0, .slice none 0 0] 32))) := below_more (below_more (below_alloc _ _) _) _
  have HW : Hid (WPB (((w.alloc (.cells #[.int .i64 x.N, .slice x.dA x.dm x.dc, .slice x.tA x.tm x.tc, .slice x.A x.m x.c, .slice x.B x.k x.d] 28)).alloc (.cells #[.slice p.rA p.rm p.rc, .slice p.uA p.um p.uc] 32)).alloc (.cells #[.slice none 0 0, .slice none 0 0] 32)) w.heap.size (w.heap.size + 1) x p) := HB3.out.1.below (below_alloc _ _)
  have HCK := Lib.hid (dcheck_b x p _ (0, z) hc HW.out.w.at_ HW.out.p.at_)
  have d1 : (z != 0) = true := by simpa using hz
  have x0 := HW.out.w.c0
  have x1 := HW.out.w.c1
  have x2 := HW.out.w.c2
  have x3 := HW.out.w.c3
  have x4 := HW.out.w.c4
  have y0 := HW.out.p.c0
  have y1 := HW.out.p.c1
  have HLE : Hid (w.heap.size ≤ w.heap.size + 1 + 1) := by unfold Hid; omega
  clear hx hp hc
  go_enter Tryz.func13, Tryz.ntmps13
  go_wp2_with fail
  clear x0 x1 x2 x3 x4 y0 y1
  generalize ((w.alloc (.cells #[.int .i64 x.N, .slice x.dA x.dm x.dc, .slice x.tA x.tm x.tc, .slice x.A x.m x.c, .slice x.B x.k x.d] 28)).alloc (.cells #[.slice p.rA p.rm p.rc, .slice p.uA p.um p.uc] 32)).alloc (.cells #[.slice none 0 0, .slice none 0 0] 32) = V at *
  with_reducible refine HCK.out.mono ?_
  rintro e w1 ⟨rfl, hb1⟩
  have HB1 := Lib.hid (below_next HB0.out hb1.out)
  have HR1 := Lib.hid (HB3.out.2.below hb1.out)
  have z0 := HR1.out.cell 0 _ rfl
  have z1 := HR1.out.cell 1 _ rfl
  have g0 := HR1.out.fz 0
  have g1 := HR1.out.fz 1
  go_wp2
  refine bodyPost_ret (results_imp rfl _ (plan_set HR1.out _ _) rfl rfl) rfl ⟨rfl, below_set2 HB1.out _ HLE.out _ _⟩

set_option maxHeartbeats 4000000 in
theorem dimp_steps (x : Wd) (p : Pd) (w : World) (z n : Int) (hc : Pl.checkS x.N x.D x.T x.os x.ts (ros p.rs) p.us = (z, 0)) (hn : n < 0 ∨ 100000 < n) (hx : WAt w x) (hp : PAt w p) :
    Calls Tryz.prog 13 #[.agg #[.int .i64 x.N, .slice x.dA x.dm x.dc, .slice x.tA x.tm x.tc, .slice x.A x.m x.c, .slice x.B x.k x.d], .agg #[.slice p.rA p.rm p.rc, .slice p.uA p.um p.uc], .int .i64 n] w fun e w' => e = .returned (.tuple #[.agg #[.slice none 0 0, .slice none 0 0], .int .i64 0, .int .i64 1]) ∧ Hid (Below w.heap.size w w') := by
  have HB3 := Lib.hid (box3 w x p hx hp)
  have HB0 : Hid (Below w.heap.size w (((w.alloc (.cells #[.int .i64 x.N, .slice x.dA x.dm x.dc, .slice x.tA x.tm x.tc, .slice x.A x.m x.c, .slice x.B x.k x.d] 28)).alloc (.cells #[.slice p.rA p.rm p.rc, .slice p.uA p.um p.uc] 32)).alloc (.cells #[.slice none 0 0, .slice none 0 0] 32))) := below_more (below_more (below_alloc _ _) _) _
  have HW : Hid (WPB (((w.alloc (.cells #[.int .i64 x.N, .slice x.dA x.dm x.dc, .slice x.tA x.tm x.tc, .slice x.A x.m x.c, .slice x.B x.k x.d] 28)).alloc (.cells #[.slice p.rA p.rm p.rc, .slice p.uA p.um p.uc] 32)).alloc (.cells #[.slice none 0 0, .slice none 0 0] 32)) w.heap.size (w.heap.size + 1) x p) := HB3.out.1.below (below_alloc _ _)
  have HCK := Lib.hid (dcheck_b x p _ (z, 0) hc HW.out.w.at_ HW.out.p.at_)
  have x0 := HW.out.w.c0
  have x1 := HW.out.w.c1
  have x2 := HW.out.w.c2
  have x3 := HW.out.w.c3
  have x4 := HW.out.w.c4
  have y0 := HW.out.p.c0
  have y1 := HW.out.p.c1
  have HLE : Hid (w.heap.size ≤ w.heap.size + 1 + 1) := by unfold Hid; omega
  have HNN := Lib.hid hn
  clear hx hp hc hn
  go_enter Tryz.func13, Tryz.ntmps13
  go_wp2_with fail
  clear x0 x1 x2 x3 x4 y0 y1
  generalize ((w.alloc (.cells #[.int .i64 x.N, .slice x.dA x.dm x.dc, .slice x.tA x.tm x.tc, .slice x.A x.m x.c, .slice x.B x.k x.d] 28)).alloc (.cells #[.slice p.rA p.rm p.rc, .slice p.uA p.um p.uc] 32)).alloc (.cells #[.slice none 0 0, .slice none 0 0] 32) = V at *
  with_reducible refine HCK.out.mono ?_
  rintro e w1 ⟨rfl, hb1⟩
  have HB1 := Lib.hid (below_next HB0.out hb1.out)
  have HR1 := Lib.hid (HB3.out.2.below hb1.out)
  have z0 := HR1.out.cell 0 _ rfl
  have z1 := HR1.out.cell 1 _ rfl
  have g0 := HR1.out.fz 0
  have g1 := HR1.out.fz 1
  by_cases h1 : n < 0
  · have d1 : decide (n < 0) = true := decide_eq_true h1
    go_wp2
    refine bodyPost_ret (results_imp rfl _ (plan_set HR1.out _ _) rfl rfl) rfl ⟨rfl, below_set2 HB1.out _ HLE.out _ _⟩
  · have d1 : decide (n < 0) = false := decide_eq_false h1
    have h2 : 100000 < n := by rcases HNN.out with h | h <;> omega
    have d2 : decide (100000 < n) = true := decide_eq_true h2
    go_wp2
    refine bodyPost_ret (results_imp rfl _ (plan_set HR1.out _ _) rfl rfl) rfl ⟨rfl, below_set2 HB1.out _ HLE.out _ _⟩

/-- a plan that lies wherever, but not in some blocks -/
def Stp (h0 h1 : Nat) (q : Pd) (U : World) : Prop := ∀ W' : World, (∀ k, k < U.heap.size → (k < h0 ∨ h1 ≤ k) → W'.heap[k]? = U.heap[k]?) → PAt W' q
theorem Stp.now {h0 h1 : Nat} {q : Pd} {U : World} (h : Stp h0 h1 q U) : PAt U q := h U fun _ _ _ => rfl
theorem Stp.below {h0 h1 : Nat} {q : Pd} {U W : World} (h : Stp h0 h1 q U) (hb : Below U.heap.size U W) : Stp h0 h1 q W := fun W' ha => h W' fun k h1 h2 => (ha k (Nat.lt_of_lt_of_le h1 hb.size) h2).trans (hb.block k h1)
theorem Stp.set {h0 h1 b : Nat} {q : Pd} {U : World} (h : Stp h0 h1 q U) (hb : h0 ≤ b) (hb2 : b < h1) (v0 v1 : Value) : Stp h0 h1 q ((U.setCell ⟨b, 0, none⟩ v0).setCell ⟨b, 1, none⟩ v1) := fun W' ha => h W' fun k h1 h2 => (ha k (by simpa using h1) h2).trans (but_set2 U b v0 v1 k (by omega))
theorem PAt.stp {w U : World} {p : Pd} {h1 : Nat} (h : PAt w p) (hb : Below w.heap.size w U) : Stp w.heap.size h1 p U := fun W' ha => by
  have hk : ∀ k, k < w.heap.size → W'.heap[k]? = w.heap[k]? := fun k h1 => (ha k (Nat.lt_of_lt_of_le h1 hb.size) (.inl h1)).trans (hb.block k h1)
  have hi : ∀ {A : Option Addr} {l : List Int}, IntsAt w A l → IntsAt W' A l := fun {A l} hi j z hz => by
    obtain ⟨ad, e, hc⟩ := hi j z hz
    exact ⟨ad, e, by rw [World.cell?_of_block (w := w) (w' := W') (hk _ (lt_of_cell hc))]; exact hc⟩
  refine ⟨h.rl, h.r2, fun j r hr => ?_, fun r hr => ⟨(h.ra r hr).sl, (h.ra r hr).s2, hi (h.ra r hr).st⟩, h.tot, h.ul, h.u2, hi h.us⟩
  obtain ⟨ad, e, c0, c1⟩ := h.rows j r hr
  exact ⟨ad, e, by rw [World.cell?_of_block (w := w) (w' := W') (hk _ (lt_of_cell c0))]; exact c0, by rw [World.cell?_of_block (w := w) (w' := W') (hk _ (lt_of_cell c1))]; exact c1⟩
theorem ML.stp {U : World} {lo m c h0 h1 : Nat} {x : Wd} {t : List (List Pl.Ro)} {A : Option Addr} {l : List Pd} (h : ML U lo x t A m c l) (hb : h1 ≤ lo) {q : Pd} (hq : q ∈ l) : Stp h0 h1 q U := fun W' ha => h.ls.st q hq W' fun k h1 h2 _ => ha k h2 (.inr (by omega))
theorem ML.set {U : World} {lo m c b : Nat} {x : Wd} {t : List (List Pl.Ro)} {A : Option Addr} {l : List Pd} (h : ML U lo x t A m c l) (hb : b < lo) (v0 v1 : Value) : ML ((U.setCell ⟨b, 0, none⟩ v0).setCell ⟨b, 1, none⟩ v1) lo x t A m c l := by
  have hk : ∀ k, lo ≤ k → ((U.setCell ⟨b, 0, none⟩ v0).setCell ⟨b, 1, none⟩ v1).heap[k]? = U.heap[k]? := fun k h1 => but_set2 U b v0 v1 k (by omega)
  refine ⟨⟨?_, fun q hq => (h.ls.st q hq).step (fun k h1 h2 _ => hk k h1) (fun k h1 _ h2 => ⟨h1, h2⟩) (by simp)⟩, h.len, h.eq, h.us, h.cp⟩
  obtain ⟨h1, h2⟩ := h.ls.own
  refine ⟨h1, ?_⟩
  rcases h2 with h2 | ⟨g, cap, cur, hv, hg, hh, r⟩
  · exact .inl h2
  · exact .inr ⟨g, cap, cur, hv, hg, (hk g hg).trans hh, r⟩

/-- where the document's steps stand -/
structure DI (w : World) (b1 b2 b6 : Nat) (x : Wd) (rs : List Pl.Ro) (n : Nat) (q : Pd) (t k m' : Nat) (lo : Nat) (A : Option Addr) (m c : Nat) (l : List Pd) (U : World) : Prop where
  bel : Below w.heap.size w U
  wx : Box U b1 x.cells 28
  pb : Box U b2 q.cells 32
  rb : Box U b6 #[.slice none 0 0, .slice none 0 0] 32
  st : Stp w.heap.size (b6 + 1) q U
  nb : b6 < lo
  us : q.us = Pl.restS x.os (ros q.rs)
  cap : ∀ r ∈ q.rs, r.sm ≤ r.sc
  ok : OkR x (ros q.rs)
  ml : ML U lo x (Bt.moreL (ros q.rs) q.us (x.ts.map Ld.T.id) ++ Bt.movedL (ros q.rs) ++ Bt.swapL (ros q.rs)) A m c l
  eq : Bt.goS (betB x) (mvB x) n rs (mvB x rs) = ((Bt.goS (betB x) (mvB x) m' (ros q.rs) ((mvB x (ros q.rs)).drop k)).1, (Bt.goS (betB x) (mvB x) m' (ros q.rs) ((mvB x (ros q.rs)).drop k)).2 + t)
theorem DI.mv {w U : World} {b1 b2 b6 n t k m' lo m c : Nat} {x : Wd} {rs : List Pl.Ro} {q : Pd} {A : Option Addr} {l : List Pd} (h : DI w b1 b2 b6 x rs n q t k m' lo A m c l U) : (l.map fun q => ros q.rs) = mvB x (ros q.rs) := by
  rw [h.ml.eq, h.us]; rfl
theorem DI.below {w U W : World} {b1 b2 b6 n t k m' lo m c : Nat} {x : Wd} {rs : List Pl.Ro} {q : Pd} {A : Option Addr} {l : List Pd} (h : DI w b1 b2 b6 x rs n q t k m' lo A m c l U) (hb : Below U.heap.size U W) : DI w b1 b2 b6 x rs n q t k m' lo A m c l W :=
  ⟨below_next h.bel hb, h.wx.below hb, h.pb.below hb, h.rb.below hb, h.st.below hb, h.nb, h.us, h.cap, h.ok, h.ml.below hb, h.eq⟩
theorem DI.num {w U : World} {b1 b2 b6 n t k m' lo m c : Nat} {x : Wd} {rs : List Pl.Ro} {q : Pd} {A : Option Addr} {l : List Pd} (h : DI w b1 b2 b6 x rs n q t k m' lo A m c l U) : m = (mvB x (ros q.rs)).length ∧ m ≤ 20000 := by
  have h1 := congrArg List.length h.mv
  rw [List.length_map, h.ml.len] at h1
  have hmay := (Pl.may_of (N := x.N) (D := x.D) (T := x.T) (os := x.os) (ts := x.ts) (rs := ros q.rs) (us := Pl.restS x.os (ros q.rs)) h.ok).1
  have := Bt.movesL_len (Bt.sm_of hmay).1 (Bt.sm_of hmay).2.1 (Bt.sm_of hmay).2.2
  exact ⟨h1, by rw [h1]; exact this⟩
def DImpPost (w : World) (x : Wd) (rs : List Pl.Ro) (n : Nat) (e : Ending) (w' : World) : Prop := ∃ (q : Pd) (t : Nat), e = .returned (.tuple #[.agg #[.slice q.rA q.rm q.rc, .slice q.uA q.um q.uc], .int .i64 (t : Int), .int .i64 0]) ∧
  Bt.goS (betB x) (mvB x) n rs (mvB x rs) = (ros q.rs, t) ∧ Hid (Below w.heap.size w w' ∧ PAt w' q ∧ q.us = Pl.restS x.os (ros q.rs))
set_option maxHeartbeats 8000000 in
theorem dimp_yes (x : Wd) (p : Pd) (w : World) (z : Int) (n : Nat) (hc : Pl.checkS x.N x.D x.T x.os x.ts (ros p.rs) p.us = (z, 0)) (hn : n ≤ 100000) (hx : WAt w x) (hp : PAt w p) (hcap : ∀ r ∈ p.rs, r.sm ≤ r.sc) :
    Calls Tryz.prog 13 #[.agg #[.int .i64 x.N, .slice x.dA x.dm x.dc, .slice x.tA x.tm x.tc, .slice x.A x.m x.c, .slice x.B x.k x.d], .agg #[.slice p.rA p.rm p.rc, .slice p.uA p.um p.uc], .int .i64 (n : Int)] w (DImpPost w x (ros p.rs) n) := by
  have HMAY := Lib.hid (Pl.may_of (by rw [hc])).1
  have HXW := Lib.hid hx
  have HPW := Lib.hid hp
  have HCAP := Lib.hid hcap
  have HCZ := Lib.hid hc
  have HB3 := Lib.hid (box3 w x p hx hp)
  have HB0 : Hid (Below w.heap.size w (((w.alloc (.cells #[.int .i64 x.N, .slice x.dA x.dm x.dc, .slice x.tA x.tm x.tc, .slice x.A x.m x.c, .slice x.B x.k x.d] 28)).alloc (.cells #[.slice p.rA p.rm p.rc, .slice p.uA p.um p.uc] 32)).alloc (.cells #[.slice none 0 0, .slice none 0 0] 32))) := below_more (below_more (below_alloc _ _) _) _
  have HW : Hid (WPB (((w.alloc (.cells #[.int .i64 x.N, .slice x.dA x.dm x.dc, .slice x.tA x.tm x.tc, .slice x.A x.m x.c, .slice x.B x.k x.d] 28)).alloc (.cells #[.slice p.rA p.rm p.rc, .slice p.uA p.um p.uc] 32)).alloc (.cells #[.slice none 0 0, .slice none 0 0] 32)) w.heap.size (w.heap.size + 1) x p) := HB3.out.1.below (below_alloc _ _)
  have HR := Lib.hid HB3.out.2
  have HCK := Lib.hid (dcheck_b x p _ (z, 0) hc HW.out.w.at_ HW.out.p.at_)
  have x0 := HW.out.w.c0
  have x1 := HW.out.w.c1
  have x2 := HW.out.w.c2
  have x3 := HW.out.w.c3
  have x4 := HW.out.w.c4
  have y0 := HW.out.p.c0
  have y1 := HW.out.p.c1
  have HLE : Hid (w.heap.size ≤ w.heap.size + 1 ∧ w.heap.size + 1 < w.heap.size + 1 + 1 ∧ w.heap.size + 1 + 1 < (((w.alloc (.cells #[.int .i64 x.N, .slice x.dA x.dm x.dc, .slice x.tA x.tm x.tc, .slice x.A x.m x.c, .slice x.B x.k x.d] 28)).alloc (.cells #[.slice p.rA p.rm p.rc, .slice p.uA p.um p.uc] 32)).alloc (.cells #[.slice none 0 0, .slice none 0 0] 32)).heap.size) := by unfold Hid; simp
  have HBN : Hid (w.heap.size < w.heap.size + 1) := by unfold Hid; omega
  have d1 : decide ((n : Int) < 0) = false := decide_eq_false (by omega)
  have d2 : decide ((100000 : Int) < (n : Int)) = false := decide_eq_false (by omega)
  clear hx hp hc HB3 hcap
  go_enter Tryz.func13, Tryz.ntmps13
  go_wp2_with fail
  clear x0 x1 x2 x3 x4 y0 y1
  generalize ((w.alloc (.cells #[.int .i64 x.N, .slice x.dA x.dm x.dc, .slice x.tA x.tm x.tc, .slice x.A x.m x.c, .slice x.B x.k x.d] 28)).alloc (.cells #[.slice p.rA p.rm p.rc, .slice p.uA p.um p.uc] 32)).alloc (.cells #[.slice none 0 0, .slice none 0 0] 32) = V at *
  generalize w.heap.size + 1 + 1 = b6 at *
  generalize w.heap.size + 1 = b2 at *
  with_reducible refine HCK.out.mono ?_
  rintro e w1 ⟨rfl, hb1⟩
  have HB1 := Lib.hid (below_next HB0.out hb1.out)
  have HW1 := Lib.hid (HW.out.below hb1.out)
  have HR1 := Lib.hid (HR.out.below hb1.out)
  have HL1 : Hid (b6 < w1.heap.size) := Nat.lt_of_lt_of_le HLE.out.2.2 hb1.out.size
  clear HCK HB0 HW HR hb1
  have x0 := HW1.out.w.c0
  have x1 := HW1.out.w.c1
  have x2 := HW1.out.w.c2
  have x3 := HW1.out.w.c3
  have x4 := HW1.out.w.c4
  have y0 := HW1.out.p.c0
  have y1 := HW1.out.p.c1
  have HDM := Lib.hid (dmoves_yes x p w1 z HCZ.out HW1.out.w.at_ HW1.out.p.at_ HCAP.out)
  go_wp2_with fail
  clear x0 x1 x2 x3 x4 y0 y1 d1 d2
  with_reducible refine HDM.out.mono ?_
  rintro e w2 hp2
  obtain ⟨A, m, c, l, rfl, h2⟩ := hp2.ml
  have HI : Hid (DI w w.heap.size b2 b6 x (ros p.rs) n p 0 0 n w1.heap.size A m c l w2) := by
    have hb := below_next HB1.out h2.out.1
    have hus : p.us = Pl.restS x.os (ros p.rs) := HMAY.out.us
    exact ⟨hb, (HW1.out.below h2.out.1).w.box, (HW1.out.below h2.out.1).p.box, HR1.out.below h2.out.1, HPW.out.stp hb, HL1.out, hus, HCAP.out, by unfold OkR; rw [← hus, HCZ.out], h2.out.2, rfl⟩
  clear HDM hp2 h2 HW1 HR1 HB1 HL1
  go_wp2_with fail
  go_loopg [11, 12, 13] n (fun gk s11 s12 s13 Wx => ∃ (t k lo m c : Nat) (A : Option Addr) (q : Pd) (l : List Pd) (W : World), W = Wx ∧ t + gk = n ∧ s11 = .int .i64 (t : Int) ∧ s12 = .slice A m c ∧ s13 = .int .i64 (k : Int) ∧ k ≤ m ∧ Hid (DI w w.heap.size b2 b6 x (ros p.rs) n q t k gk lo A m c l W))
  case atStart => exact ⟨0, 0, _, _, _, _, p, l, _, rfl, by omega, rfl, rfl, rfl, Nat.zero_le _, HI.out⟩
  case round =>
    clear HI
    obtain ⟨t, k, lo, m, c, A, q, l, W, rfl, htg, rfl, rfl, rfl, hkm, HI⟩ := hrel
    have hm2 := HI.out.num.2
    by_cases ht : t < n
    · have d1 : decide ((t : Int) < (n : Int)) = true := decide_eq_true (by omega)
      have d2 : decide (t < n) = true := decide_eq_true ht
      obtain ⟨g, rfl⟩ : ∃ j, gk = j + 1 := ⟨gk - 1, by omega⟩
      by_cases hk : k < m
      · have d3 : decide ((k : Int) < (m : Int)) = true := decide_eq_true (by omega)
        have d4 : decide (k < m) = true := decide_eq_true hk
        have i1 : (0 : Int) ≤ (k : Int) := by omega
        have i2 : (k : Int) < (m : Int) := by omega
        obtain ⟨q1, hq1⟩ := mlist_at l k (by rw [HI.out.ml.len]; exact hk)
        have HQ1 := Lib.hid hq1
        obtain ⟨A', c', he, _, _, hrow, _⟩ := HI.out.ml.ls.own.row
        injection he with e1 e2 e3
        rw [← e1] at hrow
        obtain ⟨ad, hA, a0, a1⟩ := hrow k q1 hq1
        have HROW : Hid (∀ U, Below W.heap.size W U → U.cell? (ad.add (k * 2)) = some (.slice q1.rA q1.rm q1.rc) ∧ U.cell? ⟨(ad.add (k * 2)).block, (ad.add (k * 2)).off + 1, none⟩ = some (.slice q1.uA q1.um q1.uc)) := fun U hU => ⟨(hU.cell (p := ad.add (k * 2)) (lt_of_cell a0)).trans a0, (hU.cell (lt_of_cell a1)).trans a1⟩
        obtain ⟨r, hr⟩ : ∃ r, betB x (ros q1.rs) (ros q.rs) = r := ⟨_, rfl⟩
        have HRR := Lib.hid hr
        have hmv : (mvB x (ros q.rs)).drop k = ros q1.rs :: (mvB x (ros q.rs)).drop (k + 1) := by
          have h1 : (mvB x (ros q.rs))[k]? = some (ros q1.rs) := by rw [← HI.out.mv, List.getElem?_map, hq1]; rfl
          obtain ⟨h2, h3⟩ := List.getElem?_eq_some_iff.1 h1
          rw [List.drop_eq_getElem_cons h2, h3]
        have HMV := Lib.hid hmv
        have hmem := List.mem_of_getElem? hq1
        have HUS1 : Hid (q1.us = Pl.restS x.os (ros q1.rs)) := HI.out.ml.us q1 hmem
        have HCAP1 : Hid (∀ r ∈ q1.rs, r.sm ≤ r.sc) := HI.out.ml.cp q1 hmem
        have HBd : Hid (Below W.heap.size W W.drew) := (Below.refl _ _).drew
        have HI2 := Lib.hid (HI.out.below HBd.out)
        have HST1 : Hid (Stp w.heap.size (b6 + 1) q1 W.drew) := (HI.out.ml.stp (by have := HI.out.nb; omega) hmem).below HBd.out
        have HLS := Lib.hid (dless_b x q1 q W.drew r (by rw [← hr]; exact less_bet HUS1.out HI2.out.us HST1.out.now.ul HI2.out.st.now.ul) (HXW.out.below HI2.out.bel) HST1.out.now HI2.out.st.now)
        obtain rfl := hA
        have HADW := Lib.hid (HROW.out _ HBd.out)
        have x0 := wbox0 HI.out.wx
        have x1 := wbox1 HI.out.wx
        have x2 := wbox2 HI.out.wx
        have x3 := wbox3 HI.out.wx
        have x4 := wbox4 HI.out.wx
        have y0 := pbox0 HI.out.pb
        have y1 := pbox1 HI.out.pb
        clear hr hmv hmem hq1 hrow e1 e2 e3 HI
        go_wp2
        go_still_tail 6, (by kernel_rfl)
        change wpList _ _ _ _ _ W.drew
        clear x0 x1 x2 x3 x4 y0 y1 a0 a1
        generalize W.drew = W2 at *
        go_wp2_with fail
        with_reducible refine HLS.out.mono ?_
        rintro e w3 ⟨rfl, h3⟩
        have HI3 := Lib.hid (HI2.out.below h3.out)
        have HST3 := Lib.hid (HST1.out.below h3.out)
        have a0 : w3.cell? (ad.add (k * 2)) = some (.slice q1.rA q1.rm q1.rc) := (h3.out.cell (p := ad.add (k * 2)) (lt_of_cell HADW.out.1)).trans HADW.out.1
        have a1 : w3.cell? ⟨(ad.add (k * 2)).block, (ad.add (k * 2)).off + 1, none⟩ = some (.slice q1.uA q1.um q1.uc) := (h3.out.cell (lt_of_cell HADW.out.2)).trans HADW.out.2
        clear HI2 HST1 HLS HROW HADW HBd h3
        cases r with
        | true =>
          have HOK1 : Hid (OkR x (ros q1.rs)) := (of_decide_eq_true HRR.out).1
          have z0 : w3.cell? ⟨b2, 0, none⟩ = some (.slice q.rA q.rm q.rc) := pbox0 HI3.out.pb
          have z1 : w3.cell? ⟨b2, 1, none⟩ = some (.slice q.uA q.um q.uc) := pbox1 HI3.out.pb
          have g0 := HI3.out.pb.fz 0
          have g1 := HI3.out.pb.fz 1
          have HB4 : Hid (Below w.heap.size w ((w3.setCell ⟨b2, 0, none⟩ (.slice q1.rA q1.rm q1.rc)).setCell ⟨b2, 1, none⟩ (.slice q1.uA q1.um q1.uc))) := below_set2 HI3.out.bel b2 HLE.out.1 _ _
          have HX4 : Hid (Box ((w3.setCell ⟨b2, 0, none⟩ (.slice q1.rA q1.rm q1.rc)).setCell ⟨b2, 1, none⟩ (.slice q1.uA q1.um q1.uc)) w.heap.size x.cells 28) := (but_set2 w3 b2 _ _ _ (by have := HBN.out; omega)).trans HI3.out.wx
          have HP4 : Hid (Box ((w3.setCell ⟨b2, 0, none⟩ (.slice q1.rA q1.rm q1.rc)).setCell ⟨b2, 1, none⟩ (.slice q1.uA q1.um q1.uc)) b2 q1.cells 32) := plan_set HI3.out.pb _ _
          have HR4 : Hid (Box ((w3.setCell ⟨b2, 0, none⟩ (.slice q1.rA q1.rm q1.rc)).setCell ⟨b2, 1, none⟩ (.slice q1.uA q1.um q1.uc)) b6 #[.slice none 0 0, .slice none 0 0] 32) := (but_set2 w3 b2 _ _ _ (by have := HLE.out.2.1; omega)).trans HI3.out.rb
          have HS4 : Hid (Stp w.heap.size (b6 + 1) q1 ((w3.setCell ⟨b2, 0, none⟩ (.slice q1.rA q1.rm q1.rc)).setCell ⟨b2, 1, none⟩ (.slice q1.uA q1.um q1.uc))) := HST3.out.set HLE.out.1 (by have := HLE.out.2.1; omega) _ _
          have HL4 : Hid (b6 < ((w3.setCell ⟨b2, 0, none⟩ (.slice q1.rA q1.rm q1.rc)).setCell ⟨b2, 1, none⟩ (.slice q1.uA q1.um q1.uc)).heap.size) := HR4.out.lt
          have HZ : Hid (∃ z2, Pl.checkS x.N x.D x.T x.os x.ts (ros q1.rs) q1.us = (z2, 0)) := by
            unfold Hid
            rw [HUS1.out]
            exact ⟨_, Prod.ext rfl HOK1.out⟩
          obtain ⟨z2, hz2⟩ := HZ.out
          have HDM := Lib.hid (dmoves_yes x q1 _ z2 hz2 (HXW.out.below HB4.out) HS4.out.now HCAP1.out)
          have HEQ := HI3.out.eq
          rw [HMV.out, Bt.go_yes HRR.out] at HEQ
          have HEQ2 := Lib.hid HEQ
          clear HEQ hz2 HZ
          have x0 := wbox0 HX4.out
          have x1 := wbox1 HX4.out
          have x2 := wbox2 HX4.out
          have x3 := wbox3 HX4.out
          have x4 := wbox4 HX4.out
          have y0 := pbox0 HP4.out
          have y1 := pbox1 HP4.out
          go_wp2_with fail
          clear x0 x1 x2 x3 x4 y0 y1 z0 z1 g0 g1 a0 a1
          with_reducible refine HDM.out.mono ?_
          rintro e w5 hp5
          obtain ⟨A5, m5, c5, l5, rfl, h5⟩ := hp5.ml
          generalize ((w3.setCell ⟨b2, 0, none⟩ (.slice q1.rA q1.rm q1.rc)).setCell ⟨b2, 1, none⟩ (.slice q1.uA q1.um q1.uc)) = w4 at *
          have HI5 : Hid (DI w w.heap.size b2 b6 x (ros p.rs) n q1 (t + 1) 0 g w4.heap.size A5 m5 c5 l5 w5) := by
            have hb := h5.out.1
            refine ⟨below_next HB4.out hb, HX4.out.below hb, HP4.out.below hb, HR4.out.below hb, HS4.out.below hb, HL4.out, HUS1.out, HCAP1.out, HOK1.out, h5.out.2, ?_⟩
            rw [HEQ2.out]
            show (_, _ + 1 + t) = (_, _ + (t + 1))
            rw [Nat.add_assoc, Nat.add_comm 1 t]
            rfl
          clear HDM hp5 h5 HI3 HST3 HB4 HX4 HP4 HR4 HS4 HL4
          go_wp2_with fail
          go_roundg g
          case measure => omega
          case rel => exact ⟨t + 1, 0, _, m5, c5, A5, q1, l5, _, rfl, by omega, by first | rfl | go_num, rfl, rfl, Nat.zero_le _, HI5.out⟩
        | false =>
          have HEQ := HI3.out.eq
          rw [HMV.out, Bt.go_no HRR.out] at HEQ
          have HI4 : Hid (DI w w.heap.size b2 b6 x (ros p.rs) n q (t + 1) (k + 1) g lo (some ad) m c l w3) := by
            refine ⟨HI3.out.bel, HI3.out.wx, HI3.out.pb, HI3.out.rb, HI3.out.st, HI3.out.nb, HI3.out.us, HI3.out.cap, HI3.out.ok, HI3.out.ml, ?_⟩
            rw [HEQ]
            show (_, _ + 1 + t) = (_, _ + (t + 1))
            rw [Nat.add_assoc, Nat.add_comm 1 t]
          clear HEQ HI3 a0 a1
          go_wp2_with fail
          go_roundg g
          case measure => omega
          case rel => exact ⟨t + 1, k + 1, lo, m, c, some ad, q, l, _, rfl, by omega, by first | rfl | go_num, rfl, by first | rfl | go_num, by omega, HI4.out⟩
      · have d3 : decide ((k : Int) < (m : Int)) = false := decide_eq_false (by omega)
        have d4 : decide (k < m) = false := decide_eq_false hk
        have HFIN : Hid (Bt.goS (betB x) (mvB x) n (ros p.rs) (mvB x (ros p.rs)) = (ros q.rs, t)) := by
          have h := HI.out.eq
          rw [List.drop_eq_nil_of_le (by have := HI.out.num.1; omega), Bt.go_nil] at h
          rw [h]
          show (_, 0 + t) = _
          rw [Nat.zero_add]
        have y0 := pbox0 HI.out.pb
        have y1 := pbox1 HI.out.pb
        have z0 : W.cell? ⟨b6, 0, none⟩ = some (.slice none 0 0) := HI.out.rb.cell 0 _ rfl
        have z1 : W.cell? ⟨b6, 1, none⟩ = some (.slice none 0 0) := HI.out.rb.cell 1 _ rfl
        have g0 := HI.out.rb.fz 0
        have g1 := HI.out.rb.fz 1
        go_wp2_with fail
        clear y0 y1 z0 z1 g0 g1
        refine bodyPost_ret (results_imp rfl _ (plan_set HI.out.rb _ _) rfl rfl) rfl ⟨q, t, rfl, HFIN.out, below_set2 HI.out.bel b6 (by have h1 := HLE.out.1; have h2 := HLE.out.2.1; omega) _ _, (HI.out.st.set (b := b6) (by have h1 := HLE.out.1; have h2 := HLE.out.2.1; omega) (by omega) _ _).now, HI.out.us⟩
    · have d1 : decide ((t : Int) < (n : Int)) = false := decide_eq_false (by omega)
      have d2 : decide (t < n) = false := decide_eq_false ht
      have hg0 : gk = 0 := by omega
      have HFIN : Hid (Bt.goS (betB x) (mvB x) n (ros p.rs) (mvB x (ros p.rs)) = (ros q.rs, t)) := by
        have h := HI.out.eq
        rw [hg0, Bt.go_zero] at h
        rw [h]
        show (_, 0 + t) = _
        rw [Nat.zero_add]
      have y0 := pbox0 HI.out.pb
      have y1 := pbox1 HI.out.pb
      have z0 : W.cell? ⟨b6, 0, none⟩ = some (.slice none 0 0) := HI.out.rb.cell 0 _ rfl
      have z1 : W.cell? ⟨b6, 1, none⟩ = some (.slice none 0 0) := HI.out.rb.cell 1 _ rfl
      have g0 := HI.out.rb.fz 0
      have g1 := HI.out.rb.fz 1
      go_wp2_with fail
      clear y0 y1 z0 z1 g0 g1
      refine bodyPost_ret (results_imp rfl _ (plan_set HI.out.rb _ _) rfl rfl) rfl ⟨q, t, rfl, HFIN.out, below_set2 HI.out.bel b6 (by have h1 := HLE.out.1; have h2 := HLE.out.2.1; omega) _ _, (HI.out.st.set (b := b6) (by have h1 := HLE.out.1; have h2 := HLE.out.2.1; omega) (by omega) _ _).now, HI.out.us⟩
end Go.Proofs.YtgjmlnpfkmpfgaaGreat
