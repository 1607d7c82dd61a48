/- Texts joined: Whether two plans are the same: the law's own function; what stays of what came in. More than the statements look at. -/
import Derived.Test.YtgjmlnpfkmpfgaaGreatPlanL
section
/-! Whether two plans are the same: the law's own function; what stays of what came in. -/
namespace Go.Proofs.YtgjmlnpfkmpfgaaGreat
open Go.RowKit
set_option linter.unusedVariables false
set_option maxRecDepth 100000

theorem WorldIn.below {w w' : World} {x : Wd} (h : WorldIn w x) (hb : Below w.heap.size w w') : WorldIn w' x := ⟨h.n, h.dl, h.dx, h.tl, h.tx, h.ml, h.mx, h.kl, h.kx, h.D.below hb, h.T.below hb, h.os.below hb, h.ts.below hb⟩
theorem RouteIn.below {w w' : World} {r : Rd} (h : RouteIn w r) (hb : Below w.heap.size w w') : RouteIn w' r := ⟨h.sl, h.sc, h.sx, h.st.below hb⟩
theorem PlanIn.below {w w' : World} {p : Pd} (h : PlanIn w p) (hb : Below w.heap.size w w') : PlanIn w' p := ⟨h.rl, h.rx, h.rc, h.rows.below hb, fun r hr => (h.ra r hr).below hb, h.ul, h.ux, h.us.below hb⟩

/-- the boxes of two plans -/
structure PP (V : World) (b1 b2 : Nat) (p q : Pd) : Prop where
  p : PX V b1 p
  q : PX V b2 q
theorem PP.below {V V' : World} {b1 b2 : Nat} {p q : Pd} (h : PP V b1 b2 p q) (hb : Below V.heap.size V V') : PP V' b1 b2 p q := ⟨h.p.below hb, h.q.below hb⟩
theorem PP.new {w : World} {p q : Pd} (hp : PAt w p) (hq : PAt w q) : PP ((w.alloc (.cells #[.slice p.rA p.rm p.rc, .slice p.uA p.um p.uc] 32)).alloc (.cells #[.slice q.rA q.rm q.rc, .slice q.uA q.um q.uc] 32)) w.heap.size (w.heap.size + 1) p q := by
  refine ⟨(PX.new hp).below (below_alloc _ _), ?_⟩
  rw [size_one w (.cells #[.slice p.rA p.rm p.rc, .slice p.uA p.um p.uc] 32)]
  exact PX.new (hq.below (below_alloc _ _))

set_option maxHeartbeats 4000000 in
theorem pequal_b (p q : Pd) (w : World) (hp : PAt w p) (hq : PAt w q) (hro : ros p.rs = ros q.rs) (hus : p.us = q.us) :
    Calls Tryz.prog 14 #[.agg #[.slice p.rA p.rm p.rc, .slice p.uA p.um p.uc], .agg #[.slice q.rA q.rm q.rc, .slice q.uA q.um q.uc]] w fun e w' => e = .returned (.bool true) ∧ Hid (Below w.heap.size w w') := by
  have HX := Lib.hid (PP.new hp hq)
  have HB0 : Hid (Below w.heap.size w ((w.alloc (.cells #[.slice p.rA p.rm p.rc, .slice p.uA p.um p.uc] 32)).alloc (.cells #[.slice q.rA q.rm q.rc, .slice q.uA q.um q.uc] 32))) := below_more (below_alloc _ _) _
  have HRO := Lib.hid hro
  have HUS := Lib.hid hus
  have hrm := hp.r2
  have hqm := hq.r2
  have HMM : Hid (p.rm = q.rm) := by unfold Hid; rw [← hp.rl, ← hq.rl, ← ros_len, ← ros_len, hro]
  have d1 : ((p.rm : Int) != (q.rm : Int)) = false := by rw [HMM.out]; simp
  clear hp hq hro hus
  go_enter Tryz.func14, Tryz.ntmps14
  have x0 := HX.out.p.c0
  have x1 := HX.out.p.c1
  have y0 := HX.out.q.c0
  have y1 := HX.out.q.c1
  go_wp2_with fail
  generalize ((w.alloc (.cells #[.slice p.rA p.rm p.rc, .slice p.uA p.um p.uc] 32)).alloc (.cells #[.slice q.rA q.rm q.rc, .slice q.uA q.um q.uc] 32)) = V at *
  generalize w.heap.size + 1 = b2 at *
  generalize hb1 : w.heap.size = b1 at HX x0 x1 ⊢
  have HB1 := Lib.hid hb1
  clear hb1 x0 x1 y0 y1
  have HC := Lib.hid (psame_b p.uA q.uA p.um p.uc q.um q.uc p.us q.us V true (decide_eq_true HUS.out) HX.out.p.at_.ul HX.out.q.at_.ul (by have := HX.out.p.at_.u2; omega) (by have := HX.out.q.at_.u2; omega) HX.out.p.at_.us HX.out.q.at_.us)
  with_reducible refine HC.out.mono ?_
  rintro e V1 ⟨rfl, q1, rfl⟩
  have HX1 := Lib.hid (HX.out.below (drewN_below V q1))
  have HBV := Lib.hid (below_next HB0.out (drewN_below V q1))
  clear HX HC HB0
  generalize V.drewN q1 = V1 at *
  go_wp2_with fail
  go_loopg [4, 5] p.rm (fun gk s4 s5 W => ∃ (k m : Nat), k + gk = p.rm ∧ s4 = .bool false ∧ s5 = .int .i64 k ∧ W = V1.drewN m)
  case atStart => exact ⟨0, 0, by omega, rfl, rfl, rfl⟩
  case round =>
    obtain ⟨k, m, hkg, rfl, rfl, rfl⟩ := hrel
    have HW : Hid (∀ j, (V1.drewN m).drewN j = V1.drewN (m + j)) := fun j => by simp
    have HXW := Lib.hid (HX1.out.below (drewN_below V1 m))
    have x0 := HXW.out.p.c0
    have y0 := HXW.out.q.c0
    by_cases hlt : k < p.rm
    · obtain ⟨gk, rfl⟩ : ∃ j, gk = j + 1 := ⟨gk - 1, by omega⟩
      obtain ⟨r, hr⟩ := mlist_at p.rs k (by rw [HXW.out.p.at_.rl]; exact hlt)
      obtain ⟨s, hs⟩ := mlist_at q.rs k (by rw [HXW.out.q.at_.rl, ← HMM.out]; exact hlt)
      have hrs : r.ro = s.ro := by
        have h1 := ros_at hr
        rw [HRO.out, ros_at hs] at h1
        exact (Option.some.inj h1).symm
      obtain ⟨ad, hrA, hc, hra⟩ := HXW.out.p.at_.at_ hr
      obtain ⟨bd, hqA, hd, hqa⟩ := HXW.out.q.at_.at_ hs
      obtain ⟨c0, c1⟩ := hc
      obtain ⟨e0, e1⟩ := hd
      have htr : r.tr = s.tr := by injection hrs
      have hst : r.st = s.st := by injection hrs
      have i1 : (0 : Int) ≤ (k : Int) := by omega
      have i2 : (k : Int) < (p.rm : Int) := by omega
      have i3 : (k : Int) < (q.rm : Int) := by rw [← HMM.out]; omega
      have d2 : (r.tr != s.tr) = false := by rw [htr]; simp
      have HS : Hid (∀ j, Calls Tryz.prog 19 #[.slice r.sA r.sm r.sc, .slice s.sA s.sm s.sc] ((V1.drewN m).drewN j) fun e w' => e = .returned (.bool true) ∧ ∃ j, w' = (V1.drewN m).drewN j) := fun j => by
        refine (psame_b r.sA s.sA r.sm r.sc s.sm s.sc r.st s.st ((V1.drewN m).drewN j) true (decide_eq_true hst) hra.sl hqa.sl (by have := hra.s2; omega) (by have := hqa.s2; omega) (hra.st.below (drewN_below _ _)) (hqa.st.below (drewN_below _ _))).mono fun e w' ⟨e1, j2, e2⟩ => ⟨e1, j + j2, by rw [e2]; simp [Nat.add_assoc]⟩
      have HRA := Lib.hid hrA
      have HQA := Lib.hid hqA
      clear hr hs hrs hrA hqA hra hqa htr hst HXW
      generalize p.rA = rA at *
      generalize q.rA = qA at *
      obtain rfl := HRA.out
      obtain rfl := HQA.out
      generalize V1.drewN m = W at *
      go_wp2
      go_quiet ((go_at_call 19; exact HS.out _))
      go_wp2
      go_roundg gk
      case measure => omega
      case rel => exact ⟨k + 1, _, by omega, rfl, by first | rfl | go_num, HW.out _⟩
    · have hk : k = p.rm := by omega
      have HBE := Lib.hid (below_next HBV.out (drewN_below V1 m))
      clear HXW HW
      generalize V1.drewN m = W at *
      go_wp2
      go_ret
      exact ⟨rfl, HBE.out⟩

set_option maxHeartbeats 4000000 in
theorem pequal_any (p q : Pd) (w : World) (hp : PAt w p) (hq : PAt w q) :
    Calls Tryz.prog 14 #[.agg #[.slice p.rA p.rm p.rc, .slice p.uA p.um p.uc], .agg #[.slice q.rA q.rm q.rc, .slice q.uA q.um q.uc]] w fun e w' => ∃ b : Bool, e = .returned (.bool b) ∧ Hid (Below w.heap.size w w') := by
  have HX := Lib.hid (PP.new hp hq)
  have HB0 : Hid (Below w.heap.size w ((w.alloc (.cells #[.slice p.rA p.rm p.rc, .slice p.uA p.um p.uc] 32)).alloc (.cells #[.slice q.rA q.rm q.rc, .slice q.uA q.um q.uc] 32))) := below_more (below_alloc _ _) _
  have hrm := hp.r2
  have hqm := hq.r2
  clear hp hq
  obtain ⟨t, d1⟩ : ∃ t, ((p.rm : Int) != (q.rm : Int)) = t := ⟨_, rfl⟩
  have HMM : Hid (t = false → p.rm = q.rm) := fun e => by rw [e] at d1; have := bne_eq_false_iff_eq.1 d1; omega
  go_enter Tryz.func14, Tryz.ntmps14
  have x0 := HX.out.p.c0
  have x1 := HX.out.p.c1
  have y0 := HX.out.q.c0
  have y1 := HX.out.q.c1
  cases t with
  | true =>
    go_wp2_with fail
    go_ret
    exact ⟨_, rfl, HB0.out⟩
  | false =>
  have HM := Lib.hid (HMM.out rfl)
  clear HMM
  go_wp2_with fail
  generalize ((w.alloc (.cells #[.slice p.rA p.rm p.rc, .slice p.uA p.um p.uc] 32)).alloc (.cells #[.slice q.rA q.rm q.rc, .slice q.uA q.um q.uc] 32)) = V at *
  generalize w.heap.size + 1 = b2 at *
  generalize hb1 : w.heap.size = b1 at HX x0 x1 ⊢
  have HB1 := Lib.hid hb1
  clear hb1 x0 x1 y0 y1
  obtain ⟨v, hv⟩ : ∃ v, decide (p.us = q.us) = v := ⟨_, rfl⟩
  have HC := Lib.hid (psame_b p.uA q.uA p.um p.uc q.um q.uc p.us q.us V v hv HX.out.p.at_.ul HX.out.q.at_.ul (by have := HX.out.p.at_.u2; omega) (by have := HX.out.q.at_.u2; omega) HX.out.p.at_.us HX.out.q.at_.us)
  clear hv
  with_reducible refine HC.out.mono ?_
  rintro e V1 ⟨rfl, q1, rfl⟩
  have HX1 := Lib.hid (HX.out.below (drewN_below V q1))
  have HBV := Lib.hid (below_next HB0.out (drewN_below V q1))
  clear HX HC HB0
  generalize V.drewN q1 = V1 at *
  cases v with
  | false =>
    go_wp2_with fail
    go_ret
    exact ⟨_, rfl, HBV.out⟩
  | true =>
  go_wp2_with fail
  go_loopg [4, 5] p.rm (fun gk s4 s5 W => ∃ (k m : Nat), k + gk = p.rm ∧ s4 = .bool false ∧ s5 = .int .i64 k ∧ W = V1.drewN m)
  case atStart => exact ⟨0, 0, by omega, rfl, rfl, rfl⟩
  case round =>
    obtain ⟨k, m, hkg, rfl, rfl, rfl⟩ := hrel
    have HW : Hid (∀ j, (V1.drewN m).drewN j = V1.drewN (m + j)) := fun j => by simp
    have HXW := Lib.hid (HX1.out.below (drewN_below V1 m))
    have HBE := Lib.hid (below_next HBV.out (drewN_below V1 m))
    have HBJ : Hid (∀ j, Below w.heap.size w ((V1.drewN m).drewN j)) := fun j => by rw [HW.out]; exact below_next HBV.out (drewN_below V1 _)
    have x0 := HXW.out.p.c0
    have y0 := HXW.out.q.c0
    by_cases hlt : k < p.rm
    · obtain ⟨gk, rfl⟩ : ∃ j, gk = j + 1 := ⟨gk - 1, by omega⟩
      obtain ⟨r, hr⟩ := mlist_at p.rs k (by rw [HXW.out.p.at_.rl]; exact hlt)
      obtain ⟨s, hs⟩ := mlist_at q.rs k (by rw [HXW.out.q.at_.rl, ← HM.out]; exact hlt)
      obtain ⟨ad, hrA, hc, hra⟩ := HXW.out.p.at_.at_ hr
      obtain ⟨bd, hqA, hd, hqa⟩ := HXW.out.q.at_.at_ hs
      obtain ⟨c0, c1⟩ := hc
      obtain ⟨e0, e1⟩ := hd
      have i1 : (0 : Int) ≤ (k : Int) := by omega
      have i2 : (k : Int) < (p.rm : Int) := by omega
      have i3 : (k : Int) < (q.rm : Int) := by rw [← HM.out]; omega
      obtain ⟨v2, d2⟩ : ∃ v, (r.tr != s.tr) = v := ⟨_, rfl⟩
      obtain ⟨v3, hv3⟩ : ∃ v, decide (r.st = s.st) = v := ⟨_, rfl⟩
      have HS : Hid (∀ j, Calls Tryz.prog 19 #[.slice r.sA r.sm r.sc, .slice s.sA s.sm s.sc] ((V1.drewN m).drewN j) fun e w' => e = .returned (.bool v3) ∧ ∃ j, w' = (V1.drewN m).drewN j) := fun j => by
        refine (psame_b r.sA s.sA r.sm r.sc s.sm s.sc r.st s.st ((V1.drewN m).drewN j) v3 hv3 hra.sl hqa.sl (by have := hra.s2; omega) (by have := hqa.s2; omega) (hra.st.below (drewN_below _ _)) (hqa.st.below (drewN_below _ _))).mono fun e w' ⟨e1, j2, e2⟩ => ⟨e1, j + j2, by rw [e2]; simp [Nat.add_assoc]⟩
      have HRA := Lib.hid hrA
      have HQA := Lib.hid hqA
      clear hr hs hrA hqA hra hqa HXW hv3 HBE
      generalize p.rA = rA at *
      generalize q.rA = qA at *
      obtain rfl := HRA.out
      obtain rfl := HQA.out
      generalize V1.drewN m = W at *
      cases v2 with
      | true =>
        go_wp2
        go_quiet ((go_at_call 19; exact HS.out _))
        go_wp2
        go_ret
        exact ⟨_, rfl, HBJ.out _⟩
      | false =>
        cases v3 with
        | false =>
          go_wp2
          go_quiet ((go_at_call 19; exact HS.out _))
          go_wp2
          go_ret
          exact ⟨_, rfl, HBJ.out _⟩
        | true =>
          go_wp2
          go_quiet ((go_at_call 19; exact HS.out _))
          go_wp2
          go_roundg gk
          case measure => omega
          case rel => exact ⟨k + 1, _, by omega, rfl, by first | rfl | go_num, HW.out _⟩
    · have hk : k = p.rm := by omega
      clear HXW HW HBJ
      generalize V1.drewN m = W at *
      go_wp2
      go_ret
      exact ⟨_, rfl, HBE.out⟩
end Go.Proofs.YtgjmlnpfkmpfgaaGreat
end

section
/-! More than the statements look at. -/
namespace Go.Proofs.YtgjmlnpfkmpfgaaGreat
open Go.RowKit
set_option linter.unusedVariables false
set_option maxRecDepth 100000

def r0 : Rd := ⟨0, none, 0, 0, []⟩
def LargeB (x : Wd) (p : Pd) (n : Int) : Prop := Large x r0 ∨ LargeP p ∨ 400 < n ∧ n ≤ 100000
set_option maxHeartbeats 4000000 in
theorem blarge_b (x : Wd) (p : Pd) (n : Int) (w : World) (r : Bool) (hr : r = true ↔ LargeB x p n) (hx : WorldIn w x) (hp : PlanIn w p) (hf : Few p) :
    Calls Tryz.prog 8 #[.agg #[.int .i64 x.N, .slice x.dA x.dm x.dc, .slice x.tA x.tm x.tc, .slice x.A x.m x.c, .slice x.B x.k x.d], .agg #[.slice p.rA p.rm p.rc, .slice p.uA p.um p.uc], .int .i64 n] w fun e w' => e = .returned (.bool r) ∧ Hid (Below w.heap.size w w') := by
  have HB0 : Hid (Below w.heap.size w ((w.alloc (.cells #[.int .i64 x.N, .slice x.dA x.dm x.dc, .slice x.tA x.tm x.tc, .slice x.A x.m x.c, .slice x.B x.k x.d] 28)).alloc (.cells #[.slice p.rA p.rm p.rc, .slice p.uA p.um p.uc] 32))) := below_more (below_alloc _ _) _
  have HX : Hid (Box ((w.alloc (.cells #[.int .i64 x.N, .slice x.dA x.dm x.dc, .slice x.tA x.tm x.tc, .slice x.A x.m x.c, .slice x.B x.k x.d] 28)).alloc (.cells #[.slice p.rA p.rm p.rc, .slice p.uA p.um p.uc] 32)) w.heap.size x.cells 28) := (Box.new _ _ _).below (below_alloc _ _)
  have HP : Hid (Box ((w.alloc (.cells #[.int .i64 x.N, .slice x.dA x.dm x.dc, .slice x.tA x.tm x.tc, .slice x.A x.m x.c, .slice x.B x.k x.d] 28)).alloc (.cells #[.slice p.rA p.rm p.rc, .slice p.uA p.um p.uc] 32)) (w.heap.size + 1) #[.slice p.rA p.rm p.rc, .slice p.uA p.um p.uc] 32) := by
    unfold Hid
    rw [size_one w (.cells #[.int .i64 x.N, .slice x.dA x.dm x.dc, .slice x.tA x.tm x.tc, .slice x.A x.m x.c, .slice x.B x.k x.d] 28)]
    exact Box.new _ _ _
  have HPI := Lib.hid (hp.below HB0.out)
  have HF := Lib.hid hf
  have HR := Lib.hid hr
  have HLN : Hid (¬ Large x r0 → ∀ W, Calls Tryz.prog 20 #[.agg #[.int .i64 x.N, .slice x.dA x.dm x.dc, .slice x.tA x.tm x.tc, .slice x.A x.m x.c, .slice x.B x.k x.d], .int .i64 0] W fun e w' => e = .returned (.bool false) ∧ Hid (Below W.heap.size W w')) := fun h W => large_no x r0 W h
  have HLY : Hid (Large x r0 → ∀ W, Calls Tryz.prog 20 #[.agg #[.int .i64 x.N, .slice x.dA x.dm x.dc, .slice x.tA x.tm x.tc, .slice x.A x.m x.c, .slice x.B x.k x.d], .int .i64 0] W fun e w' => e = .returned (.bool true) ∧ Hid (Below W.heap.size W w')) := fun h W => large_yes x r0 W hx.mx hx.kx hx.dx hx.tx (Nat.zero_le _) h
  clear hr hx hp hf
  have c0 := wbox0 HX.out
  have c1 := wbox1 HX.out
  have c2 := wbox2 HX.out
  have c3 := wbox3 HX.out
  have c4 := wbox4 HX.out
  by_cases hl : Large x r0
  · have HRT : Hid (r = true) := HR.out.2 (.inl hl)
    have HC := Lib.hid (HLY.out hl)
    clear hl
    go_enter Tryz.func8, Tryz.ntmps8
    go_wp2_with fail
    with_reducible refine (HC.out _).mono ?_
    rintro e w2 ⟨rfl, h2⟩
    go_wp2
    go_ret
    exact ⟨by rw [HRT.out]; rfl, below_next HB0.out h2.out⟩
  · have HC := Lib.hid (HLN.out hl)
    have HNL := Lib.hid hl
    clear hl
    go_enter Tryz.func8, Tryz.ntmps8
    go_wp2_with fail
    clear c0 c1 c2 c3 c4
    with_reducible refine (HC.out _).mono ?_
    rintro e w2 ⟨rfl, h2⟩
    have HB2 := Lib.hid (below_next HB0.out h2.out)
    have HP2 := Lib.hid (HP.out.below h2.out)
    have HPI2 := Lib.hid (HPI.out.below h2.out)
    have y0 : w2.cell? ⟨w.heap.size + 1, 0, none⟩ = some (.slice p.rA p.rm p.rc) := HP2.out.cell 0 _ rfl
    have y1 : w2.cell? ⟨w.heap.size + 1, 1, none⟩ = some (.slice p.uA p.um p.uc) := HP2.out.cell 1 _ rfl
    obtain ⟨b, hb⟩ : ∃ b, largeB p = b := ⟨_, rfl⟩
    have HPL := Lib.hid (plarge_b p w2 b hb HPI2.out HF.out)
    have HBB := Lib.hid hb
    clear hb
    cases b with
    | true =>
      have HRT : Hid (r = true) := HR.out.2 (.inr (.inl (large_is.1 HBB.out)))
      go_wp2_with fail
      with_reducible refine HPL.out.mono ?_
      rintro e w3 ⟨rfl, h3⟩
      go_wp2
      go_ret
      exact ⟨by rw [HRT.out]; rfl, below_next HB2.out h3.out⟩
    | false =>
      have HNP : Hid (¬ LargeP p) := fun e => by have := large_is.2 e; rw [HBB.out] at this; cases this
      obtain ⟨b1, d1⟩ : ∃ b, decide ((400 : Int) < n) = b := ⟨_, rfl⟩
      obtain ⟨b2, d2⟩ : ∃ b, decide (n ≤ (100000 : Int)) = b := ⟨_, rfl⟩
      have HRT : Hid (r = (b1 && b2)) := by
        unfold Hid
        have h := HR.out
        unfold LargeB at h
        rw [Bool.eq_iff_iff, h, ← d1, ← d2]
        simp only [Bool.and_eq_true, decide_eq_true_eq]
        exact ⟨fun e => by rcases e with e | e | e; exact absurd e HNL.out; exact absurd e HNP.out; exact e, fun e => .inr (.inr e)⟩
      go_wp2_with fail
      clear y0 y1
      with_reducible refine HPL.out.mono ?_
      rintro e w3 ⟨rfl, h3⟩
      cases b1 with
      | true =>
        go_wp2
        go_ret
        exact ⟨by rw [HRT.out]; rfl, below_next HB2.out h3.out⟩
      | false =>
        go_wp2
        go_ret
        exact ⟨by rw [HRT.out]; rfl, below_next HB2.out h3.out⟩
end Go.Proofs.YtgjmlnpfkmpfgaaGreat
end
