/- The law's own functions: Equal, of plans that are the same; large. -/
import Derived.Test.YtmidkjlikhngmaaGreatPlanL
namespace Go.Proofs.YtmidkjlikhngmaaGreat
open Go.RowKit
set_option linter.unusedVariables false
set_option maxRecDepth 100000

/-- the boxes of two plans -/
structure PP (V : World) (b1 b2 : Nat) (p q : Pd) : Prop where
  p : PX V b1 p
  q : PX V b2 q
theorem PP.below {V V' : World} {b1 b2 : Nat} {p q : Pd} (h : PP V b1 b2 p q) (hb : Below V.heap.size V V') : PP V' b1 b2 p q := ⟨h.p.below hb, h.q.below hb⟩
theorem PP.new {w : World} {p q : Pd} (hp : PAt w p) (hq : PAt w q) : PP ((w.alloc (.cells #[.slice p.rA p.rm p.rc, .slice p.uA p.um p.uc] 32)).alloc (.cells #[.slice q.rA q.rm q.rc, .slice q.uA q.um q.uc] 32)) w.heap.size (w.heap.size + 1) p q := by
  refine ⟨(PX.new hp).below (below_alloc _ _), ?_⟩
  rw [size_one w (.cells #[.slice p.rA p.rm p.rc, .slice p.uA p.um p.uc] 32)]
  exact PX.new (hq.below (below_alloc _ _))

set_option maxHeartbeats 4000000 in
theorem pequal_b (p q : Pd) (w : World) (hp : PAt w p) (hq : PAt w q) (hro : ros p.rs = ros q.rs) (hus : p.us = q.us) :
    Calls Tryz.prog 16 #[.agg #[.slice p.rA p.rm p.rc, .slice p.uA p.um p.uc], .agg #[.slice q.rA q.rm q.rc, .slice q.uA q.um q.uc]] w fun e w' => e = .returned (.bool true) ∧ Hid (Below w.heap.size w w') := by
  have HX := Lib.hid (PP.new hp hq)
  have HB0 : Hid (Below w.heap.size w ((w.alloc (.cells #[.slice p.rA p.rm p.rc, .slice p.uA p.um p.uc] 32)).alloc (.cells #[.slice q.rA q.rm q.rc, .slice q.uA q.um q.uc] 32))) := below_more (below_alloc _ _) _
  have HRO := Lib.hid hro
  have HUS := Lib.hid hus
  have hrm := hp.r2
  have hqm := hq.r2
  have HMM : Hid (p.rm = q.rm) := by unfold Hid; rw [← hp.rl, ← hq.rl, ← ros_len, ← ros_len, hro]
  have d1 : ((p.rm : Int) != (q.rm : Int)) = false := by rw [HMM.out]; simp
  clear hp hq hro hus
  go_enter Tryz.func16, Tryz.ntmps16
  have x0 := HX.out.p.c0
  have x1 := HX.out.p.c1
  have y0 := HX.out.q.c0
  have y1 := HX.out.q.c1
  go_wp2_with fail
  generalize ((w.alloc (.cells #[.slice p.rA p.rm p.rc, .slice p.uA p.um p.uc] 32)).alloc (.cells #[.slice q.rA q.rm q.rc, .slice q.uA q.um q.uc] 32)) = V at *
  generalize w.heap.size + 1 = b2 at *
  generalize hb1 : w.heap.size = b1 at HX x0 x1 ⊢
  have HB1 := Lib.hid hb1
  clear hb1 x0 x1 y0 y1
  have HC := Lib.hid (psame_b p.uA q.uA p.um p.uc q.um q.uc p.us q.us V true (decide_eq_true HUS.out) HX.out.p.at_.ul HX.out.q.at_.ul (by have := HX.out.p.at_.u2; omega) (by have := HX.out.q.at_.u2; omega) HX.out.p.at_.us HX.out.q.at_.us)
  with_reducible refine HC.out.mono ?_
  rintro e V1 ⟨rfl, q1, rfl⟩
  have HX1 := Lib.hid (HX.out.below (drewN_below V q1))
  have HBV := Lib.hid (below_next HB0.out (drewN_below V q1))
  clear HX HC HB0
  generalize V.drewN q1 = V1 at *
  go_wp2_with fail
  go_loopg [4, 5] p.rm (fun gk s4 s5 W => ∃ (k m : Nat), k + gk = p.rm ∧ s4 = .bool false ∧ s5 = .int .i64 k ∧ W = V1.drewN m)
  case atStart => exact ⟨0, 0, by omega, rfl, rfl, rfl⟩
  case round =>
    obtain ⟨k, m, hkg, rfl, rfl, rfl⟩ := hrel
    have HW : Hid (∀ j, (V1.drewN m).drewN j = V1.drewN (m + j)) := fun j => by simp
    have HXW := Lib.hid (HX1.out.below (drewN_below V1 m))
    have x0 := HXW.out.p.c0
    have y0 := HXW.out.q.c0
    by_cases hlt : k < p.rm
    · obtain ⟨gk, rfl⟩ : ∃ j, gk = j + 1 := ⟨gk - 1, by omega⟩
      obtain ⟨r, hr⟩ := mlist_at p.rs k (by rw [HXW.out.p.at_.rl]; exact hlt)
      obtain ⟨s, hs⟩ := mlist_at q.rs k (by rw [HXW.out.q.at_.rl, ← HMM.out]; exact hlt)
      have hrs : r.ro = s.ro := by
        have h1 := ros_at hr
        rw [HRO.out, ros_at hs] at h1
        exact (Option.some.inj h1).symm
      obtain ⟨ad, hrA, hc, hra⟩ := HXW.out.p.at_.at_ hr
      obtain ⟨bd, hqA, hd, hqa⟩ := HXW.out.q.at_.at_ hs
      obtain ⟨c0, c1⟩ := hc
      obtain ⟨e0, e1⟩ := hd
      have htr : r.tr = s.tr := by injection hrs
      have hst : r.st = s.st := by injection hrs
      have i1 : (0 : Int) ≤ (k : Int) := by omega
      have i2 : (k : Int) < (p.rm : Int) := by omega
      have i3 : (k : Int) < (q.rm : Int) := by rw [← HMM.out]; omega
      have d2 : (r.tr != s.tr) = false := by rw [htr]; simp
      have HS : Hid (∀ j, Calls Tryz.prog 9 #[.slice r.sA r.sm r.sc, .slice s.sA s.sm s.sc] ((V1.drewN m).drewN j) fun e w' => e = .returned (.bool true) ∧ ∃ j, w' = (V1.drewN m).drewN j) := fun j => by
        refine (psame_b r.sA s.sA r.sm r.sc s.sm s.sc r.st s.st ((V1.drewN m).drewN j) true (decide_eq_true hst) hra.sl hqa.sl (by have := hra.s2; omega) (by have := hqa.s2; omega) (hra.st.below (drewN_below _ _)) (hqa.st.below (drewN_below _ _))).mono fun e w' ⟨e1, j2, e2⟩ => ⟨e1, j + j2, by rw [e2]; simp [Nat.add_assoc]⟩
      have HRA := Lib.hid hrA
      have HQA := Lib.hid hqA
      clear hr hs hrs hrA hqA hra hqa htr hst HXW
      generalize p.rA = rA at *
      generalize q.rA = qA at *
      obtain rfl := HRA.out
      obtain rfl := HQA.out
      generalize V1.drewN m = W at *
      go_wp2
      go_quiet ((go_at_call 9; exact HS.out _))
      go_wp2
      go_roundg gk
      case measure => omega
      case rel => exact ⟨k + 1, _, by omega, rfl, by first | rfl | go_num, HW.out _⟩
    · have hk : k = p.rm := by omega
      have HBE := Lib.hid (below_next HBV.out (drewN_below V1 m))
      clear HXW HW
      generalize V1.drewN m = W at *
      go_wp2
      go_ret
      exact ⟨rfl, HBE.out⟩

/-- plans as they lie -/
def RowsP (w : World) (A : Option Addr) (ps : List Pd) : Prop := ∀ (k : Nat) (p : Pd), ps[k]? = some p → ∃ ad, A = some ad ∧ w.cell? (ad.add (k * 2)) = some (.slice p.rA p.rm p.rc) ∧ w.cell? ⟨(ad.add (k * 2)).block, (ad.add (k * 2)).off + 1, none⟩ = some (.slice p.uA p.um p.uc)
theorem RowsP.below {w w' : World} {A : Option Addr} {ps : List Pd} (h : RowsP w A ps) (hb : Below w.heap.size w w') : RowsP w' A ps := fun k p hp => by
  obtain ⟨ad, e, h1, h2⟩ := h k p hp
  exact ⟨ad, e, by rw [hb.cell (p := ad.add (k * 2)) (lt_of_cell h1)]; exact h1, by rw [hb.cell (lt_of_cell h2)]; exact h2⟩
theorem RouteIn.below {w w' : World} {r : Rd} (h : RouteIn w r) (hb : Below w.heap.size w w') : RouteIn w' r := ⟨h.sl, h.sc, h.sx, h.st.below hb⟩
theorem PlanIn.below {w w' : World} {p : Pd} (h : PlanIn w p) (hb : Below w.heap.size w w') : PlanIn w' p := ⟨h.rl, h.rx, h.rc, h.rows.below hb, fun r hr => (h.ra r hr).below hb, h.ul, h.ux, h.us.below hb⟩
/-- what is asked of the plans that a law looks at -/
structure Plans (W : World) (ps : List Pd) : Prop where
  c : ∀ p ∈ ps, PlanIn W p
  f : ∀ p ∈ ps, Few p
theorem Plans.below {w w' : World} {ps : List Pd} (h : Plans w ps) (hb : Below w.heap.size w w') : Plans w' ps := ⟨fun p hp => (h.c p hp).below hb, h.f⟩
def r0 : Rd := ⟨0, none, 0, 0, []⟩
/-- more than the statements look at -/
def LargeL (x : Wd) (ps : List Pd) : Prop := (∃ p ∈ ps, LargeP p) ∨ Large x r0
theorem not_large {x : Wd} {ps : List Pd} (h : ¬ LargeL x ps) : ¬ Large x r0 ∧ ∀ p ∈ ps, ¬ LargeP p := ⟨fun e => h (.inr e), fun p hp e => h (.inl ⟨p, hp, e⟩)⟩

set_option maxHeartbeats 4000000 in
theorem llarge_b (x : Wd) (A : Option Addr) (n c : Nat) (ps : List Pd) (w : World) (r : Bool) (hr : r = true ↔ LargeL x ps) (hx : WorldIn w x) (hn : ps.length = n) (hn2 : n ≤ 1000) (hps : RowsP w A ps) (hin : Plans w ps) :
    Calls Tryz.prog 5 #[.agg #[.int .i64 x.N, .slice x.dA x.dm x.dc, .slice x.tA x.tm x.tc, .slice x.A x.m x.c, .slice x.B x.k x.d], .slice A n c] w fun e w' => e = .returned (.bool r) ∧ Hid (Below w.heap.size w w') := by
  have HB0 : Hid (Below w.heap.size w (w.alloc (.cells #[.int .i64 x.N, .slice x.dA x.dm x.dc, .slice x.tA x.tm x.tc, .slice x.A x.m x.c, .slice x.B x.k x.d] 28))) := below_alloc _ _
  have HX : Hid (Box (w.alloc (.cells #[.int .i64 x.N, .slice x.dA x.dm x.dc, .slice x.tA x.tm x.tc, .slice x.A x.m x.c, .slice x.B x.k x.d] 28)) w.heap.size x.cells 28) := Box.new _ _ _
  have HPS := Lib.hid (hps.below HB0.out)
  have HIN := Lib.hid (hin.below HB0.out)
  have HR := Lib.hid hr
  have HN := Lib.hid hn
  have HLN : Hid (¬ Large x r0 → ∀ W, Calls Tryz.prog 18 #[.agg #[.int .i64 x.N, .slice x.dA x.dm x.dc, .slice x.tA x.tm x.tc, .slice x.A x.m x.c, .slice x.B x.k x.d], .int .i64 0] W fun e w' => e = .returned (.bool false) ∧ Hid (Below W.heap.size W w')) := fun h W => large_no x r0 W h
  have HLY : Hid (Large x r0 → ∀ W, Calls Tryz.prog 18 #[.agg #[.int .i64 x.N, .slice x.dA x.dm x.dc, .slice x.tA x.tm x.tc, .slice x.A x.m x.c, .slice x.B x.k x.d], .int .i64 0] W fun e w' => e = .returned (.bool true) ∧ Hid (Below W.heap.size W w')) := fun h W => large_yes x r0 W hx.mx hx.kx hx.dx hx.tx (Nat.zero_le _) h
  clear hr hx hn hps hin
  go_enter Tryz.func5, Tryz.ntmps5
  go_wp2_with fail
  generalize w.alloc (.cells #[.int .i64 x.N, .slice x.dA x.dm x.dc, .slice x.tA x.tm x.tc, .slice x.A x.m x.c, .slice x.B x.k x.d] 28) = V at *
  generalize hb1 : w.heap.size = b1 at HX ⊢
  have HBE := Lib.hid hb1
  clear hb1
  go_loopg [4, 9] n (fun gk s4 s9 W => ∃ (k : Nat) (W0 : World), W0 = W ∧ k + gk = n ∧ s4 = .bool false ∧ s9 = .int .i64 k ∧ Hid (Below V.heap.size V W0) ∧ Hid (∀ (j : Nat) (p : Pd), j < k → ps[j]? = some p → largeB p = false))
  case atStart => exact ⟨0, _, rfl, by omega, rfl, rfl, Below.refl _ _, fun j p hj => by omega⟩
  case round =>
    obtain ⟨k, W0, rfl, hkg, rfl, rfl, HK, HL⟩ := hrel
    have HBW := Lib.hid (below_next HB0.out HK.out)
    by_cases hlt : k < n
    · obtain ⟨gk, rfl⟩ : ∃ j, gk = j + 1 := ⟨gk - 1, by omega⟩
      obtain ⟨p, hp⟩ := mlist_at ps k (by rw [HN.out]; exact hlt)
      obtain ⟨ad, rfl, c0, c1⟩ := (HPS.out.below HK.out) k p hp
      have i2 : (k : Int) < (n : Int) := by omega
      obtain ⟨b, hb⟩ : ∃ b, largeB p = b := ⟨_, rfl⟩
      have HP := Lib.hid hp
      have HBB := Lib.hid hb
      have HC := Lib.hid (plarge_b p (W0.alloc (.cells #[.slice p.rA p.rm p.rc, .slice p.uA p.um p.uc] 32)) b hb ((HIN.out.c p (List.mem_of_getElem? hp)).below (below_next HK.out (below_alloc _ _))) (HIN.out.f p (List.mem_of_getElem? hp)))
      have HB2 := Lib.hid (below_more HBW.out (.cells #[.slice p.rA p.rm p.rc, .slice p.uA p.um p.uc] 32))
      have HK2 := Lib.hid (below_more HK.out (.cells #[.slice p.rA p.rm p.rc, .slice p.uA p.um p.uc] 32))
      clear hp hb
      cases b with
      | true =>
        have HRT : Hid (r = true) := HR.out.2 (.inl ⟨p, List.mem_of_getElem? HP.out, large_is.1 HBB.out⟩)
        go_wp2_with fail
        with_reducible refine HC.out.mono ?_
        rintro e w2 ⟨rfl, h2⟩
        go_wp2
        go_ret
        exact ⟨by rw [HRT.out]; rfl, below_next HB2.out h2.out⟩
      | false =>
        have HL2 : Hid (∀ (j : Nat) (p : Pd), j < k + 1 → ps[j]? = some p → largeB p = false) := fun j q hj hq => by
          by_cases h : j < k
          · exact HL.out j q h hq
          · obtain rfl : j = k := by omega
            rw [HP.out] at hq
            obtain rfl := Option.some.inj hq
            exact HBB.out
        go_wp2_with fail
        with_reducible refine HC.out.mono ?_
        rintro e w2 ⟨rfl, h2⟩
        go_wp2
        go_roundg gk
        case measure => omega
        case rel => exact ⟨k + 1, _, rfl, by omega, rfl, by first | rfl | go_num, below_next HK2.out h2.out, HL2.out⟩
    · have hk : k = n := by omega
      have HNL : Hid (¬ ∃ p ∈ ps, LargeP p) := by
        rintro ⟨p, hp, hl⟩
        obtain ⟨j, hj⟩ := List.getElem?_of_mem hp
        have := HL.out j p (by have := (List.getElem?_eq_some_iff.1 hj).1; rw [HN.out] at this; omega) hj
        rw [large_is.2 hl] at this
        cases this
      have c0 := wbox0 (HX.out.below HK.out)
      have c1 := wbox1 (HX.out.below HK.out)
      have c2 := wbox2 (HX.out.below HK.out)
      have c3 := wbox3 (HX.out.below HK.out)
      have c4 := wbox4 (HX.out.below HK.out)
      by_cases hl : Large x r0
      · have HRT : Hid (r = true) := HR.out.2 (.inr hl)
        have HC := Lib.hid (HLY.out hl)
        clear hl
        go_wp2_with fail
        with_reducible refine (HC.out _).mono ?_
        rintro e w2 ⟨rfl, h2⟩
        go_wp2
        go_ret
        exact ⟨by rw [HRT.out]; rfl, below_next HBW.out h2.out⟩
      · have HRT : Hid (r = false) := Bool.eq_false_iff.2 (fun e => by rcases HR.out.1 e with e | e; exact HNL.out e; exact hl e)
        have HC := Lib.hid (HLN.out hl)
        clear hl
        go_wp2_with fail
        with_reducible refine (HC.out _).mono ?_
        rintro e w2 ⟨rfl, h2⟩
        go_wp2
        go_ret
        exact ⟨by rw [HRT.out]; rfl, below_next HBW.out h2.out⟩
end Go.Proofs.YtmidkjlikhngmaaGreat
