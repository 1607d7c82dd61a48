/- The document's answer: two rows, one behind the other; whether some truck can run a row. -/
import Derived.Test.YtjidelfpmlnhkaaGreatSavLaw
import Derived.Test.YtjidelfpmlnhkaaGreatRouteRC
import Derived.Deep.RegionHeld3
import Derived.Deep.RegionLaw
namespace Go.Proofs.YtjidelfpmlnhkaaGreat
open Go.RowKit
set_option linter.unusedVariables false
set_option maxRecDepth 100000

set_option maxHeartbeats 2000000 in
theorem dboth_b (r s : Rw) (w : World) (hr : RwOk w r) (hs : RwOk w s) :
    Calls Tryz.prog 67 #[.slice r.A r.m r.c, .slice s.A s.m s.c] w fun e w' => ∃ A c', e = .returned (.slice A (r.m + s.m) c') ∧ Hid (OwnI w' w.heap.size (.slice A (r.m + s.m) c') (r.st ++ s.st) ∧ Below w.heap.size w w') := by
  have hr2 := hr.s2
  have hs2 := hs.s2
  have HR : Hid (r.st.length = r.m ∧ IntsAt w r.A r.st) := ⟨hr.sl, hr.st⟩
  have HS : Hid (s.st.length = s.m ∧ IntsAt w s.A s.st) := ⟨hs.sl, hs.st⟩
  clear hr hs
  obtain ⟨rA, rm, rc, rst⟩ := r
  obtain ⟨sA, sm, sc, sst⟩ := s
  simp only at *
  have HO : Hid (OwnI (w.alloc (.cells #[] 3)) w.heap.size (.slice (some ⟨w.heap.size, 0, none⟩) 0 0) []) := own_none w _ (Nat.le_refl _)
  have HA := Lib.hid (app_row (B := rA) (d := rc) HO.out (below_alloc _ _) HR.out.1 HR.out.2 rfl (by omega))
  simp only [Nat.zero_add, List.nil_append] at HA
  have HA2 : Hid (∀ A2 c2 w2, (OwnI w2 w.heap.size (.slice A2 rm c2) rst ∧ Below w.heap.size w w2) → ∃ v' w', (Builtin.append_ #[29, 29] 29 #[.slice A2 rm c2, .slice sA sm sc]).run Tryz.prog w2 = .ok v' w' ∧ ByC w w2 (rst ++ sst) (rm + sm) v' w') := fun A2 c2 w2 h => app_row (B := sA) (d := sc) h.1 h.2 HS.out.1 HS.out.2 HR.out.1 (by omega)
  go_enter Tryz.func67, Tryz.ntmps67
  go_wp2_with (first
    | (at_builtin; refine wpList_append_any rfl (.tmp 5) (.tmp 6) 29 29 rfl _ _ rfl rfl _ HA.out ?_; intro v2 w2 hc2; obtain ⟨A2, c2, rfl, HC2⟩ := hc2)
    | (at_builtin; refine wpList_append_any rfl (.tmp 7) (.tmp 8) 29 29 rfl _ _ rfl rfl _ (HA2.out _ _ _ HC2.out) ?_; intro v3 w3 hc3; obtain ⟨A3, c3, rfl, HC3⟩ := hc3))
  go_ret
  exact ⟨_, _, rfl, HC3.out⟩

def DTBox (V : World) (r : Rt.R) (n : Nat) (s : Value) (W : World) : Prop := ∃ q A c, s = .pointer (some ⟨q, 0, none⟩) ∧ Hid (Box W q #[.slice A n c, .int .i64 r.back, .int .i64 r.dist, .int .i64 r.cost] 83 ∧ Below V.heap.size V W)
theorem dtbox_new {V w : World} {r : Rt.R} {n : Nat} {A : Option Addr} {c : Nat} (hb : Below V.heap.size V w) :
    DTBox V r n (.pointer (some ⟨w.heap.size, 0, none⟩)) (w.alloc (.cells #[.slice A n c, .int .i64 r.back, .int .i64 r.dist, .int .i64 r.cost] 83)) :=
  ⟨_, A, c, rfl, Box.new _ _ _, below_more hb _⟩
theorem dtbox_set {V w : World} {r : Rt.R} {n : Nat} {A : Option Addr} {c : Nat} (hU : Below (V.alloc (.cells #[.slice none 0 0, .int .i64 0, .int .i64 0, .int .i64 0] 83)).drew.heap.size (V.alloc (.cells #[.slice none 0 0, .int .i64 0, .int .i64 0, .int .i64 0] 83)).drew w) :
    DTBox V r n (.pointer (some ⟨V.heap.size, 0, none⟩)) ((((w.setCell ⟨V.heap.size, 0, none⟩ (.slice A n c)).setCell ⟨V.heap.size, 1, none⟩ (.int .i64 r.back)).setCell ⟨V.heap.size, 2, none⟩ (.int .i64 r.dist)).setCell ⟨V.heap.size, 3, none⟩ (.int .i64 r.cost)) := by
  have hbx : Box (V.alloc (.cells #[.slice none 0 0, .int .i64 0, .int .i64 0, .int .i64 0] 83)).drew V.heap.size #[.slice none 0 0, .int .i64 0, .int .i64 0, .int .i64 0] 83 := Box.new V _ _
  exact ⟨_, A, c, rfl, dtrip_set (hbx.below hU) _ _ _ _, below_set4 (below_next (below_alloc V (.cells #[.slice none 0 0, .int .i64 0, .int .i64 0, .int .i64 0] 83)).drew hU) _ (Nat.le_refl _) _ _ _ _⟩

set_option maxHeartbeats 4000000 in
theorem dcan_b (x : Wd) (A : Option Addr) (n c : Nat) (l : List Int) (w : World) (r : Bool) (hr : Sv.canB x.N x.D x.T x.os x.ts l = r) (hx : WAt w x) (hn : l.length = n) (hn2 : n ≤ 1000) (hl : IntsAt w A l) :
    Calls Tryz.prog 33 #[.agg #[.int .i64 x.N, .slice x.dA x.dm x.dc, .slice x.tA x.tm x.tc, .slice x.A x.m x.c, .slice x.B x.k x.d], .slice A n c] w fun e w' => e = .returned (.bool r) ∧ Hid (Below w.heap.size w w') := by
  have HX := Lib.hid (WX.new hx)
  have HB0 : Hid (Below w.heap.size w (w.alloc (.cells #[.int .i64 x.N, .slice x.dA x.dm x.dc, .slice x.tA x.tm x.tc, .slice x.A x.m x.c, .slice x.B x.k x.d] 28))) := below_alloc _ _
  have HR := Lib.hid hr
  have hk2 := hx.k2
  have HKL := Lib.hid hx.kl
  have HRUN : Hid (∀ (u : Int) (U : World), Below w.heap.size w U → Calls Tryz.prog 39 #[.agg #[.int .i64 x.N, .slice x.dA x.dm x.dc, .slice x.tA x.tm x.tc, .slice x.A x.m x.c, .slice x.B x.k x.d], .agg #[.int .i64 u, .slice A n c]] U (TripPost U (Rt.runS x.N x.D x.T x.os x.ts u l))) := fun u U h => drun_b x ⟨u, A, n, c, l⟩ U _ rfl (hx.below h) ⟨hn, hn2, hl.below h⟩
  clear hx hl hn hr
  go_enter Tryz.func33, Tryz.ntmps33
  go_wp2_with fail
  generalize (w.alloc (.cells #[.int .i64 x.N, .slice x.dA x.dm x.dc, .slice x.tA x.tm x.tc, .slice x.A x.m x.c, .slice x.B x.k x.d] 28)) = V at *
  generalize hb1 : w.heap.size = b1 at HX ⊢
  clear hb1
  go_loopg [4, 5] x.k (fun gk s4 s5 Wx => ∃ (q : Nat) (W : World), W = Wx ∧ q + gk = x.k ∧ s4 = .bool false ∧ s5 = .int .i64 q ∧ Hid (Below V.heap.size V W) ∧ Hid (∀ (p : Nat) (t : Ld.T), p < q → x.ts[p]? = some t → ¬ (Rt.runS x.N x.D x.T x.os x.ts t.id l).e = 0))
  case atStart => exact ⟨0, _, rfl, by omega, rfl, rfl, Below.refl _ _, fun p t hp => by omega⟩
  case round =>
    obtain ⟨q, W, rfl, hqg, rfl, rfl, HB, HQ⟩ := hrel
    have HX0 := Lib.hid (HX.out.below HB.out)
    have x4 := HX0.out.c4
    by_cases hqlt : q < x.k
    · obtain ⟨gt, rfl⟩ : ∃ j, gk = j + 1 := ⟨gk - 1, by omega⟩
      obtain ⟨⟨t0, t1, t2, t3, t4, t5, t6⟩, ht⟩ := mlist_at x.ts q (by rw [HKL.out]; exact hqlt)
      have HTT := Lib.hid ht
      have q2 : (q : Int) < (x.k : Int) := by omega
      obtain ⟨res, hres⟩ : ∃ res, Rt.runS x.N x.D x.T x.os x.ts t0 l = res := ⟨_, rfl⟩
      have HRES := Lib.hid hres
      obtain ⟨n2, hn2⟩ : ∃ n, res.vs.length = n := ⟨_, rfl⟩
      have HWV : Hid (Below w.heap.size w W) := below_next HB0.out HB.out
      have HC : Hid (∀ U : World, Below W.heap.size W U → Calls Tryz.prog 39 #[.agg #[.int .i64 x.N, .slice x.dA x.dm x.dc, .slice x.tA x.tm x.tc, .slice x.A x.m x.c, .slice x.B x.k x.d], .agg #[.int .i64 t0, .slice A n c]] U fun e w' => ∃ A3 c3, e = .returned (.tuple #[.agg #[.slice A3 n2 c3, .int .i64 res.back, .int .i64 res.dist, .int .i64 res.cost], .int .i64 res.e]) ∧ (∀ b o, b < U.heap.size → w'.cell? ⟨b, o, none⟩ = U.cell? ⟨b, o, none⟩) ∧ (∀ b o, b < U.heap.size → w'.frozen? ⟨b, o, none⟩ = U.frozen? ⟨b, o, none⟩) ∧ Hid (Below U.heap.size U w')) := by
        intro U hU
        refine (HRUN.out t0 U (below_next HWV.out hU)).mono ?_
        rintro e w' ⟨A3, c3, rfl, h5⟩
        rw [hres, hn2]
        exact ⟨A3, c3, rfl, fun b o hb => h5.out.1.cell (p := ⟨b, o, none⟩) hb, fun b o hb => h5.out.1.frozen (p := ⟨b, o, none⟩) hb, h5.out.1⟩
      have HBd : Hid (Below W.heap.size W W.drew) := (Below.refl W.heap.size W).drew
      have HBa : Hid (Below W.heap.size W (W.alloc (.cells #[.slice none 0 0, .int .i64 0, .int .i64 0, .int .i64 0] 83)).drew) := (below_alloc W (.cells #[.slice none 0 0, .int .i64 0, .int .i64 0, .int .i64 0] 83)).drew
      have HXT := Lib.hid (HX0.out.below (below_alloc W (.cells #[.slice none 0 0, .int .i64 0, .int .i64 0, .int .i64 0] 83)))
      clear ht hres hn2
      go_upto_region 4 with fail
      clear x4
      go_cut [6, 7] (fun s6 s7 U => ∃ V4 : World, V4 = U ∧ s7 = .int .i64 res.e ∧ DTBox W res n2 s6 V4)
      case first => as_aux_lemma =>
        obtain ⟨bd, hBd, c0, _, _, _, _, _, _⟩ := HX0.out.at_.ts.at_ HTT.out
        obtain ⟨bd2, hBd2, d0, _, _, _, _, _, _⟩ := HXT.out.at_.ts.at_ HTT.out
        rw [hBd] at hBd2
        obtain rfl := Option.some.inj hBd2
        simp only at c0 d0
        have x0 := HX0.out.c0
        have x1 := HX0.out.c1
        have x2 := HX0.out.c2
        have x3 := HX0.out.c3
        have x4 := HX0.out.c4
        have u0 := HXT.out.c0
        have u1 := HXT.out.c1
        have u2 := HXT.out.c2
        have u3 := HXT.out.c3
        have u4 := HXT.out.c4
        clear hBd2
        generalize x.B = xB at *
        subst hBd
        go_region_law (first
          | (go_simp; go_at_call 39; ((with_reducible refine (HC.out (W.drew) HBd.out).mono ?_)); rintro e w5 ⟨A3, cA3, rfl, kc, kf, kU⟩)
          | (go_simp; go_at_call 39; ((with_reducible refine (HC.out ((W.alloc (.cells #[.slice none 0 0, .int .i64 0, .int .i64 0, .int .i64 0] 83)).drew) HBa.out).mono ?_)); rintro e w5 ⟨A3, cA3, rfl, kc, kf, kU⟩))
        all_goals
          clear kc kf u0 u1 u2 u3 u4 x0 x1 x2 x3 x4 c0 d0
          go_wp2
          go_meet
          case rel =>
            refine ⟨_, rfl, rfl, ?_⟩
            first
              | with_reducible exact dtbox_new (below_next HBd.out kU.out)
              | with_reducible exact dtbox_set kU.out
      case rest =>
        obtain ⟨V4, rfl, rfl, q1, A3, cA3, rfl, HTB⟩ := hcut
        have HB6 := Lib.hid (below_next HB.out HTB.out.2)
        clear HC HBd HBa HXT HTB HX0
        obtain ⟨vs, back, dist, cost, er⟩ := res
        simp only at *
        by_cases he : er = 0
        · subst he
          have e4 : ((0 : Int) == (0 : Int)) = true := by decide
          have HTRUE : Hid (r = true) := by rw [← HR.out]; exact Sv.can_of HTT.out (by rw [HRES.out])
          go_wp2
          go_ret
          exact ⟨by rw [HTRUE.out]; rfl, below_next HB0.out HB6.out⟩
        · have e4 : (er == (0 : Int)) = false := by rw [beq_eq_false_iff_ne]; exact he
          have HQ2 : Hid (∀ (p : Nat) (t : Ld.T), p < q + 1 → x.ts[p]? = some t → ¬ (Rt.runS x.N x.D x.T x.os x.ts t.id l).e = 0) := fun p t hp hpt => by
            by_cases e : p = q
            · subst e
              rw [HTT.out] at hpt
              obtain rfl := Option.some.inj hpt
              rw [show (Rt.runS x.N x.D x.T x.os x.ts t0 l) = _ from HRES.out]
              exact he
            · exact HQ.out p t (by omega) hpt
          go_wp2
          go_roundg gt
          case measure => omega
          case rel => exact ⟨q + 1, _, rfl, by omega, rfl, by first | rfl | go_num, HB6.out, HQ2.out⟩
    · have HFALSE : Hid (r = false) := by
        rw [← HR.out]
        exact Sv.can_no fun p t hp => HQ.out p t (by have := (List.getElem?_eq_some_iff.1 hp).1; rw [HKL.out] at this; omega) hp
      go_wp2
      go_ret
      exact ⟨by rw [HFALSE.out]; rfl, below_next HB0.out HB.out⟩
end Go.Proofs.YtjidelfpmlnhkaaGreat
