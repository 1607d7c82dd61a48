/- Contracts of package savings: what is saved by joining two rows. -/
import Derived.Test.YtjidelfpmlnhkaaGreatRouteE
import Derived.Test.YtjidelfpmlnhkaaGreatSavAM
namespace Go.Proofs.YtjidelfpmlnhkaaGreat
open Go.RowKit
set_option linter.unusedVariables false
set_option maxRecDepth 100000

theorem wrap_small (q : Nat) (h : q ≤ 1000000) : IntKind.i64.wrap (q : Int) = (q : Int) := by
  simp [IntKind.wrap, IntKind.bits, IntKind.signed]; omega
set_option maxHeartbeats 2000000 in
theorem detour_b (N : Int) (dA : Option Addr) (dm dc : Nat) (D : List Int) (tA : Option Addr) (tm tc : Nat) (T : List Int) (f t : Int) (w : World) (h : AreaAt w dA dm D tA tm T) (hok : Ar.okB N D T = true) (hf : Ar.hasB N f = true) (ht : Ar.hasB N t = true) (r : Int) (hr : Ar.at2 N D f 0 + Ar.at2 N D 0 t - Ar.at2 N D f t = r) :
    Calls Tryz.prog 23 #[.agg #[.int .i64 N, .slice dA dm dc, .slice tA tm tc], .int .i64 f, .int .i64 t] w fun e w' => e = .returned (.tuple #[.int .i64 r, .int .i64 0]) ∧ Hid (Below w.heap.size w w') := by
  have ho := Ar.ok_of hok
  have HX := Lib.hid (Boxed.new (N := N) (dc := dc) (tc := tc) h)
  have HB0 : Hid (Below w.heap.size w (w.alloc (.cells #[.int .i64 N, .slice dA dm dc, .slice tA tm tc] 24))) := below_alloc _ _
  have HL : Hid (∀ (a b p q : Int) (W : World), Ar.legS N D T a b = (p, q, 0) → AreaAt W dA dm D tA tm T → Calls Tryz.prog 57 #[.agg #[.int .i64 N, .slice dA dm dc, .slice tA tm tc], .int .i64 a, .int .i64 b] W fun e w' => e = .returned (.tuple #[.int .i64 p, .int .i64 q, .int .i64 0]) ∧ Below W.heap.size W w') := fun a b p q W e hW => by
    have := leg_any N dA dm dc D tA tm tc T a b W hW
    rw [e] at this
    exact this
  have L1 := Lib.hid (legS_ok hok hf ho.has0)
  have L2 := Lib.hid (legS_ok hok ho.has0 ht)
  have L3 := Lib.hid (legS_ok hok hf ht)
  have b1 := ho.at_d hf ho.has0
  have b2 := ho.at_d ho.has0 ht
  have b3 := ho.at_d hf ht
  clear ho h hok hf ht
  generalize Ar.at2 N D f 0 = p1 at *
  generalize Ar.at2 N D 0 t = p2 at *
  generalize Ar.at2 N D f t = p3 at *
  generalize Ar.at2 N T f 0 = q1 at *
  generalize Ar.at2 N T 0 t = q2 at *
  generalize Ar.at2 N T f t = q3 at *
  subst hr
  have d0 : ((0 : Int) != (0 : Int)) = false := by decide
  go_enter Tryz.func23, Tryz.ntmps23
  have x0 := HX.out.c0
  have x1 := HX.out.c1
  have x2 := HX.out.c2
  go_wp2_with fail
  clear x0 x1 x2
  generalize w.alloc (.cells #[.int .i64 N, .slice dA dm dc, .slice tA tm tc] 24) = V at *
  with_reducible refine (HL.out _ _ _ _ _ L1.out HX.out.rows).mono ?_
  rintro e V1 ⟨rfl, hv1⟩
  have HX1 := Lib.hid (HX.out.below hv1)
  have HB1 := Lib.hid (below_next HB0.out hv1)
  clear hv1 HX HB0
  have x0 := HX1.out.c0
  have x1 := HX1.out.c1
  have x2 := HX1.out.c2
  go_wp2_with fail
  clear x0 x1 x2
  with_reducible refine (HL.out _ _ _ _ _ L2.out HX1.out.rows).mono ?_
  rintro e V2 ⟨rfl, hv2⟩
  have HX2 := Lib.hid (HX1.out.below hv2)
  have HB2 := Lib.hid (below_next HB1.out hv2)
  clear hv2 HX1 HB1
  have x0 := HX2.out.c0
  have x1 := HX2.out.c1
  have x2 := HX2.out.c2
  go_wp2_with fail
  clear x0 x1 x2
  with_reducible refine (HL.out _ _ _ _ _ L3.out HX2.out.rows).mono ?_
  rintro e V3 ⟨rfl, hv3⟩
  have HB3 := Lib.hid (below_next HB2.out hv3)
  clear hv3 HX2 HB2
  go_wp2
  go_ret2
  exact ⟨rfl, HB3.out⟩

/-- what a call that tells what is saved leaves -/
def SavPost (w : World) (p : Int × Int) (e : Ending) (w' : World) : Prop := e = .returned (.tuple #[.int .i64 p.1, .int .i64 p.2]) ∧ Hid (Below w.heap.size w w')
theorem SavPost.mk {w w' : World} {p : Int × Int} {a b : Int} (h : p = (a, b)) (hb : Below w.heap.size w w') : SavPost w p (.returned (.tuple #[.int .i64 a, .int .i64 b])) w' := by
  subst h
  exact ⟨rfl, hb⟩

set_option maxHeartbeats 8000000 in
theorem saved_b (x : Wd) (A : Option Addr) (n c : Nat) (l : List Int) (B : Option Addr) (m d : Nat) (k : List Int) (w : World) (p : Int × Int) (hp : Sv.savS x.N x.D x.T x.os x.ts l k = p) (hx : WAt w x) (hn : l.length = n) (hn2 : n ≤ 1000) (hl : IntsAt w A l) (hm : k.length = m) (hm2 : m ≤ 1000) (hk : IntsAt w B k) :
    Calls Tryz.prog 9 #[.agg #[.int .i64 x.N, .slice x.dA x.dm x.dc, .slice x.tA x.tm x.tc, .slice x.A x.m x.c, .slice x.B x.k x.d], .slice A n c, .slice B m d] w (SavPost w p) := by
  have HX := Lib.hid (WX.new hx)
  have HB0 : Hid (Below w.heap.size w (w.alloc (.cells #[.int .i64 x.N, .slice x.dA x.dm x.dc, .slice x.tA x.tm x.tc, .slice x.A x.m x.c, .slice x.B x.k x.d] 28))) := below_alloc _ _
  have HL : Hid (IntsAt (w.alloc (.cells #[.int .i64 x.N, .slice x.dA x.dm x.dc, .slice x.tA x.tm x.tc, .slice x.A x.m x.c, .slice x.B x.k x.d] 28)) A l) := hl.below (below_alloc _ _)
  have HK : Hid (IntsAt (w.alloc (.cells #[.int .i64 x.N, .slice x.dA x.dm x.dc, .slice x.tA x.tm x.tc, .slice x.A x.m x.c, .slice x.B x.k x.d] 28)) B k) := hk.below (below_alloc _ _)
  have HP := Lib.hid hp
  have HN := Lib.hid hn
  have HM := Lib.hid hm
  clear hp hx hn hl hm hk
  obtain ⟨f, hf⟩ : ∃ f, Rt.worldE x.N x.D x.T x.os x.ts = f := ⟨_, rfl⟩
  have HF := Lib.hid hf
  go_enter Tryz.func9, Tryz.ntmps9
  have x0 := HX.out.c0
  have x1 := HX.out.c1
  have x2 := HX.out.c2
  have x3 := HX.out.c3
  have x4 := HX.out.c4
  go_wp2_with fail
  clear x0 x1 x2 x3 x4
  generalize (w.alloc (.cells #[.int .i64 x.N, .slice x.dA x.dm x.dc, .slice x.tA x.tm x.tc, .slice x.A x.m x.c, .slice x.B x.k x.d] 28)) = V at *
  generalize hb1 : w.heap.size = b1 at HX ⊢
  clear hb1
  have HC := Lib.hid (rworld_b x V f hf HX.out.at_)
  clear hf
  with_reducible refine HC.out.mono ?_
  rintro e V1 ⟨rfl, hv1⟩
  have HX1 := Lib.hid (HX.out.below hv1.out)
  have HB1 := Lib.hid (below_next HB0.out hv1.out)
  have HL1 := Lib.hid (HL.out.below hv1.out)
  have HK1 := Lib.hid (HK.out.below hv1.out)
  clear HC HX HB0 hv1 HL HK
  by_cases hf0 : f = 0
  · subst hf0
    have e1 : ((0 : Int) != (0 : Int)) = false := by decide
    by_cases hna : n = 0
    · subst hna
      have e2 : (((0 : Nat) : Int) == (0 : Int)) = true := by decide
      have HE : Hid (p = (0, 2)) := by rw [← HP.out]; exact Sv.sav_form HF.out (.inl (by rw [HN.out]; omega))
      go_wp2
      go_ret2
      exact SavPost.mk HE.out HB1.out
    · have e2 : ((n : Int) == (0 : Int)) = false := by rw [beq_eq_false_iff_ne]; omega
      by_cases hmb : m = 0
      · subst hmb
        have e3 : (((0 : Nat) : Int) == (0 : Int)) = true := by decide
        have HE : Hid (p = (0, 2)) := by rw [← HP.out]; exact Sv.sav_form HF.out (.inr (by rw [HM.out]; omega))
        go_wp2
        go_ret2
        exact SavPost.mk HE.out HB1.out
      · have e3 : ((m : Int) == (0 : Int)) = false := by rw [beq_eq_false_iff_ne]; omega
        obtain ⟨q, hq⟩ : ∃ q, q + 1 = n := ⟨n - 1, by omega⟩
        obtain ⟨la, hla⟩ := mlist_at l q (by rw [HN.out]; omega)
        obtain ⟨lb, hlb⟩ := mlist_at k 0 (by rw [HM.out]; omega)
        have HLA : Hid (Sv.lst l = la) := Sv.lst_at (by rw [HN.out, show n - 1 = q by omega]; exact hla)
        have HLB : Hid (Sv.hd k = lb) := Sv.hd_at hlb
        obtain ⟨ad, hA, hca⟩ := HL1.out q la hla
        obtain ⟨bd, hB, hcb⟩ := HK1.out 0 lb hlb
        rw [add_zero'] at hcb
        have hf2 : ¬ (l.length < 1 ∨ k.length < 1) := by rw [HN.out, HM.out]; omega
        have HF2 := Lib.hid hf2
        subst hA hB
        clear hla hlb hf2
        have wr : IntKind.i64.wrap ((n : Int) - 1) = (q : Int) := by rw [show (n : Int) - 1 = (q : Int) by omega]; exact wrap_small q (by omega)
        have i1 : (0 : Int) ≤ (q : Int) := by omega
        have i2 : (q : Int) < (n : Int) := by omega
        have i3 : (0 : Int) < (m : Int) := by omega
        have i4 : 0 < m := by omega
        obtain ⟨fa, hfa⟩ : ∃ z, Ld.findI (x.os.map Ld.O.id) la = z := ⟨_, rfl⟩
        obtain ⟨fb, hfb⟩ : ∃ z, Ld.findI (x.os.map Ld.O.id) lb = z := ⟨_, rfl⟩
        have HFA := Lib.hid hfa
        have HFB := Lib.hid hfb
        have HCE : Hid (∀ U, Below V1.heap.size V1 U → (U.cell? ⟨b1, 3, none⟩ = some (.slice x.A x.m x.c) ∧ U.cell? (ad.add q) = some (.int .i64 la) ∧ U.cell? bd = some (.int .i64 lb) ∧ Below V1.heap.size V1 U)) := fun U hU => ⟨(HX1.out.below hU).c3, by rw [hU.cell (p := ad.add q) (lt_of_cell hca)]; exact hca, by rw [hU.cell (p := bd) (lt_of_cell hcb)]; exact hcb, hU⟩
        have HC1 : Hid (∀ U, (U.cell? ⟨b1, 3, none⟩ = some (.slice x.A x.m x.c) ∧ U.cell? (ad.add q) = some (.int .i64 la) ∧ U.cell? bd = some (.int .i64 lb) ∧ Below V1.heap.size V1 U) → Calls Tryz.prog 22 #[.slice x.A x.m x.c, .int .i64 la] U fun e U => e = .returned (.int .i64 fa) ∧ (U.cell? ⟨b1, 3, none⟩ = some (.slice x.A x.m x.c) ∧ U.cell? (ad.add q) = some (.int .i64 la) ∧ U.cell? bd = some (.int .i64 lb) ∧ Below V1.heap.size V1 U)) := by
          rintro U ⟨_, _, _, h⟩
          exact (find_val x.A x.m x.c x.os la U fa HFA.out (HX1.out.below h).at_.ml (HX1.out.below h).at_.m2 (HX1.out.below h).at_.os).mono fun _ _ ⟨e1, e2⟩ => ⟨e1, HCE.out _ (below_next h e2.out)⟩
        have HC2 : Hid (∀ U, (U.cell? ⟨b1, 3, none⟩ = some (.slice x.A x.m x.c) ∧ U.cell? (ad.add q) = some (.int .i64 la) ∧ U.cell? bd = some (.int .i64 lb) ∧ Below V1.heap.size V1 U) → Calls Tryz.prog 22 #[.slice x.A x.m x.c, .int .i64 lb] U fun e U => e = .returned (.int .i64 fb) ∧ (U.cell? ⟨b1, 3, none⟩ = some (.slice x.A x.m x.c) ∧ U.cell? (ad.add q) = some (.int .i64 la) ∧ U.cell? bd = some (.int .i64 lb) ∧ Below V1.heap.size V1 U)) := by
          rintro U ⟨_, _, _, h⟩
          exact (find_val x.A x.m x.c x.os lb U fb HFB.out (HX1.out.below h).at_.ml (HX1.out.below h).at_.m2 (HX1.out.below h).at_.os).mono fun _ _ ⟨e1, e2⟩ => ⟨e1, HCE.out _ (below_next h e2.out)⟩
        obtain ⟨y0, y1, y2, hB0⟩ := HCE.out V1 (Below.refl _ _)
        have hB := hB0.drew
        clear HCE hfa hfb hca hcb
        go_wp2
        go_region_held3 (fun U : World => (U.cell? ⟨b1, 3, none⟩ = some (.slice x.A x.m x.c) ∧ U.cell? (ad.add q) = some (.int .i64 la) ∧ U.cell? bd = some (.int .i64 lb) ∧ Below V1.heap.size V1 U)) (first | exact ⟨y0, y1, y2, hB⟩ | exact ⟨k0, k1, k2, kb⟩ | assumption)
          (first
            | (go_at_call 22; (first | (with_reducible refine (HC1.out _ (by assumption)).mono ?_) | (with_reducible refine (HC2.out _ (by assumption)).mono ?_)); rintro e w7 ⟨rfl, k0, k1, k2, kb⟩))
        all_goals
          have HKB := Lib.hid kb
          clear k0 k1 k2 kb y0 y1 y2 hB0 hB HC1 HC2
          rename World => V2
          have HX2 := Lib.hid (HX1.out.below HKB.out)
          have HB2 := Lib.hid (below_next HB1.out HKB.out)
          clear HKB HX1 HB1 HL1 HK1
          by_cases ha1 : fa = -1
          · subst ha1
            have g1 : ((-1 : Int) == (-1 : Int)) = true := by decide
            have HE : Hid (p = (0, 5)) := by rw [← HP.out]; exact Sv.sav_name HF.out HF2.out (.inl (by rw [HLA.out]; exact HFA.out))
            go_wp2
            go_ret2
            exact SavPost.mk HE.out HB2.out
          · have g1 : (fa == (-1 : Int)) = false := by rw [beq_eq_false_iff_ne]; exact ha1
            by_cases hb1 : fb = -1
            · subst hb1
              have g2 : ((-1 : Int) == (-1 : Int)) = true := by decide
              have HE : Hid (p = (0, 5)) := by rw [← HP.out]; exact Sv.sav_name HF.out HF2.out (.inr (by rw [HLB.out]; exact HFB.out))
              go_wp2
              go_ret2
              exact SavPost.mk HE.out HB2.out
            · have g2 : (fb == (-1 : Int)) = false := by rw [beq_eq_false_iff_ne]; exact hb1
              obtain ⟨i, o1, hi, hil, hio, hoi⟩ := Rt.find_mem Ld.O.id x.os la (by rw [HFA.out]; exact ha1)
              obtain ⟨j, o2, hj, hjl, hjo, hoj⟩ := Rt.find_mem Ld.O.id x.os lb (by rw [HFB.out]; exact hb1)
              have HE : Hid (p = (Ar.at2 x.N x.D o1.node 0 + Ar.at2 x.N x.D 0 o2.node - Ar.at2 x.N x.D o1.node o2.node, 0)) := by
                unfold Hid
                rw [← HP.out, Sv.sav_ok HF.out HF2.out (by rw [HLA.out, HFA.out]; exact ha1) (by rw [HLB.out, HFB.out]; exact hb1)]
                unfold Sv.savV Sv.nodeOf
                rw [HLA.out, HLB.out, Rt.ordAt_eq hi hio, Rt.ordAt_eq hj hjo]
              have hok := Rt.ok_of HF.out
              have hn1 : Ar.hasB x.N o1.node = true := Rt.OOk.has (hok.oo o1 (List.mem_of_getElem? hio))
              have hn2' : Ar.hasB x.N o2.node = true := Rt.OOk.has (hok.oo o2 (List.mem_of_getElem? hjo))
              have HD : Hid (∀ U, AreaAt U x.dA x.dm x.D x.tA x.tm x.T → Calls Tryz.prog 23 #[.agg #[.int .i64 x.N, .slice x.dA x.dm x.dc, .slice x.tA x.tm x.tc], .int .i64 o1.node, .int .i64 o2.node] U fun e w' => e = .returned (.tuple #[.int .i64 (Ar.at2 x.N x.D o1.node 0 + Ar.at2 x.N x.D 0 o2.node - Ar.at2 x.N x.D o1.node o2.node), .int .i64 0]) ∧ Hid (Below U.heap.size U w')) := fun U hU => detour_b x.N x.dA x.dm x.dc x.D x.tA x.tm x.tc x.T o1.node o2.node U hU (Rt.ok_area HF.out) hn1 hn2' _ rfl
              rw [HFA.out] at hi
              rw [HFB.out] at hj
              subst hi hj
              obtain ⟨od, hod, ho1⟩ := HX2.out.at_.os.at_ hio
              obtain ⟨od2, hod2, ho2⟩ := HX2.out.at_.os.at_ hjo
              rw [hod] at hod2
              obtain rfl := Option.some.inj hod2
              have hc1 := ho1.c2
              have hc2 := ho2.c2
              have j1 : (i : Int) < (x.m : Int) := by rw [← HX2.out.at_.ml]; omega
              have j2 : (j : Int) < (x.m : Int) := by rw [← HX2.out.at_.ml]; omega
              clear hil hjl hio hjo hoi hoj ho1 ho2 hok hn1 hn2'
              generalize Ar.at2 x.N x.D o1.node 0 + Ar.at2 x.N x.D 0 o2.node - Ar.at2 x.N x.D o1.node o2.node = rr at *
              generalize o1.node = na at *
              generalize o2.node = nb at *
              have HOD := Lib.hid hod
              clear hod
              have HCE : Hid (∀ U, Below V2.heap.size V2 U → (U.cell? ⟨b1, 0, none⟩ = some (.int .i64 x.N) ∧ U.cell? ⟨b1, 1, none⟩ = some (.slice x.dA x.dm x.dc) ∧ U.cell? ⟨b1, 2, none⟩ = some (.slice x.tA x.tm x.tc) ∧ U.cell? ⟨b1, 3, none⟩ = some (.slice (some od) x.m x.c) ∧ U.cell? ⟨(od.add (i * 8)).block, (od.add (i * 8)).off + 2, none⟩ = some (.int .i64 na) ∧ U.cell? ⟨(od.add (j * 8)).block, (od.add (j * 8)).off + 2, none⟩ = some (.int .i64 nb) ∧ Below V2.heap.size V2 U)) := fun U hU => ⟨(HX2.out.below hU).c0, (HX2.out.below hU).c1, (HX2.out.below hU).c2, by rw [← HOD.out]; exact (HX2.out.below hU).c3, by rw [hU.cell (lt_of_cell hc1)]; exact hc1, by rw [hU.cell (lt_of_cell hc2)]; exact hc2, hU⟩
              have HC1 : Hid (∀ U, (U.cell? ⟨b1, 0, none⟩ = some (.int .i64 x.N) ∧ U.cell? ⟨b1, 1, none⟩ = some (.slice x.dA x.dm x.dc) ∧ U.cell? ⟨b1, 2, none⟩ = some (.slice x.tA x.tm x.tc) ∧ U.cell? ⟨b1, 3, none⟩ = some (.slice (some od) x.m x.c) ∧ U.cell? ⟨(od.add (i * 8)).block, (od.add (i * 8)).off + 2, none⟩ = some (.int .i64 na) ∧ U.cell? ⟨(od.add (j * 8)).block, (od.add (j * 8)).off + 2, none⟩ = some (.int .i64 nb) ∧ Below V2.heap.size V2 U) → Calls Tryz.prog 23 #[.agg #[.int .i64 x.N, .slice x.dA x.dm x.dc, .slice x.tA x.tm x.tc], .int .i64 na, .int .i64 nb] U fun e U => e = .returned (.tuple #[.int .i64 rr, .int .i64 0]) ∧ (U.cell? ⟨b1, 0, none⟩ = some (.int .i64 x.N) ∧ U.cell? ⟨b1, 1, none⟩ = some (.slice x.dA x.dm x.dc) ∧ U.cell? ⟨b1, 2, none⟩ = some (.slice x.tA x.tm x.tc) ∧ U.cell? ⟨b1, 3, none⟩ = some (.slice (some od) x.m x.c) ∧ U.cell? ⟨(od.add (i * 8)).block, (od.add (i * 8)).off + 2, none⟩ = some (.int .i64 na) ∧ U.cell? ⟨(od.add (j * 8)).block, (od.add (j * 8)).off + 2, none⟩ = some (.int .i64 nb) ∧ Below V2.heap.size V2 U)) := by
                rintro U ⟨_, _, _, _, _, _, h⟩
                exact (HD.out U (HX2.out.below h).at_.ar).mono fun _ _ ⟨e1, e2⟩ => ⟨e1, HCE.out _ (below_next h e2.out)⟩
              obtain ⟨y0, y1, y2, y3, y4, y5, hB0⟩ := HCE.out V2 (Below.refl _ _)
              have hB := hB0.drew
              clear HCE HD hc1 hc2
              go_wp2
              go_region_held3 (fun U : World => (U.cell? ⟨b1, 0, none⟩ = some (.int .i64 x.N) ∧ U.cell? ⟨b1, 1, none⟩ = some (.slice x.dA x.dm x.dc) ∧ U.cell? ⟨b1, 2, none⟩ = some (.slice x.tA x.tm x.tc) ∧ U.cell? ⟨b1, 3, none⟩ = some (.slice (some od) x.m x.c) ∧ U.cell? ⟨(od.add (i * 8)).block, (od.add (i * 8)).off + 2, none⟩ = some (.int .i64 na) ∧ U.cell? ⟨(od.add (j * 8)).block, (od.add (j * 8)).off + 2, none⟩ = some (.int .i64 nb) ∧ Below V2.heap.size V2 U)) (first | exact ⟨y0, y1, y2, y3, y4, y5, hB⟩ | exact ⟨k0, k1, k2, k3, k4, k5, kb⟩ | assumption)
                (first
                  | (go_at_call 23; ((with_reducible refine (HC1.out _ (by assumption)).mono ?_)); rintro e w8 ⟨rfl, k0, k1, k2, k3, k4, k5, kb⟩))
              all_goals
                have KB := Lib.hid (below_next HB2.out kb)
                clear k0 k1 k2 k3 k4 k5 kb y0 y1 y2 y3 y4 y5 hB0 hB HC1
                go_wp2
                go_ret2
                exact SavPost.mk HE.out KB.out
  · have e1 : (f != (0 : Int)) = true := bne_iff_ne.2 hf0
    have HE : Hid (p = (0, f)) := by rw [← HP.out]; exact Sv.sav_world HF.out hf0
    go_wp2
    go_ret2
    exact SavPost.mk HE.out HB1.out
end Go.Proofs.YtjidelfpmlnhkaaGreat
