/- LogGoes' walk, where there is a log. -/
import Derived.Test.YtoocifoglhhnmaaLogRefB
import Derived.WalkKit
import Derived.Deep.DeepCutAuto
import Derived.Deep.CutBlock
namespace Go.Proofs.Ytoocifoglhhnmaa
open Go.RowKit
set_option linter.unusedVariables false

/-- behind a round's operation: which code, what the log holds, what the law's row holds -/
def MidS (w : World) (lb g s n k : Nat) (ym : Nat) (s13 s14 : Value) (W : World) : Prop := ∃ (F : Nat → Prop) (x : Lg.L) (d : Dk.D) (A : Option Addr) (c m : Nat) (rs : List Dk.Bs) (e : Int), s13 = .slice A m c ∧ s14 = .int .i64 e ∧ d.writes ≤ 65 + 200 * k + 100 ∧ rs.length = m ∧ m ≤ 100 ∧ Hid (LL w W F lb g s n x d) ∧ Hid (Lg.Well n x d) ∧ Hid (RowIn (Two g s) W A rs) ∧ ((e = 0 ∧ Hid (x.recs = rs)) ∨ e = 4 ∨ (e = 1 ∧ 200 < ym))

set_option maxHeartbeats 4000000 in
set_option maxRecDepth 100000 in
theorem goes_main (n : Nat) (a1 : Option Addr) (len cap : Nat) (l : List Ox) (a2 : Option Addr) (len2 cap2 : Nat) (b : Dk.Bs) (w : World) (h0 : 4 ≤ n) (h1 : n ≤ 64) (hl : l.length = len) (hlc : len ≤ cap) (hcm : cap ≤ maxLen) (hv : OpsIn w.heap.size w a1 l) (hl2 : b.length = len2) (h20 : len2 ≤ 300) (hlc2 : len2 ≤ cap2) (hcm2 : cap2 ≤ maxLen) (hv2 : BytesIn (Mine w.heap.size) w a2 b) :
    Calls Try.prog 5 #[.int .i64 n, .slice a1 len cap, .slice a2 len2 cap2] w fun e w' => e = .returned (.bool true) ∧ Below w.heap.size w w' := by
  have HV := Lib.hid hv
  have HL := Lib.hid hl
  have HV2 := Lib.hid hv2
  have HL2 := Lib.hid hl2
  have HLA := Lib.hid (fun W => large_any w.heap.size a1 len cap l W hl (by omega))
  clear hv hl hv2 hl2
  have dn : decide ((64 : Int) < (n : Int)) = false := decide_eq_false (by omega)
  have dn4 : decide ((n : Int) < 4) = false := decide_eq_false (by omega)
  have d20 : decide ((300 : Int) < (len2 : Int)) = false := decide_eq_false (by omega)
  go_enter Try.func5, Try.ntmps5
  go_wp2_with fail
  refine (awake_any w).mono ?_
  rintro e w1 ⟨rfl, hb1⟩
  have HB1 := Lib.hid hb1
  clear hb1
  go_wp2_with fail
  refine (HLA.out w1 (HV.out.keep (Kept.of_below HB1.out))).mono ?_
  rintro e w' ⟨bb, rfl, rfl, h40⟩
  clear HLA
  cases bb with
  | true =>
    clear h40
    go_wp2
    go_ret
    exact ⟨rfl, HB1.out⟩
  | false =>
    have h40 := h40 rfl
    go_wp2_with fail
    refine (run_new n w w1 HB1.out (by omega) (by omega)).mono ?_
    rintro e w2 ⟨g, s, rfl, hr2, _⟩
    have HR2 := Lib.hid hr2
    clear hr2 HB1
    go_wp2_with fail
    obtain ⟨f1, _, _, f4⟩ := fresh_goes h0
    have f2 := Lg.fresh_well h0
    obtain ⟨q, hq⟩ : ∃ q, openQ n (Dk.fresh n) = q := ⟨_, rfl⟩
    rw [hq] at f1 f2 f4
    refine (ll_open (Two g s) (fun _ => id) HR2.out h0 (by rw [show (Dk.fresh n).writes = 0 from rfl]; omega) q hq f1).mono ?_
    rintro e w3 ⟨lb0, F0, rfl, h3, _, _⟩
    obtain ⟨qd, qc, qx⟩ := q
    simp only at f1 f2 f4 h3
    have HL0 := Lib.hid h3
    have HW0 := Lib.hid f2
    clear h3 f1 f2 hq HR2
    go_wp2_with fail
    go_loopg [9, 52] len (fun gk s9 s52 W => ∃ (k : Nat) (F : Nat → Prop) (x : Lg.L) (d : Dk.D) (lb : Nat), k + gk = len ∧ s52 = .int .i64 k ∧ s9 = .pointer (some ⟨lb, 0, none⟩) ∧ d.writes ≤ 65 + 200 * k ∧ Hid (LL w W F lb g s n x d) ∧ Hid (Lg.Well n x d))
    case atStart => exact ⟨0, F0, qx, qd, lb0, by omega, rfl, rfl, by omega, HL0.out, HW0.out⟩
    case round =>
      clear HL0 HW0 f4
      obtain ⟨k, F, x, d, lb, hkg, rfl, rfl, hwk, HLL, HWE⟩ := hrel
      by_cases hlt : k < len
      · obtain ⟨go, rfl⟩ : ∃ i, gk = i + 1 := ⟨gk - 1, by omega⟩
        obtain ⟨y, hy⟩ := some_at l k (by rw [HL.out]; exact hlt)
        have HOP := Lib.hid (HV.out.keep (Kept.of_below HLL.out.bel))
        obtain ⟨ad, rfl, _, x0, x1, x2, x3⟩ := OpsIn.at_ HOP.out hy
        have HOK := Lib.hid ((HOP.out.2 y (List.mem_of_getElem? hy)).keep ((Kept.refl (Mine w.heap.size) wr).alloc (.cells #[.int .i64 y.o, .int .i64 y.a, .int .i64 y.c, .slice y.A y.m y.cap] 40)))
        have HS0 := Lib.hid (HLL.out.alloc (.cells #[.int .i64 y.o, .int .i64 y.a, .int .i64 y.c, .slice y.A y.m y.cap] 40))
        have HBX : Hid (OBox (wr.alloc (.cells #[.int .i64 y.o, .int .i64 y.a, .int .i64 y.c, .slice y.A y.m y.cap] 40)) wr.heap.size y) := heap_alloc_new wr _
        have HNF : Hid (¬ F wr.heap.size) := fun hf => by have := HLL.out.flt _ hf; omega
        clear hy HOP HLL
        go_wp2_with fail
        generalize wr.alloc (.cells #[.int .i64 y.o, .int .i64 y.a, .int .i64 y.c, .slice y.A y.m y.cap] 40) = W0 at *
        generalize wr.heap.size = xb at *
        refine (gw_records HS0.out).mono ?_
        rintro e w4 ⟨A4, c4, F4, rfl, h4, hb4, hF4⟩
        have HG4 := Lib.hid h4
        have HBX4 := Lib.hid (HBX.out.keep (F := No) (Kept.of_below hb4) id)
        have HOK4 := Lib.hid (HOK.out.keep (Kept.of_below hb4))
        have HNF4 : Hid (¬ F4 xb) := fun hf => by
          rcases hF4 _ hf with h | h
          · exact HNF.out h
          · have := HBX.out.lt; omega
        have hml : x.recs.length ≤ n := by
          have e1 := HS0.out.good.cnt
          have e2 := HS0.out.good.fin
          omega
        obtain ⟨m, hm⟩ : ∃ m, x.recs.length = m := ⟨_, rfl⟩
        rw [hm] at HG4 hml ⊢
        have HM := Lib.hid hm
        clear h4 hb4 hF4 HS0 HBX HOK HNF hm x0 x1 x2 x3
        have z0 := HBX4.out.c0
        have z1 := HBX4.out.c1
        have z2 := HBX4.out.c2
        have z3 := HBX4.out.c3
        go_upto_if 61 with fail
        go_cut [13, 14] (fun s13 s14 W => MidS w lb g s n k y.m s13 s14 W ∧ Hid (OBox W xb y))
        case first =>
          by_cases o1 : y.o = 1
          · have b1 : (y.o == 1) = true := beq_iff_eq.2 o1
            clear o1
            go_wp2_with fail
            refine (many_any y w4).mono ?_
            rintro e w5 ⟨v, rfl, ho, hb5⟩
            have HL5 := Lib.hid (HG4.out.ll.below hb5)
            have HOK5 := Lib.hid (HOK4.out.keep (Kept.of_below hb5))
            have HBX5 := Lib.hid (HBX4.out.keep (F := No) (Kept.of_below hb5) id)
            obtain ⟨A5, c5, rfl, hrw⟩ := rowIn_many ho (HOK5.out.sl HL5.out.fge) HG4.out.ll.flt
            have HRW := Lib.hid hrw
            obtain ⟨m2, hm2⟩ : ∃ m2, often y = m2 := ⟨_, rfl⟩
            have hm4 : m2 ≤ 4 := by rw [← hm2]; unfold often; omega
            have HM2 := Lib.hid hm2
            rw [hm2] at HRW
            rw [hm2]
            clear ho hb5 hrw hm2 HG4 HBX4 HOK4 z0 z1 z2 z3
            go_wp2_with fail
            obtain ⟨q, hq⟩ : ∃ q, Lg.onlyS n d x (List.replicate m2 y.l) = q := ⟨_, rfl⟩
            refine (ll_only HL5.out (by omega) h0 A5 m2 c5 _ (List.length_replicate ..) (by omega) HRW.out q hq).mono ?_
            rintro e w6 ⟨F6, rfl, h6, n6⟩
            have hst := Lg.only_well (rs := List.replicate m2 y.l) HWE.out
            have hww := Lg.only_writes n d x (List.replicate m2 y.l)
            rw [hq] at hst hww
            clear hq
            obtain ⟨qd, qc, qx⟩ := q
            simp only at hst hww h6 ⊢
            have HL6 := Lib.hid h6
            have HBX6 := Lib.hid (HBX5.out.keep n6.kept HNF4.out)
            have HOK6 := Lib.hid (HOK5.out.keep (n6.mine HL5.out.fge))
            have HST := Lib.hid hst
            clear h6 n6 hst HL5 HRW HBX5 HOK5
            have z0 := HBX6.out.c0
            have z1 := HBX6.out.c1
            have z2 := HBX6.out.c2
            have z3 := HBX6.out.c3
            go_wp2_with fail
            refine (many_any y w6).mono ?_
            rintro e w7 ⟨v, rfl, ho, hb7⟩
            have HL7 := Lib.hid (HL6.out.below hb7)
            have HOK7 := Lib.hid (HOK6.out.keep (Kept.of_below hb7))
            have HBX7 := Lib.hid (HBX6.out.keep (F := No) (Kept.of_below hb7) id)
            obtain ⟨A7, c7, rfl, hrw⟩ := rowIn_many ho (HOK7.out.sl HL7.out.fge) HL6.out.flt
            rw [HM2.out] at hrw ⊢
            have HRW := Lib.hid (hrw.two HL7.out.two)
            clear ho hb7 hrw HL6 HBX6 HOK6 z0 z1 z2 z3
            go_wp2
            go_meet
            case rel =>
              rcases HST.out with ⟨e1, e2, e3⟩ | ⟨e1, e2, e3, e4⟩ | ⟨e1, e3, e4⟩
              · exact ⟨⟨F6, qx, qd, A7, c7, m2, _, qc, rfl, rfl, by omega, List.length_replicate .., by omega, HL7.out, e2, HRW.out, .inl ⟨e1, e3⟩⟩, HBX7.out⟩
              · subst e3 e4
                exact ⟨⟨F6, qx, qd, A7, c7, m2, _, qc, rfl, rfl, by omega, List.length_replicate .., by omega, HL7.out, HWE.out, HRW.out, .inr (.inr ⟨e1, by rw [← HOK7.out.len]; exact big_rep e2⟩)⟩, HBX7.out⟩
              · subst e3 e4
                exact ⟨⟨F6, qx, qd, A7, c7, m2, _, qc, rfl, rfl, by omega, List.length_replicate .., by omega, HL7.out, HWE.out, HRW.out, .inr (.inl e1)⟩, HBX7.out⟩
          · have b1 : (y.o == 1) = false := beq_eq_false_iff_ne.2 o1
            clear o1
            go_wp2_with fail
            obtain ⟨q, hq⟩ : ∃ q, Lg.appS n d x y.l = q := ⟨_, rfl⟩
            refine (gw_append HG4.out (by omega) y.A y.m y.cap y.l HOK4.out.len HOK4.out.m0 (by have := HOK4.out.m1; unfold maxLen; omega) (HOK4.out.by_ HG4.out.ll.fge) q hq).mono ?_
            rintro e w5 ⟨F5, rfl, h5, n5⟩
            have hst := Lg.app_well (b := y.l) HWE.out
            have hww := Lg.app_writes n d x y.l
            rw [hq] at hst hww
            clear hq
            obtain ⟨qd, qc, qx⟩ := q
            simp only at hst hww h5 ⊢
            have HBX5 := Lib.hid (HBX4.out.keep n5.kept HNF4.out)
            have HOK5 := Lib.hid (HOK4.out.keep (n5.mine HG4.out.ll.fge))
            have z3' := HBX5.out.c3
            have HAP := Lib.hid (gw_row h5 (by rw [HM.out]; omega) (.slice y.A y.m y.cap) y.l (HOK5.out.sl h5.ll.fge))
            rw [HM.out] at HAP
            have HYM := Lib.hid HOK5.out.len
            have HNX : Hid (∀ w' : World, Kept F5 w5 w' → OBox w' xb y) := fun w' hk => HBX5.out.keep hk (fun hf => by
              rcases n5.new _ hf with h | h
              · exact HNF4.out h
              · have := HBX4.out.lt; omega)
            have HST := Lib.hid hst
            clear h5 n5 hst HG4 HBX4 HOK4 HNF4 z0 z1 z2 z3
            go_wp2_with (at_builtin; refine wpList_append_any rfl (.tmp 72) (.tmp 75) 45 45 rfl _ _ rfl rfl _ HAP.out ?_; intro v6 w6 hap; obtain ⟨A6, c6, rfl, HA6⟩ := hap)
            go_meet
            case rel =>
              have hlen : (x.recs ++ [y.l]).length = m + 1 := by rw [List.length_append, HM.out]; rfl
              have hbx := HNX.out w6 HA6.out.2.2
              rcases HST.out with ⟨e1, e2, e3, _, _⟩ | ⟨e1, e2, e3, e4⟩ | ⟨e1, _, _, e3, e4⟩
              · exact ⟨⟨F5, qx, qd, A6, c6, m + 1, _, qc, rfl, rfl, by omega, hlen, by omega, HA6.out.1, e2, HA6.out.2.1, .inl ⟨e1, e3⟩⟩, hbx⟩
              · subst e3 e4
                exact ⟨⟨F5, qx, qd, A6, c6, m + 1, _, qc, rfl, rfl, by omega, hlen, by omega, HA6.out.1, HWE.out, HA6.out.2.1, .inr (.inr ⟨e1, by rw [← HYM.out]; exact e2⟩)⟩, hbx⟩
              · subst e3 e4
                exact ⟨⟨F5, qx, qd, A6, c6, m + 1, _, qc, rfl, rfl, by omega, hlen, by omega, HA6.out.1, HWE.out, HA6.out.2.1, .inr (.inl e1)⟩, hbx⟩
        case rest =>
          obtain ⟨⟨F5, x5, d5, A5, c5, m5, rs5, e, rfl, rfl, hw5, hm5, hm5b, HL5, HW5, HR5, hcase⟩, HBX5⟩ := hcut
          clear HG4 HBX4 HOK4 HNF4 z0 z1 z2 z3 HWE HM hml hwk
          have z3 := HBX5.out.c3
          have HM5 := Lib.hid hm5
          clear hm5
          go_upto_region 21 with fail
          go_cut [103] (fun s103 W => s103 = .bool false ∧ Hid (LL w W F5 lb g s n x5 d5))
          case first =>
            rcases hcase with ⟨rfl, HE⟩ | rfl | ⟨rfl, h200⟩
            · go_wp2_with fail
              refine (ll_records HL5.out).mono ?_
              rintro e w6 ⟨A6, c6, rfl, ⟨hr6, _⟩, hb6⟩
              rw [HE.out] at hr6 ⊢
              rw [HM5.out]
              have HR6 := Lib.hid (row_new (F := Two g s) hr6 (fun i hi => HL5.out.flt i (HL5.out.two i hi)))
              have HR56 := Lib.hid (HR5.out.keep (Kept.of_below hb6))
              have HL6 := Lib.hid (HL5.out.below hb6)
              clear hr6 hb6
              go_wp2_with fail
              refine (rsame_any (Two g s) A6 A5 m5 m5 c6 c5 rs5 rs5 w6 HM5.out HM5.out (by omega) (by omega) HR6.out HR56.out).mono ?_
              rintro e w7 ⟨rfl, q7, rfl⟩
              rw [decide_eq_true (rfl : rs5 = rs5)]
              have HL7 := Lib.hid (HL6.out.drewN q7)
              clear HL6 HR6 HR56
              generalize w6.drewN q7 = w7 at *
              go_wp2
              go_meet
              case rel => exact ⟨rfl, HL7.out⟩
            · go_wp2
              go_meet
              case rel => exact ⟨rfl, HL5.out⟩
            · have d200 : decide ((y.m : Int) ≤ 200) = false := decide_eq_false (by omega)
              clear h200
              go_wp2
              go_meet
              case rel => exact ⟨rfl, HL5.out⟩
          case rest =>
            obtain ⟨rfl, HL6⟩ := hcut
            clear HL5 HBX5 HR5 HM5 hcase z3
            by_cases hk3 : k % 3 = 0
            · have b3 : ((k : Int) % 3 == 0) = true := beq_iff_eq.2 (by omega)
              clear hk3
              obtain ⟨l1, l2', l3, l4⟩ := Lg.open_well HW5.out
              obtain ⟨q, hq⟩ : ∃ q, openQ n d5 = q := ⟨_, rfl⟩
              rw [hq] at l1 l2' l3 l4
              have HQ := Lib.hid hq
              have HC := Lib.hid l1
              have HXE := Lib.hid l2'
              have HWQ := Lib.hid l3
              clear hq l1 l2' l3
              go_wp2_with fail
              refine (ll_open (Two g s) (fun _ => id) HL6.out.run h0 (by omega) q HQ.out HC.out).mono ?_
              rintro e w7 ⟨lk, F7, rfl, h7, k7, _⟩
              rw [HXE.out] at h7
              obtain ⟨M, hM⟩ : ∃ M, x5.recs.length = M := ⟨_, rfl⟩
              have hMl : M ≤ n := by
                have e1 := h7.good.cnt
                have e2 := h7.good.fin
                omega
              have HM := Lib.hid hM
              have HK7 := Lib.hid h7
              have HJ7 := Lib.hid (HL6.out.turn h7.run.at_ k7)
              clear h7 k7 hM HL6 HQ HC HXE
              obtain ⟨qd, qc, qx⟩ := q
              simp only at l4 HWQ HK7 HJ7
              go_wp2_with fail
              refine (ll_records HK7.out).mono ?_
              rintro e w8 ⟨A8, c8, rfl, ⟨hr8, _⟩, hb8⟩
              rw [HM.out]
              have HR8 := Lib.hid (row_new (F := Two g s) hr8 (fun i hi => HK7.out.flt i (HK7.out.two i hi)))
              have HK8 := Lib.hid (HK7.out.below hb8)
              have HJ8 := Lib.hid (HJ7.out.below hb8)
              clear hr8 hb8 HK7 HJ7
              go_wp2_with fail
              refine (ll_records HJ8.out).mono ?_
              rintro e w9 ⟨A9, c9, rfl, ⟨hr9, _⟩, hb9⟩
              rw [HM.out]
              have HR9 := Lib.hid (row_new (F := Two g s) hr9 (fun i hi => HJ8.out.flt i (HJ8.out.two i hi)))
              have HR89 := Lib.hid (HR8.out.keep (Kept.of_below hb9))
              have HK9 := Lib.hid (HK8.out.below hb9)
              have HJ9 := Lib.hid (HJ8.out.below hb9)
              clear hr9 hb9 HK8 HJ8 HR8
              go_wp2_with fail
              refine (rsame_any (Two g s) A8 A9 M M c8 c9 x5.recs x5.recs w9 HM.out HM.out (by omega) (by omega) HR89.out HR9.out).mono ?_
              rintro e wa ⟨rfl, qa, rfl⟩
              rw [decide_eq_true (rfl : x5.recs = x5.recs)]
              have HKa := Lib.hid (HK9.out.drewN qa)
              have HJa := Lib.hid (HJ9.out.drewN qa)
              clear HK9 HJ9 HR89 HR9
              generalize w9.drewN qa = wa at *
              go_wp2_with fail
              refine (ll_left HKa.out).mono ?_
              rintro e wb ⟨rfl, qb, rfl⟩
              have HKb := Lib.hid (HKa.out.drewN qb)
              have HJb := Lib.hid (HJa.out.drewN qb)
              clear HKa HJa
              generalize wa.drewN qb = wb at *
              have HLE := Lib.hid (ll_left HJb.out)
              generalize n / 2 - x5.fin = LF at *
              go_wp2_with fail
              refine HLE.out.mono ?_
              rintro e wc ⟨rfl, qe, rfl⟩
              have HKc := Lib.hid (HKb.out.drewN qe)
              have HJc := Lib.hid (HJb.out.drewN qe)
              clear HKb HJb HLE
              generalize wb.drewN qe = wc at *
              go_wp2_with (first
                | (go_at_call_of 27 lk; refine (ll_gen HKc.out).mono ?_; rintro e w' ⟨rfl, rfl⟩)
                | (go_at_call 27; refine (ll_gen HJc.out).mono ?_; rintro e w' ⟨rfl, rfl⟩))
              go_roundg go
              case measure => omega
              case rel => exact ⟨k + 1, F7, x5, qd, lk, by omega, by first | rfl | go_num, rfl, by omega, HKc.out, HWQ.out⟩
            · have b3 : ((k : Int) % 3 == 0) = false := beq_eq_false_iff_ne.2 (by omega)
              clear hk3
              go_wp2
              go_roundg go
              case measure => omega
              case rel => exact ⟨k + 1, F5, x5, d5, lb, by omega, by first | rfl | go_num, rfl, by omega, HL6.out, HW5.out⟩
      · obtain rfl : k = len := by omega
        have HBY : Hid (∀ W : World, Below w.heap.size w W → BytesIn (Mine w.heap.size) W a2 b) := fun W hb => CellsIn.keep HV2.out (Kept.of_below hb)
        have HLE := Lib.hid (ll_left HLL.out)
        have HWA := Lib.hid (Lg.app_well (b := b) HWE.out)
        generalize hLF : n / 2 - x.fin = LF at *
        clear hLF
        go_wp2_with fail
        refine HLE.out.mono ?_
        rintro e w4 ⟨rfl, q4, rfl⟩
        have HL4 := Lib.hid (HLL.out.drewN q4)
        clear HLL HLE
        generalize wr.drewN q4 = w4 at *
        go_wp2_with fail
        obtain ⟨q, hq⟩ : ∃ q, Lg.appS n d x b = q := ⟨_, rfl⟩
        rw [hq] at HWA
        refine (ll_append HL4.out (by omega) a2 len2 cap2 b HL2.out hlc2 hcm2 (CellsIn.less (HBY.out w4 HL4.out.bel) (fun i _ hi => HL4.out.fge i hi)) q hq).mono ?_
        rintro e w5 ⟨F5, rfl, h5, _⟩
        have HB5 := Lib.hid h5.bel
        obtain ⟨qd, qc, qx⟩ := q
        simp only at HWA ⊢
        have hsum := HWA.out
        rw [HL2.out] at hsum
        have hs7 : len2 ≤ 200 → Lg.secs len2 ≤ 7 := fun h => Lg.secs_le len2 h
        have HLD : Hid (len2 ≤ 200 → Calls Try.prog 28 #[.slice a2 len2 cap2, .int .i64 1, .int .i64 0] w5 fun e w' => ∃ A' c', e = .returned (.slice A' (32 * Lg.secs len2) c') ∧ Hid (Below w.heap.size w w')) := fun h =>
          (rlaid_any a2 len2 cap2 b 1 0 w5 HL2.out h hlc2 hcm2 (by omega) (by omega) (bytes_no (HBY.out w5 HB5.out))).mono fun e w' ⟨A', c', e1, _, e3⟩ => ⟨A', c', e1, HB5.out.trans (e3.mono HB5.out.size)⟩
        clear h5 hq HWA HWE HBY HL4
        generalize Lg.secs len2 = sq at *
        obtain ⟨T, hT⟩ : ∃ T, 32 * sq = T := ⟨_, rfl⟩
        rw [hT] at HLD
        have hdiv : (T : Int) / 32 = (sq : Int) := by omega
        have hdivN : T / 32 = sq := by omega
        rcases hsum with ⟨rfl, _, _, hlen, hfit⟩ | ⟨rfl, hlen, _, _⟩ | ⟨rfl, hlen, hfit, _, _⟩
        · have d1 : decide ((len2 : Int) ≤ 200) = true := decide_eq_true (by omega)
          have d2 : decide ((sq : Int) ≤ (LF : Int)) = true := decide_eq_true (by omega)
          have d3 : decide (sq ≤ LF) = true := decide_eq_true hfit
          have HC := Lib.hid (HLD.out hlen)
          have hT7 : T ≤ 224 := by have := hs7 hlen; omega
          clear HLD hs7 hT
          go_wp2_with fail
          refine HC.out.mono ?_
          rintro e w6 ⟨A6, c6, rfl, HB6⟩
          clear HC
          go_wp2
          go_ret
          exact ⟨rfl, HB6.out⟩
        · have d1 : decide ((len2 : Int) ≤ 200) = false := decide_eq_false (by omega)
          clear HLD hs7 hT
          go_wp2
          go_ret
          exact ⟨rfl, HB5.out⟩
        · have d1 : decide ((len2 : Int) ≤ 200) = true := decide_eq_true (by omega)
          have d2 : decide ((sq : Int) ≤ (LF : Int)) = false := decide_eq_false (by omega)
          have d3 : decide (sq ≤ LF) = false := decide_eq_false (by omega)
          have HC := Lib.hid (HLD.out hlen)
          have hT7 : T ≤ 224 := by have := hs7 hlen; omega
          clear HLD hs7 hT
          go_wp2_with fail
          refine HC.out.mono ?_
          rintro e w6 ⟨A6, c6, rfl, HB6⟩
          clear HC
          go_wp2
          go_ret
          exact ⟨rfl, HB6.out⟩
end Go.Proofs.Ytoocifoglhhnmaa
