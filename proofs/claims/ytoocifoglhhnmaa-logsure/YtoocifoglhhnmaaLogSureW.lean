/- LogSure's walk, where there is a log. -/
import Derived.Test.YtoocifoglhhnmaaLogSureT
import Derived.WalkKit
import Derived.Deep.DeepCutAuto
import Derived.Deep.CutBlock
import Derived.Deep.RegionLaw
namespace Go.Proofs.Ytoocifoglhhnmaa
open Go.RowKit
set_option linter.unusedVariables false

def CutS (w : World) (g s n : Nat) (s11 s12 : Value) (W : World) : Prop := ∃ As cs Aw cw sure way d, s11 = .slice As (List.length (α := Dk.Bs) sure) cs ∧ s12 = .slice Aw (List.length (α := Dk.Bs) way) cw ∧ d.writes ≤ 4000 ∧ Hid (TailS w W g s n As Aw sure way d)

set_option maxHeartbeats 4000000 in
set_option maxRecDepth 100000 in
theorem sure_main (n : Nat) (a1 : Option Addr) (len cap : Nat) (l : List Ox) (a2 : Option Addr) (len2 cap2 : Nat) (l2 : List (Int × Int)) (w : World) (h0 : 4 ≤ n) (h1 : n ≤ 64) (hl : l.length = len) (hlc : len ≤ cap) (hcm : cap ≤ maxLen) (hv : OpsIn w.heap.size w a1 l) (hl2 : l2.length = len2) (h20 : len2 ≤ 20) (hlc2 : len2 ≤ cap2) (hcm2 : cap2 ≤ maxLen) (hv2 : PairsIn w.heap.size w a2 l2) :
    Calls Try.prog 4 #[.int .i64 n, .slice a1 len cap, .slice a2 len2 cap2] w fun e w' => e = .returned (.bool true) ∧ Below w.heap.size w w' := by
  have HV := Lib.hid hv
  have HL := Lib.hid hl
  have HV2 := Lib.hid hv2
  have HL2 := Lib.hid hl2
  have HLA := Lib.hid (fun W => large_any w.heap.size a1 len cap l W hl (by omega))
  clear hv hl hv2 hl2
  have dn : decide ((64 : Int) < (n : Int)) = false := decide_eq_false (by omega)
  have dn4 : decide ((n : Int) < 4) = false := decide_eq_false (by omega)
  have d20 : decide ((20 : Int) < (len2 : Int)) = false := decide_eq_false (by omega)
  go_enter Try.func4, Try.ntmps4
  go_wp2_with fail
  refine (awake_any w).mono ?_
  rintro e w1 ⟨rfl, hb1⟩
  have HB1 := Lib.hid hb1
  clear hb1
  go_wp2_with fail
  refine (HLA.out w1 (HV.out.keep (Kept.of_below HB1.out))).mono ?_
  rintro e w' ⟨b, rfl, rfl, h40⟩
  clear HLA
  cases b with
  | true =>
    clear h40
    go_wp2
    go_ret
    exact ⟨rfl, HB1.out⟩
  | false =>
    have h40 := h40 rfl
    go_wp2_with fail
    refine (run_new n w w1 HB1.out (by omega) (by omega)).mono ?_
    rintro e w2 ⟨g, s, rfl, hr2, _⟩
    have HR2 := Lib.hid hr2
    clear hr2 HB1
    go_wp2_with fail
    obtain ⟨f1, f2, f3, f4⟩ := fresh_goes h0
    obtain ⟨q, hq⟩ : ∃ q, openQ n (Dk.fresh n) = q := ⟨_, rfl⟩
    rw [hq] at f1 f2 f3 f4
    refine (ll_open (Two g s) (fun _ => id) HR2.out h0 (by rw [show (Dk.fresh n).writes = 0 from rfl]; omega) q hq f1).mono ?_
    rintro e w3 ⟨lb, F, rfl, h3, _, _⟩
    obtain ⟨qd, qc, qx⟩ := q
    simp only at f1 f2 f3 f4 h3
    have HOS : Hid (OpsS w w3 F lb g s n none none qx qd) := ⟨h3, f2, by rw [f3]; exact fun k r hr => by simp at hr, by rw [f3]; exact fun k r hr => by simp at hr⟩
    have HLEN : Hid (qx.recs.length = 0) := by rw [f3]; rfl
    clear h3 f1 f2 f3 hq HR2
    go_upto_block 0 with fail
    go_cut [11, 12] (fun s11 s12 W => CutS w g s n s11 s12 W)
    case first =>
      go_wp2_with fail
      go_loopg [11, 12, 61] len (fun gk s11 s12 s61 W => ∃ (k : Nat) (F : Nat → Prop) (x : Lg.L) (d : Dk.D) (As : Option Addr) (cs : Nat) (Aw : Option Addr) (cw m : Nat), k + gk = len ∧ s61 = .int .i64 k ∧ s11 = .slice As m cs ∧ s12 = .slice Aw m cw ∧ d.writes ≤ 65 + 64 * k ∧ Hid (x.recs.length = m) ∧ Hid (OpsS w W F lb g s n As Aw x d))
      case atStart => exact ⟨0, F, qx, qd, none, 0, none, 0, 0, by omega, rfl, rfl, rfl, by omega, HLEN.out, HOS.out⟩
      case round =>
        clear HOS HLEN f4
        obtain ⟨k, F, x, d, As, cs, Aw, cw, m, hkg, rfl, rfl, rfl, hwk, HM, HS⟩ := hrel
        by_cases hlt : k < len
        · obtain ⟨gk, rfl⟩ : ∃ i, gk = i + 1 := ⟨gk - 1, by omega⟩
          obtain ⟨y, hy⟩ := some_at l k (by rw [HL.out]; exact hlt)
          have HOP := Lib.hid (HV.out.keep (Kept.of_below HS.out.ll.bel))
          obtain ⟨ad, rfl, _, x0, x1, x2, x3⟩ := OpsIn.at_ HOP.out hy
          have HOK := Lib.hid ((HOP.out.2 y (List.mem_of_getElem? hy)).keep ((Kept.refl (Mine w.heap.size) wr).alloc (.cells #[.int .i64 y.o, .int .i64 y.a, .int .i64 y.c, .slice y.A y.m y.cap] 40)))
          have HS0 := Lib.hid (HS.out.below (below_alloc wr (.cells #[.int .i64 y.o, .int .i64 y.a, .int .i64 y.c, .slice y.A y.m y.cap] 40)))
          have HBX : Hid (OBox (wr.alloc (.cells #[.int .i64 y.o, .int .i64 y.a, .int .i64 y.c, .slice y.A y.m y.cap] 40)) wr.heap.size y) := heap_alloc_new wr _
          have HNF : Hid (¬ F wr.heap.size) := fun hf => by have := HS.out.ll.flt _ hf; omega
          have z0 := HBX.out.c0
          have z1 := HBX.out.c1
          have z2 := HBX.out.c2
          have z3 := HBX.out.c3
          clear hy HOP HS
          have HMN : Hid (m ≤ 64) := by
            have e1 := HS0.out.len
            have e2 := HM.out
            unfold Hid
            omega
          by_cases o0 : y.o = 0
          · have b0 : (y.o == 0) = true := beq_iff_eq.2 o0
            clear o0
            go_upto_region 18 with fail
            generalize wr.alloc (.cells #[.int .i64 y.o, .int .i64 y.a, .int .i64 y.c, .slice y.A y.m y.cap] 40) = W0 at *
            generalize wr.heap.size = xb at *
            go_cut [12] (fun s12 W => WayM W0.drew F (x.recs ++ [y.l]) (m + 1) s12 W)
            case first =>
              have hfge := HS0.out.ll.fge
              have hway := way_all (W := W0.drew) (F := F) (A := As) (rs := x.recs) (c := cs) (SA := y.A) (Sm := y.m) (Sc := y.cap) (b := y.l) HS0.out.ll.flt (by have := HM.out; have := HMN.out; omega) (HS0.out.below (below_drew W0)).rs ((HOK.out.keep (Kept.of_below (below_drew W0))).sl hfge)
              rw [HM.out] at hway
              have HA1 : Hid (∃ v1 w1, (Builtin.append_ #[45, 45] 45 #[.slice (some ⟨W0.heap.size, 0, none⟩) 0 0, .slice As m cs]).run Try.prog (W0.alloc (.cells #[] 38)).drew = .ok v1 w1 ∧ (Step2 W0.drew F (x.recs ++ [y.l]) w1.heap.size v1 (w1.alloc (.cells #[.slice y.A y.m y.cap] 38)) ∧ Hid (Kept No W0.drew w1))) := hway.1
              have HB1 : Hid (∃ v1 w1, (Builtin.append_ #[45, 45] 45 #[.slice (some ⟨W0.heap.size, 0, none⟩) 0 0, .slice As m cs]).run Try.prog ((W0.alloc (.cells #[] 38)).alloc (.cells #[.slice y.A y.m y.cap] 38)).drew = .ok v1 w1 ∧ (Step2 W0.drew F (x.recs ++ [y.l]) (W0.heap.size + 1) v1 w1 ∧ Hid (Kept No W0.drew w1))) := hway.2.1
              have HC1 : Hid (∃ v1 w1, (Builtin.append_ #[45, 45] 45 #[.slice (some ⟨W0.heap.size + 1, 0, none⟩) 0 0, .slice As m cs]).run Try.prog ((W0.alloc (.cells #[.slice y.A y.m y.cap] 38)).alloc (.cells #[] 38)).drew = .ok v1 w1 ∧ (Step2 W0.drew F (x.recs ++ [y.l]) W0.heap.size v1 w1 ∧ Hid (Kept No W0.drew w1))) := hway.2.2
              have HLL : Hid ((x.recs ++ [y.l]).length = m + 1) := by rw [List.length_append, HM.out]; rfl
              have HY3 : Hid (∀ w4, Kept No W0.drew w4 → w4.cell? ⟨xb, 3, none⟩ = some (.slice y.A y.m y.cap)) := fun w4 hk => (hk.cell (p := ⟨xb, 3, none⟩) HBX.out.lt id).trans z3
              have y3a : (W0.alloc (.cells #[] 38)).cell? ⟨xb, 3, none⟩ = some (.slice y.A y.m y.cap) := (((Kept.refl No W0).alloc (.cells #[] 38)).cell (p := ⟨xb, 3, none⟩) HBX.out.lt id).trans z3
              clear hway hfge
              go_region_law (first
                | (refine step_append_at (w4.alloc (.cells #[.slice y.A y.m y.cap] 38)) (by with_reducible rfl) (by rfl) (.tmp 71) (.tmp 74) 45 45 45 (by rfl) (by rfl) (v1) (.slice (some ⟨w4.heap.size, 0, none⟩) 1 1) (by rfl) (by rfl) (fun v w' => WayR W0.drew F (x.recs ++ [y.l]) v w') HA2.out ?_
                   intro v2 w5 hf2
                   have HW2 := Lib.hid (WayR.m hf2 HLL.out)
                   clear hf2)
                | (refine step_append_at w4 (by with_reducible rfl) (by rfl) (.tmp 71) (.tmp 74) 45 45 45 (by rfl) (by rfl) (v1) (.slice (some ⟨W0.heap.size + 1, 0, none⟩) 1 1) (by rfl) (by rfl) (fun v w' => WayR W0.drew F (x.recs ++ [y.l]) v w') HB2.out ?_
                   intro v2 w5 hf2
                   have HW2 := Lib.hid (WayR.m hf2 HLL.out)
                   clear hf2)
                | (refine step_append_at w4 (by with_reducible rfl) (by rfl) (.tmp 71) (.tmp 74) 45 45 45 (by rfl) (by rfl) (v1) (.slice (some ⟨W0.heap.size, 0, none⟩) 1 1) (by rfl) (by rfl) (fun v w' => WayR W0.drew F (x.recs ++ [y.l]) v w') HC2.out ?_
                   intro v2 w5 hf2
                   have HW2 := Lib.hid (WayR.m hf2 HLL.out)
                   clear hf2)
                | (refine step_append_at ((W0.alloc (.cells #[] 38)).drew) (by with_reducible rfl) (by rfl) (.tmp 69) (.tmp 70) 45 45 45 (by rfl) (by rfl) (.slice (some ⟨W0.heap.size, 0, none⟩) 0 0) (.slice As m cs) (by rfl) (by rfl) (fun v1 w1 => Step2 W0.drew F (x.recs ++ [y.l]) w1.heap.size v1 (w1.alloc (.cells #[.slice y.A y.m y.cap] 38)) ∧ Hid (Kept No W0.drew w1)) HA1.out ?_
                   intro v1 w4 hf1
                   have HA2 := Lib.hid hf1.1
                   have y3 : w4.cell? ⟨xb, 3, none⟩ = some (.slice y.A y.m y.cap) := HY3.out w4 hf1.2.out
                   clear hf1)
                | (refine step_append_at (((W0.alloc (.cells #[] 38)).alloc (.cells #[.slice y.A y.m y.cap] 38)).drew) (by with_reducible rfl) (by rfl) (.tmp 69) (.tmp 70) 45 45 45 (by rfl) (by rfl) (.slice (some ⟨W0.heap.size, 0, none⟩) 0 0) (.slice As m cs) (by rfl) (by rfl) (fun v1 w1 => Step2 W0.drew F (x.recs ++ [y.l]) (W0.heap.size + 1) v1 w1 ∧ Hid (Kept No W0.drew w1)) HB1.out ?_
                   intro v1 w4 hf1
                   have HB2 := Lib.hid hf1.1
                   have y3 : w4.cell? ⟨xb, 3, none⟩ = some (.slice y.A y.m y.cap) := HY3.out w4 hf1.2.out
                   clear hf1)
                | (refine step_append_at (((W0.alloc (.cells #[.slice y.A y.m y.cap] 38)).alloc (.cells #[] 38)).drew) (by with_reducible rfl) (by rfl) (.tmp 69) (.tmp 70) 45 45 45 (by rfl) (by rfl) (.slice (some ⟨W0.heap.size + 1, 0, none⟩) 0 0) (.slice As m cs) (by rfl) (by rfl) (fun v1 w1 => Step2 W0.drew F (x.recs ++ [y.l]) W0.heap.size v1 w1 ∧ Hid (Kept No W0.drew w1)) HC1.out ?_
                   intro v1 w4 hf1
                   have HC2 := Lib.hid hf1.1
                   have y3 : w4.cell? ⟨xb, 3, none⟩ = some (.slice y.A y.m y.cap) := HY3.out w4 hf1.2.out
                   clear hf1))
              all_goals
                obtain ⟨A2, c2, rfl, HWZ⟩ := HW2.out
                go_wp2_with fail
                go_meet
                case rel => exact ⟨A2, c2, rfl, HWZ.out⟩
            case rest =>
              obtain ⟨A2, c2, rfl, HWR⟩ := hcut
              have HS1 := Lib.hid ((HS0.out.below (below_drew W0)).below HWR.out.2)
              have HBX1 := Lib.hid ((HBX.out.keep (F := No) (Kept.of_below (below_drew W0)) id).keep (F := No) (Kept.of_below HWR.out.2) id)
              have HOK1 := Lib.hid ((HOK.out.keep (Kept.of_below (below_drew W0))).keep (Kept.of_below HWR.out.2))
              have HRW := Lib.hid HWR.out.1
              clear HWR HS0 HBX HOK z0 z1 z2 z3 x0 x1 x2 x3
              have z3 := HBX1.out.c3
              go_wp2_with fail
              obtain ⟨q, hq⟩ : ∃ q, Lg.appS n d x y.l = q := ⟨_, rfl⟩
              refine (ll_append HS1.out.ll (by omega) y.A y.m y.cap y.l HOK1.out.len HOK1.out.m0 (by have := HOK1.out.m1; unfold maxLen; omega) (HOK1.out.by_ HS1.out.ll.fge) q hq).mono ?_
              rintro e w5 ⟨F5, rfl, h5, n5⟩
              have hst := Lg.app_step (b := y.l) HS1.out.go
              have hww := Lg.app_writes n d x y.l
              rw [hq] at hst hww
              clear hq
              obtain ⟨qd, qc, qx⟩ := q
              simp only at hst hww h5 ⊢
              have HLL : Hid ((x.recs ++ [y.l]).length = m + 1) := by rw [List.length_append, HM.out]; rfl
              rcases hst with ⟨rfl, g5, e5⟩ | ⟨hc, rfl, rfl⟩ | ⟨rfl, g5⟩
              · have HN : Hid (OpsS w w5 F5 lb g s n A2 A2 qx qd) := ⟨h5, g5, by rw [e5]; exact n5.row HRW.out, by rw [e5]; exact n5.row HRW.out⟩
                have HML : Hid (qx.recs.length = m + 1) := by rw [e5]; exact HLL.out
                clear h5 n5 g5 e5 HLL HS1 HBX1 HOK1 HRW z3
                go_wp2
                go_roundg gk
                case measure => omega
                case rel => exact ⟨k + 1, F5, qx, qd, A2, c2, A2, c2, m + 1, by omega, by first | rfl | go_num, rfl, rfl, by omega, HML.out, HN.out⟩
              · have HN : Hid (OpsS w w5 F5 lb g s n As As qx qd) := ⟨h5, HS1.out.go, n5.row HS1.out.rs, n5.row HS1.out.rs⟩
                clear h5 n5 HLL HS1 HBX1 HOK1 HRW z3
                rcases hc with rfl | rfl
                all_goals
                  go_wp2
                  go_roundg gk
                  case measure => omega
                  case rel => exact ⟨k + 1, F5, qx, qd, As, cs, As, cs, m, by omega, by first | rfl | go_num, rfl, rfl, by omega, HM.out, HN.out⟩
              · have HN : Hid (TailS w w5 g s n As A2 x.recs (x.recs ++ [y.l]) qd) := ⟨h5.run, g5, (n5.row HS1.out.rs).two h5.two, (n5.row HRW.out).two h5.two, by have := HM.out; have := HMN.out; omega, by have := HLL.out; have := HMN.out; omega⟩
                clear h5 n5 g5 HS1 HBX1 HOK1 HRW z3
                go_wp2
                go_meet
                case rel => exact ⟨As, cs, A2, c2, x.recs, x.recs ++ [y.l], qd, by rw [HM.out], by rw [HLL.out], by omega, HN.out⟩
          have b0 : (y.o == 0) = false := beq_eq_false_iff_ne.2 o0
          by_cases o1 : y.o = 1
          · have b1 : (y.o == 1) = true := beq_iff_eq.2 o1
            clear o0 o1
            go_wp2_with fail
            generalize wr.alloc (.cells #[.int .i64 y.o, .int .i64 y.a, .int .i64 y.c, .slice y.A y.m y.cap] 40) = W0 at *
            generalize wr.heap.size = xb at *
            refine (many_any y W0).mono ?_
            rintro e w3 ⟨v, rfl, ho, hb3⟩
            have HS1 := Lib.hid (HS0.out.below hb3)
            have HOK1 := Lib.hid (HOK.out.keep (Kept.of_below hb3))
            obtain ⟨A2, c2, rfl, hrw⟩ := rowIn_many ho (HOK1.out.sl HS1.out.ll.fge) HS0.out.ll.flt
            have HRW := Lib.hid hrw
            obtain ⟨m2, hm2⟩ : ∃ m2, often y = m2 := ⟨_, rfl⟩
            have hm4 : m2 ≤ 4 := by rw [← hm2]; unfold often; omega
            rw [hm2] at HRW
            rw [hm2]
            clear ho hb3 hrw hm2 HS0 HBX HOK z0 z1 z2 z3 x0 x1 x2 x3
            go_wp2_with fail
            obtain ⟨q, hq⟩ : ∃ q, Lg.onlyS n d x (List.replicate m2 y.l) = q := ⟨_, rfl⟩
            refine (ll_only HS1.out.ll (by omega) h0 A2 m2 c2 _ (List.length_replicate ..) (by omega) HRW.out q hq).mono ?_
            rintro e w5 ⟨F5, rfl, h5, n5⟩
            have hst := Lg.only_step (rs := List.replicate m2 y.l) HS1.out.go
            have hww := Lg.only_writes n d x (List.replicate m2 y.l)
            rw [hq] at hst hww
            clear hq
            obtain ⟨qd, qc, qx⟩ := q
            simp only at hst hww h5 ⊢
            have HLL : Hid ((List.replicate m2 y.l).length = m2) := List.length_replicate ..
            rcases hst with ⟨rfl, g5, e5⟩ | ⟨hc, rfl, rfl⟩ | ⟨rfl, g5⟩
            · have HN : Hid (OpsS w w5 F5 lb g s n A2 A2 qx qd) := ⟨h5, g5, by rw [e5]; exact n5.row HRW.out, by rw [e5]; exact n5.row HRW.out⟩
              have HML : Hid (qx.recs.length = m2) := by rw [e5]; exact HLL.out
              clear h5 n5 g5 e5 HLL HS1 HOK1 HRW
              go_wp2
              go_roundg gk
              case measure => omega
              case rel => exact ⟨k + 1, F5, qx, qd, A2, c2, A2, c2, m2, by omega, by first | rfl | go_num, rfl, rfl, by omega, HML.out, HN.out⟩
            · have HN : Hid (OpsS w w5 F5 lb g s n As As qx qd) := ⟨h5, HS1.out.go, n5.row HS1.out.rs, n5.row HS1.out.rs⟩
              clear h5 n5 HLL HS1 HOK1 HRW
              rcases hc with rfl | rfl
              all_goals
                go_wp2
                go_roundg gk
                case measure => omega
                case rel => exact ⟨k + 1, F5, qx, qd, As, cs, As, cs, m, by omega, by first | rfl | go_num, rfl, rfl, by omega, HM.out, HN.out⟩
            · have HN : Hid (TailS w w5 g s n As A2 x.recs (List.replicate m2 y.l) qd) := ⟨h5.run, g5, (n5.row HS1.out.rs).two h5.two, (n5.row HRW.out).two h5.two, by have := HM.out; have := HMN.out; omega, by have := HLL.out; omega⟩
              clear h5 n5 g5 HS1 HOK1 HRW
              go_wp2
              go_meet
              case rel => exact ⟨As, cs, A2, c2, x.recs, List.replicate m2 y.l, qd, by rw [HM.out], by rw [HLL.out], by omega, HN.out⟩
          have b1 : (y.o == 1) = false := beq_eq_false_iff_ne.2 o1
          by_cases o2 : y.o = 2
          · have b2 : (y.o == 2) = true := beq_iff_eq.2 o2
            clear o0 o1 o2
            go_wp2_with fail
            refine (ll_fuse HS0.out.ll y.a y.c HOK.out.a0 HOK.out.a1).mono ?_
            rintro e w5 ⟨rfl, h5, hk5⟩
            have HN := Lib.hid (HS0.out.fuse y.a y.c HOK.out.a0 HOK.out.a1 h5 hk5)
            have HWF : Hid ((Dk.fuseTo d y.a y.c).writes = d.writes) := rfl
            clear h5 hk5 HS0 HOK HBX
            go_wp2
            go_roundg gk
            case measure => omega
            case rel => exact ⟨k + 1, F, x, _, As, cs, Aw, cw, m, by omega, by first | rfl | go_num, rfl, rfl, by have := HWF.out; omega, HM.out, HN.out⟩
          have b2 : (y.o == 2) = false := beq_eq_false_iff_ne.2 o2
          clear o0 o1 o2
          go_wp2
          go_roundg gk
          case measure => omega
          case rel => exact ⟨k + 1, F, x, d, As, cs, Aw, cw, m, by omega, by first | rfl | go_num, rfl, rfl, by omega, HM.out, HS0.out⟩
        · obtain rfl : k = len := by omega
          have HN := Lib.hid (HS.out.tail h1)
          go_wp2_with fail
          go_meet
          case rel => exact ⟨As, cs, Aw, cw, x.recs, x.recs, d, by rw [HM.out], by rw [HM.out], by omega, HN.out⟩
    case rest =>
      clear HOS HLEN f4
      obtain ⟨As, cs, Aw, cw, sure, way, d, rfl, rfl, hwd, HT⟩ := hcut
      obtain ⟨ms, hms⟩ : ∃ ms, sure.length = ms := ⟨_, rfl⟩
      obtain ⟨mw, hmw⟩ : ∃ mw, way.length = mw := ⟨_, rfl⟩
      rw [hms, hmw]
      have HMS := Lib.hid hms
      have HMW := Lib.hid hmw
      clear hms hmw
      go_wp2_with fail
      go_loopg [104] len2 (fun gk s104 W => ∃ (k : Nat) (d : Dk.D), k + gk = len2 ∧ s104 = .int .i64 k ∧ d.writes ≤ 4000 + 64 * k ∧ Hid (TailS w W g s n As Aw sure way d))
      case atStart => exact ⟨0, d, by omega, rfl, by omega, HT.out⟩
      case round =>
        clear HT hwd
        obtain ⟨k, d, hkg, rfl, hwk, HT⟩ := hrel
        have HLS := Lib.hid HT.out.ls
        have HLW := Lib.hid HT.out.lw
        by_cases hlt : k < len2
        · obtain ⟨gk, rfl⟩ : ∃ i, gk = i + 1 := ⟨gk - 1, by omega⟩
          obtain ⟨y, hy⟩ := some_at l2 k (by rw [HL2.out]; exact hlt)
          obtain ⟨ad, rfl, _, _, x0, x1, hy0, hy1⟩ := (HV2.out.keep (Kept.of_below HT.out.run.bel)) k y hy
          have HY0 := Lib.hid hy0
          have HY1 := Lib.hid hy1
          have HT0 := Lib.hid (HT.out.below (below_alloc wr (.cells #[.int .i64 y.1, .int .i64 y.2] 50)))
          have HBX : Hid (PrBox (wr.alloc (.cells #[.int .i64 y.1, .int .i64 y.2] 50)) wr.heap.size y) := heap_alloc_new wr _
          have HNT : Hid (¬ Two g s wr.heap.size) := by
            have e1 := HT.out.run.at_.ltg
            have e2 := HT.out.run.at_.lts
            rintro (e | e) <;> omega
          clear hy hy0 hy1 HT
          go_wp2_with fail
          refine (run_crash HT0.out.run _ rfl).mono ?_
          rintro e w3 ⟨rfl, h3, k3⟩
          have HT3 := Lib.hid (HT0.out.step h3 k3 HT0.out.st.crash)
          have HBX3 := Lib.hid (HBX.out.keep k3 HNT.out)
          have z0 := HBX3.out.c0
          have z1 := HBX3.out.c1
          clear h3 k3 HT0 HBX x0 x1
          generalize wr.heap.size = xb at *
          go_wp2_with fail
          refine (run_fuse HT3.out.run y.1 y.2 HY0.out HY1.out _ rfl).mono ?_
          rintro e w4 ⟨rfl, h4, k4⟩
          have HT4 := Lib.hid (HT3.out.step h4 k4 (HT3.out.st.fuse y.1 y.2 HY0.out HY1.out))
          have hw4 : (Dk.fuseTo (Dk.crash d) y.1 y.2).writes ≤ 4000 + 64 * k := hwk
          clear h4 k4 HT3 HBX3 z0 z1 hwk HY0 HY1
          generalize Dk.fuseTo (Dk.crash d) y.1 y.2 = d4 at *
          go_wp2_with fail
          obtain ⟨q, hq⟩ : ∃ q, openQ n d4 = q := ⟨_, rfl⟩
          have hop := HT4.out.st.opens (by omega)
          rw [hq] at hop
          obtain ⟨o1, o2, o3, o4⟩ := hop
          by_cases oc : q.2.1 = 0
          · refine (ll_open (Two g s) (fun _ => id) HT4.out.run h0 (by omega) q hq oc).mono ?_
            rintro e w5 ⟨lk, F5, rfl, h5, k5, _⟩
            have HT5 := Lib.hid (HT4.out.step h5.run k5 o1)
            have HL5 := Lib.hid h5
            obtain ⟨qd, qc, qx⟩ := q
            simp only at o2 o3 o4 oc HT5 HL5
            have HTW : Hid (∀ i, Two g s i → i < w5.heap.size) := fun i hi => HL5.out.flt i (HL5.out.two i hi)
            clear h5 k5 o1 o2 oc hq HT4
            by_cases es : qx.recs = sure
            · have HE := Lib.hid es
              clear es o3
              go_wp2_with fail
              refine (ll_records HL5.out).mono ?_
              rintro e w6 ⟨A6, c6, rfl, ⟨hr6, _⟩, hb6⟩
              rw [HE.out] at hr6 ⊢
              rw [HMS.out]
              have HT6 := Lib.hid (HT5.out.below hb6)
              have HR6 := Lib.hid (row_new hr6 HTW.out)
              clear hr6 hb6 HT5
              go_wp2_with fail
              refine (rsame_any (Two g s) A6 As ms ms c6 cs sure sure w6 HMS.out HMS.out (by have := HMS.out; have := HLS.out; omega) (by have := HMS.out; have := HLS.out; omega) HR6.out HT6.out.rs).mono ?_
              rintro e w7 ⟨rfl, q7, rfl⟩
              rw [decide_eq_true (rfl : sure = sure)]
              have HT7 := Lib.hid (HT6.out.below (W' := w6.drewN q7) ⟨rfl, rfl, rfl, Nat.le_refl _, fun _ _ => rfl⟩)
              clear HT6 HR6
              generalize w6.drewN q7 = w7 at *
              go_wp2
              go_roundg gk
              case measure => omega
              case rel => exact ⟨k + 1, qd, by omega, by first | rfl | go_num, by omega, HT7.out⟩
            · have HE := Lib.hid (o3.resolve_left es)
              have HNE : Hid (way ≠ sure) := fun e => es (HE.out.trans e)
              clear es o3
              go_wp2_with fail
              refine (ll_records HL5.out).mono ?_
              rintro e w6 ⟨A6, c6, rfl, ⟨hr6, _⟩, hb6⟩
              rw [HE.out] at hr6 ⊢
              rw [HMW.out]
              have HT6 := Lib.hid (HT5.out.below hb6)
              have HL6 := Lib.hid (HL5.out.below hb6)
              have HR6 := Lib.hid (row_new hr6 HTW.out)
              have HTW6 : Hid (∀ i, Two g s i → i < w6.heap.size) := fun i hi => HL6.out.flt i (HL6.out.two i hi)
              clear hr6 hb6 HT5 HL5 HTW
              go_wp2_with fail
              refine (rsame_any (Two g s) A6 As mw ms c6 cs way sure w6 HMW.out HMS.out (by have := HMW.out; have := HLW.out; omega) (by have := HMS.out; have := HLS.out; omega) HR6.out HT6.out.rs).mono ?_
              rintro e w7 ⟨rfl, q7, rfl⟩
              rw [decide_eq_false HNE.out]
              have HT7 := Lib.hid (HT6.out.below (W' := w6.drewN q7) ⟨rfl, rfl, rfl, Nat.le_refl _, fun _ _ => rfl⟩)
              have HL7 := Lib.hid (HL6.out.drewN q7)
              have HTW7 : Hid (∀ i, Two g s i → i < (w6.drewN q7).heap.size) := HTW6.out
              clear HT6 HR6 HL6 HTW6
              generalize w6.drewN q7 = w7 at *
              go_wp2_with fail
              refine (ll_records HL7.out).mono ?_
              rintro e w8 ⟨A8, c8, rfl, ⟨hr8, _⟩, hb8⟩
              rw [HE.out] at hr8 ⊢
              rw [HMW.out]
              have HT8 := Lib.hid (HT7.out.below hb8)
              have HR8 := Lib.hid (row_new hr8 HTW7.out)
              clear hr8 hb8 HT7 HL7 HTW7
              go_wp2_with fail
              refine (rsame_any (Two g s) A8 Aw mw mw c8 cw way way w8 HMW.out HMW.out (by have := HMW.out; have := HLW.out; omega) (by have := HMW.out; have := HLW.out; omega) HR8.out HT8.out.rw).mono ?_
              rintro e w9 ⟨rfl, q9, rfl⟩
              rw [decide_eq_true (rfl : way = way)]
              have HT9 := Lib.hid (HT8.out.below (W' := w8.drewN q9) ⟨rfl, rfl, rfl, Nat.le_refl _, fun _ _ => rfl⟩)
              clear HT8 HR8
              generalize w8.drewN q9 = w9 at *
              go_wp2
              go_roundg gk
              case measure => omega
              case rel => exact ⟨k + 1, qd, by omega, by first | rfl | go_num, by omega, HT9.out⟩
          · refine (ll_open_no HT4.out.run h0 (by omega) q hq oc).mono ?_
            rintro e w5 ⟨rfl, h5, k5⟩
            have HT5 := Lib.hid (HT4.out.step h5 k5 o1)
            rw [o2.resolve_left oc]
            clear h5 k5 o1 o2 o3 oc hq HT4
            go_wp2
            go_roundg gk
            case measure => omega
            case rel => exact ⟨k + 1, q.1, by omega, by first | rfl | go_num, by omega, HT5.out⟩
        · obtain rfl : k = len2 := by omega
          go_wp2_with fail
          refine (run_crash HT.out.run _ rfl).mono ?_
          rintro e w3 ⟨rfl, h3, k3⟩
          have HT3 := Lib.hid (HT.out.step h3 k3 HT.out.st.crash)
          obtain ⟨l1, l2', l3, l4, l5⟩ := HT.out.st.last
          have hw3 : (Dk.crash d).writes = d.writes := rfl
          obtain ⟨q, hq⟩ : ∃ q, openQ n (Dk.crash d) = q := ⟨_, rfl⟩
          rw [hq] at l1 l2' l3 l4 l5
          obtain ⟨r, hr⟩ : ∃ r, openQ n q.1 = r := ⟨_, rfl⟩
          rw [hr] at l4 l5
          have HW3 : Hid ((Dk.crash d).writes ≤ 800000) := by unfold Hid; omega
          have HWQ : Hid (q.1.writes ≤ 800000) := by unfold Hid; omega
          have HQ := Lib.hid hq
          have HR := Lib.hid hr
          have HL1 := Lib.hid l1
          have HL4 := Lib.hid l4
          have HL5 := Lib.hid l5
          have HOR := Lib.hid l2'
          clear h3 k3 HT hw3 hq hr l1 l2' l3 l4 l5 hwk
          go_wp2_with fail
          refine (ll_open (Two g s) (fun _ => id) HT3.out.run h0 HW3.out q HQ.out HL1.out).mono ?_
          rintro e w4 ⟨lk, F4, rfl, h4, k4, n4⟩
          have HK4 := Lib.hid h4
          have HS4 := Lib.hid (HT3.out.rs.keep k4)
          have HY4 := Lib.hid (HT3.out.rw.keep k4)
          clear h4 k4 n4 HT3
          go_wp2_with fail
          refine (ll_open (Two g s) (fun _ => id) HK4.out.run h0 HWQ.out r HR.out HL4.out).mono ?_
          rintro e w5 ⟨lm, F5, rfl, h5, k5, n5⟩
          rw [HL5.out] at h5
          have HM5 := Lib.hid h5
          have HK5 := Lib.hid (HK4.out.turn h5.run.at_ k5)
          have HS5 := Lib.hid (HS4.out.keep k5)
          have HY5 := Lib.hid (HY4.out.keep k5)
          clear h5 k5 n5 HK4 HS4 HY4 HQ HR HL1 HL4 HL5 HW3 HWQ
          obtain ⟨qd, qc, x⟩ := q
          obtain ⟨rd, rc, rx⟩ := r
          simp only at HM5 HK5 HOR
          obtain ⟨M, hM⟩ : ∃ M, x.recs.length = M := ⟨_, rfl⟩
          have HM := Lib.hid hM
          have HM5k : Hid (M ≤ 5000) := by
            unfold Hid
            rw [← hM]
            rcases HOR.out with e | e
            · rw [e]; exact HLS.out
            · rw [e]; exact HLW.out
          clear hM
          go_wp2_with fail
          refine (ll_records HM5.out).mono ?_
          rintro e w6 ⟨A6, c6, rfl, ⟨hr6, _⟩, hb6⟩
          rw [HM.out]
          have HR6 := Lib.hid (row_new (F := Two g s) hr6 (fun i hi => HM5.out.flt i (HM5.out.two i hi)))
          have HM6 := Lib.hid (HM5.out.below hb6)
          have HK6 := Lib.hid (HK5.out.below hb6)
          have HS6 := Lib.hid (HS5.out.keep (Kept.of_below hb6))
          have HY6 := Lib.hid (HY5.out.keep (Kept.of_below hb6))
          clear hr6 hb6 HM5 HK5 HS5 HY5
          go_wp2_with fail
          refine (ll_records HK6.out).mono ?_
          rintro e w7 ⟨A7, c7, rfl, ⟨hr7, _⟩, hb7⟩
          rw [HM.out]
          have HR7 := Lib.hid (row_new (F := Two g s) hr7 (fun i hi => HK6.out.flt i (HK6.out.two i hi)))
          have HR67 := Lib.hid (HR6.out.keep (Kept.of_below hb7))
          have HM7 := Lib.hid (HM6.out.below hb7)
          have HK7 := Lib.hid (HK6.out.below hb7)
          have HS7 := Lib.hid (HS6.out.keep (Kept.of_below hb7))
          have HY7 := Lib.hid (HY6.out.keep (Kept.of_below hb7))
          clear hr7 hb7 HM6 HK6 HS6 HY6 HR6
          go_wp2_with fail
          refine (rsame_any (Two g s) A6 A7 M M c6 c7 x.recs x.recs w7 HM.out HM.out (by have := HM5k.out; omega) (by have := HM5k.out; omega) HR67.out HR7.out).mono ?_
          rintro e w8 ⟨rfl, q8, rfl⟩
          rw [decide_eq_true (rfl : x.recs = x.recs)]
          have HM8 := Lib.hid (HM7.out.drewN q8)
          have HK8 := Lib.hid (HK7.out.drewN q8)
          have HS8 := Lib.hid (HS7.out.keep ((Kept.refl (Two g s) w7).drewN q8))
          have HY8 := Lib.hid (HY7.out.keep ((Kept.refl (Two g s) w7).drewN q8))
          clear HM7 HK7 HS7 HY7 HR67 HR7
          generalize w7.drewN q8 = w8 at *
          go_wp2_with fail
          refine (ll_left HM8.out).mono ?_
          rintro e w9 ⟨rfl, q9, rfl⟩
          have HK9 := Lib.hid (HK8.out.drewN q9)
          have HS9 := Lib.hid (HS8.out.keep ((Kept.refl (Two g s) w8).drewN q9))
          have HY9 := Lib.hid (HY8.out.keep ((Kept.refl (Two g s) w8).drewN q9))
          clear HM8 HK8 HS8 HY8
          generalize w8.drewN q9 = w9 at *
          have HLE := Lib.hid (ll_left HK9.out)
          generalize n / 2 - x.fin = LF at *
          go_wp2_with fail
          refine HLE.out.mono ?_
          rintro e wa ⟨rfl, qa, rfl⟩
          have HKa := Lib.hid (HK9.out.drewN qa)
          have HSa := Lib.hid (HS9.out.keep ((Kept.refl (Two g s) w9).drewN qa))
          have HYa := Lib.hid (HY9.out.keep ((Kept.refl (Two g s) w9).drewN qa))
          clear HK9 HS9 HY9 HLE
          generalize w9.drewN qa = wa at *
          go_wp2_with fail
          refine (ll_records HKa.out).mono ?_
          rintro e wb ⟨Ab, cb, rfl, ⟨hrb, _⟩, hbb⟩
          rw [HM.out]
          have HRb := Lib.hid (row_new (F := Two g s) hrb (fun i hi => HKa.out.flt i (HKa.out.two i hi)))
          have HKb := Lib.hid (HKa.out.below hbb)
          have HSb := Lib.hid (HSa.out.keep (Kept.of_below hbb))
          have HYb := Lib.hid (HYa.out.keep (Kept.of_below hbb))
          clear hrb hbb HKa HSa HYa
          go_wp2_with fail
          refine (rsame_any (Two g s) Ab As M ms cb cs x.recs sure wb HM.out HMS.out (by have := HM5k.out; omega) (by have := HMS.out; have := HLS.out; omega) HRb.out HSb.out).mono ?_
          rintro e wc ⟨rfl, qc, rfl⟩
          have HKc := Lib.hid (HKb.out.drewN qc)
          have HYc := Lib.hid (HYb.out.keep ((Kept.refl (Two g s) wb).drewN qc))
          clear HKb HSb HYb HRb
          generalize wb.drewN qc = wc at *
          by_cases es : x.recs = sure
          · rw [decide_eq_true es]
            clear es
            go_wp2
            go_ret
            exact ⟨rfl, HKc.out.bel⟩
          · rw [decide_eq_false es]
            have HE := Lib.hid (HOR.out.resolve_left es)
            clear es
            go_wp2_with fail
            refine (ll_records HKc.out).mono ?_
            rintro e wd ⟨Ad, cd, rfl, ⟨hrd, _⟩, hbd⟩
            rw [HM.out]
            have HRd := Lib.hid (row_new (F := Two g s) hrd (fun i hi => HKc.out.flt i (HKc.out.two i hi)))
            have HKd := Lib.hid (HKc.out.below hbd)
            have HYd := Lib.hid (HYc.out.keep (Kept.of_below hbd))
            clear hrd hbd HKc HYc
            go_wp2_with fail
            refine (rsame_any (Two g s) Ad Aw M mw cd cw x.recs way wd HM.out HMW.out (by have := HM5k.out; omega) (by have := HMW.out; have := HLW.out; omega) HRd.out HYd.out).mono ?_
            rintro e we ⟨rfl, qe, rfl⟩
            rw [decide_eq_true HE.out]
            have HBE := Lib.hid (HKd.out.drewN qe).bel
            clear HKd HYd HRd
            generalize wd.drewN qe = we at *
            go_wp2
            go_ret
            exact ⟨rfl, HBE.out⟩
end Go.Proofs.Ytoocifoglhhnmaa
