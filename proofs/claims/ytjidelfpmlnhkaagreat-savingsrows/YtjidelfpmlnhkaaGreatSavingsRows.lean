/- Every call of the law that each row can be run by some truck, each order that some truck can run alone is in just one, and no two rows can be joined any more with something saved, answers true: for every world. No conditions. -/
import Derived.Test.YtjidelfpmlnhkaaGreatRows
import Derived.Test.YtjidelfpmlnhkaaGreatSavAw
import Derived.Test.YtjidelfpmlnhkaaGreatSavRow4
import Derived.WalkKit
import Derived.ProofKit
import Derived.OpenShut
import Derived.ShutString
import Derived.ChangeOld
import Derived.Below
import Derived.SizedLaws
namespace Go.Proofs.YtjidelfpmlnhkaaGreat.savingsRows
open Go.ChangeShapes Go.WideShapes Go.ChangeAt Go.RowKit
open Go.ChangeMaps (open_string shut_string)
set_option linter.unusedVariables false

theorem own : ownKnob Tryz.prog.godebug = none := by kernel_rfl
theorem laidOut : laidOutB Tryz.prog = true := by kernel_rfl

open Go.Proofs.YtjidelfpmlnhkaaGreat Go.Maps
set_option maxRecDepth 100000 in
set_option maxHeartbeats 16000000 in
theorem walk {w : World} (x : Wd) (hx : WorldIn w x) :
    Calls Tryz.prog 5 #[.agg #[.int .i64 x.N, .slice x.dA x.dm x.dc, .slice x.tA x.tm x.tc, .slice x.A x.m x.c, .slice x.B x.k x.d]] w fun e w' => e = .returned (.bool true) ∧ Below w.heap.size w w' := by
  have HB0 : Hid (Below w.heap.size w (w.alloc (.cells #[.int .i64 x.N, .slice x.dA x.dm x.dc, .slice x.tA x.tm x.tc, .slice x.A x.m x.c, .slice x.B x.k x.d] 28))) := below_alloc _ _
  have HX : Hid (Box (w.alloc (.cells #[.int .i64 x.N, .slice x.dA x.dm x.dc, .slice x.tA x.tm x.tc, .slice x.A x.m x.c, .slice x.B x.k x.d] 28)) w.heap.size x.cells 28) := Box.new w _ _
  have HWI := Lib.hid hx
  have hmm := @run_makeMap Tryz.prog
  clear hx
  go_enter Tryz.func5, Tryz.ntmps5
  go_wp2_with fail
  generalize (w.alloc (.cells #[.int .i64 x.N, .slice x.dA x.dm x.dc, .slice x.tA x.tm x.tc, .slice x.A x.m x.c, .slice x.B x.k x.d] 28)) = V at *
  generalize hb1 : w.heap.size = b1 at HX ⊢
  clear hb1
  with_reducible refine (awake_any _).mono ?_
  rintro e V1 ⟨rfl, hv1⟩
  have HX1 : Hid (Box V1 b1 x.cells 28) := HX.out.below hv1
  have HB1 := Lib.hid (below_next HB0.out hv1)
  have HW1 : Hid (WorldIn V1 x) := HWI.out.below HB1.out
  clear hv1 HX HB0
  have c0 := HX1.out.cell 0 _ rfl
  have c1 := HX1.out.cell 1 _ rfl
  have c2 := HX1.out.cell 2 _ rfl
  have c3 := HX1.out.cell 3 _ rfl
  have c4 := HX1.out.cell 4 _ rfl
  by_cases hl : Large x (rz 0)
  · have HC : Hid (∀ W, Calls Tryz.prog 8 #[.agg #[.int .i64 x.N, .slice x.dA x.dm x.dc, .slice x.tA x.tm x.tc, .slice x.A x.m x.c, .slice x.B x.k x.d], .int .i64 ((rz 0).sm : Int)] W fun e w' => e = .returned (.bool true) ∧ Hid (Below W.heap.size W w')) := fun W => large_yes x (rz 0) W HW1.out.mx HW1.out.kx HW1.out.dx HW1.out.tx (Nat.zero_le _) hl
    clear hl
    go_wp2_with fail
    refine (HC.out _).mono ?_
    rintro e V2 ⟨rfl, hv2⟩
    go_wp2
    go_ret
    exact ⟨rfl, below_next HB1.out hv2.out⟩
  · have HC : Hid (∀ W, Calls Tryz.prog 8 #[.agg #[.int .i64 x.N, .slice x.dA x.dm x.dc, .slice x.tA x.tm x.tc, .slice x.A x.m x.c, .slice x.B x.k x.d], .int .i64 ((rz 0).sm : Int)] W fun e w' => e = .returned (.bool false) ∧ Hid (Below W.heap.size W w')) := fun W => large_no x (rz 0) W hl
    have HAT := Lib.hid (HW1.out.at_ hl)
    have HNL := Lib.hid hl
    clear hl
    go_wp2_with fail
    refine (HC.out _).mono ?_
    rintro e V2 ⟨rfl, hv2⟩
    have HX2 : Hid (WX V2 b1 x) := ⟨HX1.out.below hv2.out, HAT.out.below hv2.out⟩
    have HB2 := Lib.hid (below_next HB1.out hv2.out)
    clear c0 c1 c2 c3 c4 hv2 HX1 HB1 HW1 HAT HC
    have HC := Lib.hid (rows_b x V2 HX2.out.at_)
    have x0 := HX2.out.c0
    have x1 := HX2.out.c1
    have x2 := HX2.out.c2
    have x3 := HX2.out.c3
    have x4 := HX2.out.c4
    go_wp2_with fail
    clear x0 x1 x2 x3 x4
    with_reducible refine HC.out.mono ?_
    rintro e V3 ⟨A, n, c, L, rfl, h3⟩
    obtain ⟨f, hf⟩ : ∃ f, Rt.worldE x.N x.D x.T x.os x.ts = f := ⟨_, rfl⟩
    have HF := Lib.hid hf
    obtain ⟨g1, g2, g3, g4, g5, g6⟩ := h3.out
    have HX3 := Lib.hid (HX2.out.below g1)
    have HB3 := Lib.hid (below_next HB2.out g1)
    have HLN := Lib.hid g2
    have HN12 := Lib.hid g3
    have HSR := Lib.hid g4
    have HIS := Lib.hid g5
    have HNO := Lib.hid g6
    rw [hf] at HIS HNO ⊢
    clear hf h3 g1 g2 g3 g4 g5 g6 HC HX2 HB2
    by_cases hf0 : f = 0
    · subst hf0
      have e1 : ((0 : Int) != (0 : Int)) = false := by decide
      have HJ := Lib.hid ((HIS.out rfl).joined HF.out)
      have HSO := Lib.hid ((HIS.out rfl).so)
      have HFL : Hid ((sts L).flatten.length ≤ 12) := by unfold Hid; rw [HJ.out.fl.length_eq]; exact Sv.alone_len HF.out
      have HML := Lib.hid HX3.out.at_.ml
      have hxm := HX3.out.at_.m2
      clear HIS HNO
      have HM0 : Hid (Below V3.heap.size V3 (V3.alloc (.map #[] 0)) ∧ Met 3 (.int .i64 1) (.int .i64 0) (V3.alloc (.map #[] 0)) V3.heap.size []) := ⟨below_alloc _ _, Met.made _ _ _ _⟩
      go_wp2_with fail
      generalize V3.alloc (.map #[] 0) = V4 at *
      obtain ⟨mb, hmb⟩ : ∃ m, V3.heap.size = m := ⟨_, rfl⟩
      rw [hmb] at HM0 ⊢
      have HME := Lib.hid hmb
      clear hmb hmm
      have hn12 := HN12.out
      go_loopg [36] n (fun gk s36 Wx => ∃ (i : Nat) (W : World), W = Wx ∧ i + gk = n ∧ s36 = .int .i64 i ∧ Hid (Below mb V3 W) ∧ Hid (Met 3 (.int .i64 1) (.int .i64 0) W mb (((sts L).take i).flatten)))
      case atStart => exact ⟨0, _, rfl, by omega, rfl, HM0.out.1, HM0.out.2⟩
      case round =>
        obtain ⟨i, W, rfl, hig, rfl, HK, HT⟩ := hrel
        have HK' : Hid (Below V3.heap.size V3 W) := by rw [HME.out]; exact HK.out
        by_cases hlt : i < n
        · obtain ⟨go, rfl⟩ : ∃ j, gk = j + 1 := ⟨gk - 1, by omega⟩
          obtain ⟨⟨rA, rm, rc, rst⟩, hri⟩ := mlist_at L i (by rw [HLN.out]; exact hlt)
          obtain ⟨ad, hA, hci, hoi⟩ := (HSR.out.below HK'.out).cell hri
          have HRI := Lib.hid hri
          have HOI := Lib.hid (HSR.out.ok _ (List.mem_of_getElem? hri))
          have HMI : Hid (rst ∈ sts L) := List.mem_map.2 ⟨_, List.mem_of_getElem? hri, rfl⟩
          have HNE := Lib.hid (HJ.out.rw.ne _ HMI.out)
          have HCI := Lib.hid (HJ.out.cn _ HMI.out)
          have hrl : rst.length = rm := HOI.out.sl
          have hrm1 : rm ≤ 100 := HOI.out.s2
          have hrp : 0 < rm := by have := List.length_pos_iff.2 HNE.out; omega
          have HRL := Lib.hid hrl
          clear hri hoi hrl
          simp only at hci
          obtain rfl := hA
          have i2 : (i : Int) < (n : Int) := by omega
          have e0 : ((rm : Int) == (0 : Int)) = false := by rw [beq_eq_false_iff_ne]; omega
          go_upto_region 13 with fail
          go_cut [64] (fun s64 Wy => ∃ W1 : World, W1 = Wy ∧ s64 = .bool false ∧ Hid (Below W.heap.size W W1))
          case first => as_aux_lemma =>
            have HCN := Lib.hid (can_b x b1 rA rm rc rst W true HCI.out (HX3.out.below HK'.out) HRL.out (by omega) (HOI.out.st.below HK'.out))
            go_wp2_with fail
            with_reducible refine HCN.out.mono ?_
            rintro e W1 ⟨rfl, h1⟩
            by_cases hi0 : i = 0
            · have d0 : decide ((0 : Int) < (i : Int)) = false := decide_eq_false (by omega)
              have d0' : decide (0 < i) = false := decide_eq_false (by omega)
              clear hi0
              go_wp2
              go_meet
              case rel => exact ⟨_, rfl, rfl, h1.out⟩
            · have d0 : decide ((0 : Int) < (i : Int)) = true := decide_eq_true (by omega)
              have d0' : decide (0 < i) = true := decide_eq_true (by omega)
              obtain ⟨p, hp⟩ : ∃ p, p + 1 = i := ⟨i - 1, by omega⟩
              obtain ⟨⟨pA, pm, pc, pst⟩, hrp'⟩ := mlist_at L p (by rw [HLN.out]; omega)
              obtain ⟨ad2, hA2, hcp, hop⟩ := (HSR.out.below (below_next HK'.out h1.out)).cell hrp'
              obtain rfl := Option.some.inj hA2
              simp only at hcp
              have hle : Sv.le2 pst rst := by
                have h2 := sts_at hrp'
                have h3 := sts_at HRI.out
                have h4 := List.pairwise_iff_getElem.1 HSO.out p i (List.getElem?_eq_some_iff.1 h2).1 (List.getElem?_eq_some_iff.1 h3).1 (by omega)
                rw [(List.getElem?_eq_some_iff.1 h2).2, (List.getElem?_eq_some_iff.1 h3).2] at h4
                exact h4
              have hpl : pst.length = pm := hop.sl
              have hrl := HRL.out
              have hpr : ¬ pm < rm := by unfold Sv.le2 at hle; omega
              have d2 : decide ((pm : Int) < (rm : Int)) = false := decide_eq_false (by omega)
              have d2' : decide (pm < rm) = false := decide_eq_false hpr
              have wr : IntKind.i64.wrap ((i : Int) - 1) = (p : Int) := by rw [show (i : Int) - 1 = (p : Int) by omega]; exact wrap_small p (by omega)
              have j1 : (0 : Int) ≤ (p : Int) := by omega
              have j2 : (p : Int) < (n : Int) := by omega
              clear hrp' hA2 hop hle hpl hrl
              go_wp2
              go_meet
              case rel => exact ⟨_, rfl, rfl, h1.out⟩
          case rest => as_aux_lemma =>
            obtain ⟨W1, rfl, rfl, hb1⟩ := hcut
            have HK1 : Hid (Below mb V3 W1) := HK.out.trans (hb1.out.mono (by rw [← HME.out]; exact HK'.out.size))
            have HT1 : Hid (Met 3 (.int .i64 1) (.int .i64 0) W1 mb (((sts L).take i).flatten ++ rst.take 0)) := by rw [List.take_zero, List.append_nil]; exact HT.out.below hb1.out
            clear hb1 HK HT HK' hci e0
            go_wp2_with fail
            go_loopg [67] rm (fun gk s67 Wx => ∃ (j : Nat) (W : World), W = Wx ∧ j + gk = rm ∧ s67 = .int .i64 j ∧ Hid (Below mb V3 W) ∧ Hid (Met 3 (.int .i64 1) (.int .i64 0) W mb (((sts L).take i).flatten ++ rst.take j)))
            case atStart => exact ⟨0, _, rfl, by omega, rfl, HK1.out, HT1.out⟩
            case round =>
              clear HK1 HT1
              obtain ⟨j, W, rfl, hjg, rfl, HK, HT⟩ := hrel
              have HK' : Hid (Below V3.heap.size V3 W) := by rw [HME.out]; exact HK.out
              by_cases hjl : j < rm
              · obtain ⟨gi, rfl⟩ : ∃ i, gk = i + 1 := ⟨gk - 1, by omega⟩
                obtain ⟨id, hid⟩ := mlist_at rst j (by rw [HRL.out]; exact hjl)
                obtain ⟨sd, hsA, hcs⟩ := (HOI.out.st.below HK'.out) j id hid
                have i4 : (j : Int) < (rm : Int) := by omega
                have HIN : Hid (InR id) := id_in HF.out (can_ids HCI.out id (List.mem_of_getElem? hid))
                have HNEW := Lib.hid (flat_new HJ.out.rw.nd (sts_at HRI.out) hid)
                have HSN : Hid (((sts L).take i).flatten ++ rst.take (j + 1) = ((sts L).take i).flatten ++ rst.take j ++ [id]) := by
                  unfold Hid
                  rw [List.take_add_one, hid, List.append_assoc]
                  rfl
                have HLL : Hid ((((sts L).take i).flatten ++ rst.take j).length ≤ 100000) := by
                  have h1 : ((sts L).take i).flatten.length ≤ (sts L).flatten.length := by
                    have e : (sts L).flatten = ((sts L).take i).flatten ++ ((sts L).drop i).flatten := by rw [← List.flatten_append, List.take_append_drop]
                    rw [e, List.length_append]
                    omega
                  have h2 := HFL.out
                  have h3 := List.length_take_le j rst
                  unfold Hid
                  rw [List.length_append]
                  omega
                have hlook := Times.look HT.out HIN.out 0 (if_neg HNEW.out)
                have HPT := Lib.hid (Times.put HT.out HNEW.out HIN.out HLL.out)
                clear hid
                obtain rfl : rA = some sd := hsA
                go_wp2_with (at_mapUpdate; refine wpList_mapUpdate_any rfl (.tmp 71) (.tmp 72) (.tmp 74) 60 rfl _ _ _ rfl rfl rfl _ HPT.out ?_; intro w5 h5)
                go_roundg gi
                case measure => omega
                case rel => exact ⟨j + 1, _, rfl, by omega, by first | rfl | go_num, Below.grown HK.out h5.out.2 (Nat.le_of_lt HT.out.lt) (fun i e => by injection e with e; rw [← e]; exact Nat.le_refl _), by rw [HSN.out]; exact h5.out.1⟩
              · have HTE : Hid (Met 3 (.int .i64 1) (.int .i64 0) W mb (((sts L).take (i + 1)).flatten)) := by
                  have e : rst.take j = rst := List.take_of_length_le (by rw [HRL.out]; omega)
                  have h := HT.out
                  rw [e] at h
                  rw [flat_next (sts_at HRI.out)]
                  exact h
                clear HT
                go_wp2_with fail
                go_loopg [78] n (fun gk s78 Wx => ∃ (k : Nat) (W : World), W = Wx ∧ k + gk = n ∧ s78 = .int .i64 k ∧ Hid (Below mb V3 W) ∧ Hid (Met 3 (.int .i64 1) (.int .i64 0) W mb (((sts L).take (i + 1)).flatten)))
                case atStart => exact ⟨0, _, rfl, by omega, rfl, HK.out, HTE.out⟩
                case round =>
                  clear HK HTE HK'
                  obtain ⟨k, W, rfl, hkg, rfl, HK, HT⟩ := hrel
                  have HK' : Hid (Below V3.heap.size V3 W) := by rw [HME.out]; exact HK.out
                  by_cases hklt : k < n
                  · obtain ⟨gi, rfl⟩ : ∃ i, gk = i + 1 := ⟨gk - 1, by omega⟩
                    obtain ⟨⟨kA, km, kc, kst⟩, hrk⟩ := mlist_at L k (by rw [HLN.out]; exact hklt)
                    obtain ⟨ad2, hA2, hck, _⟩ := (HSR.out.below HK'.out).cell hrk
                    obtain rfl := Option.some.inj hA2
                    simp only at hck
                    have HOK := Lib.hid (HSR.out.ok _ (List.mem_of_getElem? hrk))
                    have HMK : Hid (kst ∈ sts L) := List.mem_map.2 ⟨_, List.mem_of_getElem? hrk, rfl⟩
                    have HKN := Lib.hid (HJ.out.rw.ne _ HMK.out)
                    have HCK := Lib.hid (HJ.out.cn _ HMK.out)
                    have hkl : kst.length = km := HOK.out.sl
                    have hkm1 : km ≤ 100 := HOK.out.s2
                    have hkp : 0 < km := by have := List.length_pos_iff.2 HKN.out; omega
                    have HKL := Lib.hid hkl
                    have HRK := Lib.hid hrk
                    have k2 : (k : Int) < (n : Int) := by omega
                    have e0 : ((km : Int) == (0 : Int)) = false := by rw [beq_eq_false_iff_ne]; omega
                    obtain ⟨sv, hsv⟩ : ∃ z, (Sv.savS x.N x.D x.T x.os x.ts rst kst).1 = z := ⟨_, rfl⟩
                    have hsp : Sv.savS x.N x.D x.T x.os x.ts rst kst = (sv, 0) := by rw [← hsv, ← sav_two HF.out HNE.out HKN.out HCI.out HCK.out]
                    have HSV := Lib.hid hsv
                    have HC := Lib.hid (saved_b x rA rm rc rst kA km kc kst W (sv, 0) hsp (HX3.out.below HK'.out).at_ HRL.out (by omega) (HOI.out.st.below HK'.out) HKL.out (by omega) (HOK.out.st.below HK'.out))
                    clear hrk hA2 hkl hsv hsp
                    have x0 := (HX3.out.below HK'.out).c0
                    have x1 := (HX3.out.below HK'.out).c1
                    have x2 := (HX3.out.below HK'.out).c2
                    have x3 := (HX3.out.below HK'.out).c3
                    have x4 := (HX3.out.below HK'.out).c4
                    go_wp2_with fail
                    clear x0 x1 x2 x3 x4 hck
                    with_reducible refine HC.out.mono ?_
                    rintro e W2 ⟨rfl, h2⟩
                    have HK2 : Hid (Below mb V3 W2) := HK.out.trans (h2.out.mono (by rw [← HME.out]; exact HK'.out.size))
                    have HT2 := Lib.hid (HT.out.below h2.out)
                    have HK2' : Hid (Below V3.heap.size V3 W2) := by rw [HME.out]; exact HK2.out
                    clear h2 HK HT HK' HC
                    have z1 : ((0 : Int) != (0 : Int)) = false := by decide
                    by_cases hki : k = i
                    · have d1 : ((k : Int) != (i : Int)) = false := by rw [hki]; simp
                      have d1' : (k != i) = false := by rw [hki]; simp
                      clear hki
                      go_wp2
                      go_roundg gi
                      case measure => omega
                      case rel => exact ⟨k + 1, _, rfl, by omega, by first | rfl | go_num, HK2.out, HT2.out⟩
                    · have d1 : ((k : Int) != (i : Int)) = true := bne_iff_ne.2 (by omega)
                      have d1' : (k != i) = true := bne_iff_ne.2 hki
                      by_cases hs0 : 0 < sv
                      · have d2 : decide ((0 : Int) < sv) = true := decide_eq_true hs0
                        have HCF : Hid (Sv.canB x.N x.D x.T x.os x.ts (rst ++ kst) = false) := by
                          unfold Hid
                          cases hcb : Sv.canB x.N x.D x.T x.os x.ts (rst ++ kst) with
                          | false => rfl
                          | true =>
                            exfalso
                            have hne : rst ≠ kst := fun e => by
                              have h3 := sts_at HRI.out
                              have h4 := sts_at HRK.out
                              simp only at h3 h4
                              rw [e] at h3
                              have h5 := HJ.out.rw.hds
                              have h6 := List.pairwise_iff_getElem.1 h5
                              have hkl := (List.getElem?_eq_some_iff.1 h4).1
                              have hil := (List.getElem?_eq_some_iff.1 h3).1
                              rcases Nat.lt_or_gt_of_ne hki with h | h
                              · have := h6 k i hkl hil h
                                rw [(List.getElem?_eq_some_iff.1 h3).2, (List.getElem?_eq_some_iff.1 h4).2] at this
                                exact this rfl
                              · have := h6 i k hil hkl h
                                rw [(List.getElem?_eq_some_iff.1 h3).2, (List.getElem?_eq_some_iff.1 h4).2] at this
                                exact this rfl
                            have h7 := HJ.out.no _ HMI.out _ HMK.out hne
                            rw [Sv.gain_yes (by rw [HSV.out]; exact hs0) hcb, HSV.out] at h7
                            omega
                        have HA1 := Lib.hid ((QI.e W2).app rfl rA rm rc rst HRL.out (HOI.out.st.below HK2'.out) (by omega))
                        simp only [Nat.zero_add, List.nil_append] at HA1
                        have HAPP : Hid (∀ U A' c', QI W2 none rst (.slice A' rm c') U → ∃ v' w', (Builtin.append_ #[29, 29] 29 #[.slice A' rm c', .slice kA km kc]).run Tryz.prog U = .ok v' w' ∧ ∃ A2 c2, v' = .slice A2 (rm + km) c2 ∧ Hid (QI W2 none (rst ++ kst) (.slice A2 (rm + km) c2) w')) := fun U A' c' h => h.app HRL.out kA km kc kst HKL.out (HOK.out.st.below HK2'.out) (by omega)
                        go_wp2_with (first
                          | (at_builtin; refine wpList_append_g (by rfl) (.tmp 105) (.tmp 106) 29 29 rfl _ _ rfl rfl _ HA1.out ?_; intro v1 w1 hc1; obtain ⟨A1, c1, rfl, HC1⟩ := hc1)
                          | (at_builtin; refine wpList_append_g (by rfl) (.tmp 107) (.tmp 108) 29 29 rfl _ _ rfl rfl _ (HAPP.out _ _ _ HC1.out) ?_; intro v2 w2 hc2; obtain ⟨A2, c2, rfl, HC2⟩ := hc2))
                        obtain ⟨A3, c3, e3, _, _, hi3⟩ := HC2.out.own.ints
                        injection e3 with e3 _ _
                        subst e3
                        have HKV : Hid (Below V3.heap.size V3 w2) := below_next HK2'.out HC2.out.bel
                        refine (can_b x b1 A2 (rm + km) c2 (rst ++ kst) w2 false HCF.out (HX3.out.below HKV.out) (by rw [List.length_append, HRL.out, HKL.out]) (by omega) hi3).mono ?_
                        rintro e W5 ⟨rfl, h5⟩
                        have HB25 : Hid (Below W2.heap.size W2 W5) := below_next HC2.out.bel h5.out
                        have HK5 : Hid (Below mb V3 W5) := HK2.out.trans (HB25.out.mono (by rw [← HME.out]; exact HK2'.out.size))
                        have HT5 := Lib.hid (HT2.out.below HB25.out)
                        clear HA1 HAPP HC1 HC2 hi3 h5
                        go_wp2
                        go_roundg gi
                        case measure => omega
                        case rel => exact ⟨k + 1, _, rfl, by omega, by first | rfl | go_num, HK5.out, HT5.out⟩
                      · have d2 : decide ((0 : Int) < sv) = false := decide_eq_false hs0
                        go_wp2
                        go_roundg gi
                        case measure => omega
                        case rel => exact ⟨k + 1, _, rfl, by omega, by first | rfl | go_num, HK2.out, HT2.out⟩
                  · go_wp2_with fail
                    go_roundg go
                    case measure => omega
                    case rel => exact ⟨i + 1, _, rfl, by omega, by first | rfl | go_num, HK.out, HT.out⟩
        · have HTA : Hid (Met 3 (.int .i64 1) (.int .i64 0) W mb ((sts L).flatten)) := by
            have h := HT.out
            rw [List.take_of_length_le (by rw [sts_len, HLN.out]; omega)] at h
            exact h
          have x3 := (HX3.out.below HK'.out).c3
          clear HT
          go_wp2_with fail
          clear x3
          go_loopg [118] x.m (fun gk s118 Wx => ∃ (j : Nat) (W : World), W = Wx ∧ j + gk = x.m ∧ s118 = .int .i64 j ∧ Hid (Below mb V3 W) ∧ Hid (Met 3 (.int .i64 1) (.int .i64 0) W mb ((sts L).flatten)))
          case atStart => exact ⟨0, _, rfl, by omega, rfl, HK.out, HTA.out⟩
          case round =>
            clear HK HTA HK'
            obtain ⟨j, W, rfl, hjg, rfl, HK, HT⟩ := hrel
            have HK' : Hid (Below V3.heap.size V3 W) := by rw [HME.out]; exact HK.out
            by_cases hjl : j < x.m
            · obtain ⟨gi, rfl⟩ : ∃ i, gk = i + 1 := ⟨gk - 1, by omega⟩
              obtain ⟨⟨a0, a1, a2, a3, a4, a5, a6, a7⟩, ho⟩ := mlist_at x.os j (by rw [HML.out]; exact hjl)
              obtain ⟨od, hxA, c0, c1, c2, c3, c4, c5, c6, c7⟩ := (HX3.out.below HK'.out).at_.os.at_ ho
              simp only at c0 c1 c2 c3 c4 c5 c6 c7
              have j2 : (j : Int) < (x.m : Int) := by omega
              obtain ⟨r0, hr0⟩ : ∃ r, Sv.canB x.N x.D x.T x.os x.ts [a0] = r := ⟨_, rfl⟩
              have HZ : Hid ((if a0 ∈ (sts L).flatten then (1 : Int) else 0) = if r0 = true then 1 else 0) := flat_has HJ.out.fl (List.mem_of_getElem? ho) hr0
              have HIN : Hid (InR a0) := by
                have h := (Rt.ok_of HF.out).oo _ (List.mem_of_getElem? ho)
                have h1 := h.id0
                have h2 := h.id1
                simp only at h1 h2
                exact ⟨by omega, by omega⟩
              have HBX : Hid (Box ((W.alloc (.cells #[.int .i64 a0, .int .i64 a1, .int .i64 a2, .int .i64 a3, .int .i64 a4, .int .i64 a5, .int .i64 a6, .int .i64 a7] 62)).alloc (.cells #[.int .i64 a0] 3)) W.heap.size #[.int .i64 a0, .int .i64 a1, .int .i64 a2, .int .i64 a3, .int .i64 a4, .int .i64 a5, .int .i64 a6, .int .i64 a7] 62) := (Box.new W _ _).below (below_alloc _ _)
              have HW1 : Hid (Below W.heap.size W ((W.alloc (.cells #[.int .i64 a0, .int .i64 a1, .int .i64 a2, .int .i64 a3, .int .i64 a4, .int .i64 a5, .int .i64 a6, .int .i64 a7] 62)).alloc (.cells #[.int .i64 a0] 3))) := below_more (below_alloc _ _) _
              have hin : IntsAt ((W.alloc (.cells #[.int .i64 a0, .int .i64 a1, .int .i64 a2, .int .i64 a3, .int .i64 a4, .int .i64 a5, .int .i64 a6, .int .i64 a7] 62)).alloc (.cells #[.int .i64 a0] 3)) (some ⟨W.heap.size + 1, 0, none⟩) [a0] := by
                have h := ints1 (W.alloc (.cells #[.int .i64 a0, .int .i64 a1, .int .i64 a2, .int .i64 a3, .int .i64 a4, .int .i64 a5, .int .i64 a6, .int .i64 a7] 62)) a0 3
                rwa [← size_one W (.cells #[.int .i64 a0, .int .i64 a1, .int .i64 a2, .int .i64 a3, .int .i64 a4, .int .i64 a5, .int .i64 a6, .int .i64 a7] 62)] at h
              have HC := Lib.hid (can_b x b1 (some ⟨W.heap.size + 1, 0, none⟩) 1 1 [a0] _ r0 hr0 (HX3.out.below (below_next HK'.out HW1.out)) rfl (by omega) hin)
              have u0 : (W.alloc (.cells #[.int .i64 a0, .int .i64 a1, .int .i64 a2, .int .i64 a3, .int .i64 a4, .int .i64 a5, .int .i64 a6, .int .i64 a7] 62)).cell? ⟨W.heap.size, 0, none⟩ = some (.int .i64 a0) := (Box.new W _ _).cell 0 _ rfl
              have HXA := Lib.hid hxA
              clear ho hxA hr0 hin
              generalize x.A = xA at *
              obtain rfl := HXA.out
              go_wp2_with fail
              clear c0 c1 c2 c3 c4 c5 c6 c7 u0
              with_reducible refine HC.out.mono ?_
              rintro e W2 ⟨rfl, h2⟩
              have hbw : Below W.heap.size W W2 := below_next HW1.out h2.out
              have HK2 : Hid (Below mb V3 W2) := HK.out.trans (hbw.mono (by rw [← HME.out]; exact HK'.out.size))
              have HT2 := Lib.hid (HT.out.below hbw)
              have u1 := (HBX.out.below h2.out).cell 0 _ rfl
              clear h2 hbw HK HT HK' HBX HW1 HC
              cases r0 with
              | true =>
                have hlook := Times.look HT2.out HIN.out 1 (by rw [HZ.out]; rfl)
                have z1 : ((1 : Int) != (1 : Int)) = false := by decide
                go_wp2
                go_roundg gi
                case measure => omega
                case rel => exact ⟨j + 1, _, rfl, by omega, by first | rfl | go_num, HK2.out, HT2.out⟩
              | false =>
                have hlook := Times.look HT2.out HIN.out 0 (by rw [HZ.out]; rfl)
                have z1 : ((0 : Int) != (0 : Int)) = false := by decide
                go_wp2
                go_roundg gi
                case measure => omega
                case rel => exact ⟨j + 1, _, rfl, by omega, by first | rfl | go_num, HK2.out, HT2.out⟩
            · go_wp2_with fail
              go_ret
              exact ⟨rfl, HB3.out.trans (HK.out.mono (by rw [← HME.out]; exact HB3.out.size))⟩
    · have e1 : (f != (0 : Int)) = true := bne_iff_ne.2 hf0
      have hn0 : n = 0 := by
        have h := HNO.out hf0
        have h2 := HLN.out
        rw [h] at h2
        exact h2.symm
      subst hn0
      have e2 : (((0 : Nat) : Int) == (0 : Int)) = true := by decide
      clear hmm
      go_wp2
      go_ret
      exact ⟨rfl, HB3.out⟩

set_option maxRecDepth 100000 in
theorem lifted (os : Os) (started : os.Started) (H : Type) (enc : TypeId × Value → H) :
    ReturnsInHanded {} Tryz.checked os 5 .any (Rows.savingsRowsSpec.pre6 enc Tryz.prog Tryz.f5 Rows.savingsRowsRow.domain false) (Rows.savingsRowsSpec.post enc Tryz.prog Tryz.f5 false true false false) := by
  refine returnsInHanded_of_change_sized (C := Tryz.checked) own started (by kernel_rfl) Tryz.func5
    (ChangeSpec.witness6 (enc := enc) (C := Tryz.checked) false ⟨#[], #[.agg #[.int .i64 0, .slice none 0 0, .slice none 0 0, .slice none 0 0, .slice none 0 0]], []⟩ 8 (by kernel_rfl) (by kernel_rfl) (by kernel_rfl) (by kernel_rfl)) ?_
  intro W base args ds gs before hval0 hW _ hsz0 _
  have hsz : (DataW.weightsEach Tryz.prog (Tryz.f5.params.toList ++ Rows.savingsRowsSpec.plain.varTypes Tryz.prog) (ds ++ gs)).all (· ≤ reachBytes) = true := hsz0
  have hval : ∀ (j : Nat) t v, Tryz.f5.params[j]? = some t → args[j]? = some v → Value.okWide Tryz.prog W .any base t v := hval0
  have hW' := hW
  obtain ⟨p, q, hA0, hV, rfl, hfz, hnd⟩ := hW
  have hA : DataW.TrodAll enc Tryz.prog W 0 (fun _ => true) true Tryz.f5.params.toList args.toList ds p := hA0
  rw [Tryz.params5] at hA hval hsz
  obtain ⟨v0, vs0, d0, ds0, p0, q0, hargs, rfl, rfl, h0, r0⟩ := trodAll_cons hA
  obtain ⟨rfl, rfl, rfl⟩ := trodAll_nil r0
  obtain rfl : args = #[v0] := by cases args; simp_all
  obtain ⟨rfl, rfl⟩ := trodVars_none hV
  have k0 := h0
  have lt0 : ∀ x ∈ p0, x.block < W.heap.size := by obtain ⟨m, hm⟩ := k0; exact DataW.trod_lt m _ _ _ hm
  obtain ⟨x0, rfl, hv0⟩ := open_world_in (hval 0 28 v0 rfl rfl) h0
  clear hA0 hval0
  refine (walk x0 hv0).mono fun e W' ⟨he, bel⟩ => ?_
  subst he
  exact ⟨_, rfl, _, _, _, [], _, [], hW', trodAll_mk1 (shut_bool Tryz.underlying4 _), (trodAll_cons_mk (Below.trod laidOut (by kernel_rfl) (of_decide_eq_true (by kernel_rfl)) k0 bel lt0) trodAll_mk0), rfl, bel.frame _, fun h => by cases h⟩

theorem over : Rows.savingsRowsRow.holds Tryz.pinned (OpenSpec.ofChange Rows.savingsRowsSpec) :=
  OpenClaim.holds_of_wide 5 Tryz.f5 rfl rfl rfl rfl rfl rfl rfl ⟨rfl, rfl, rfl, rfl, rfl⟩ rfl rfl rfl rfl rfl (by kernel_rfl) Tryz.func5 (by kernel_rfl)
    (of_decide_eq_true (by kernel_rfl)) (by unfold Func.isWrapper; first | (rw [if_pos (by decide +kernel)]; kernel_rfl) | (rw [if_neg (by decide +kernel)]; exact ⟨rfl, rfl⟩))
    (fun os started H enc _ => lifted os started H enc)

theorem proved : Rows.SavingsRowsSaid := over
end Go.Proofs.YtjidelfpmlnhkaaGreat.savingsRows
