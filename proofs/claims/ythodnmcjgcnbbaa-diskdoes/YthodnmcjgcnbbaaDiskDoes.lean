/- Every call of the law that, operation by operation, what a disk answers, and all its sectors, are as the document says, answers true: any number of sectors and operations. No conditions. -/
import Derived.Test.YthodnmcjgcnbbaaRows
import Derived.Test.YthodnmcjgcnbbaaDiskApp
import Derived.WalkKit
import Derived.ProofKit
import Derived.OpenShut
import Derived.ShutString
import Derived.ChangeOld
import Derived.Below
import Derived.SizedLaws
import Derived.Test.YthodnmcjgcnbbaaDiskRb
import Derived.Deep.DeepCutAuto
import Derived.Deep.CutBlock
namespace Go.Proofs.Ythodnmcjgcnbbaa.diskDoes
open Go.ChangeShapes Go.WideShapes Go.ChangeAt Go.RowKit
open Go.ChangeMaps (open_string shut_string)
set_option linter.unusedVariables false

theorem own : ownKnob Try.prog.godebug = none := by kernel_rfl
theorem laidOut : laidOutB Try.prog = true := by kernel_rfl

/-- neither disk's blocks -/
def Four (g s g' s' i : Nat) : Prop := Two g s i ∨ Two g' s' i

theorem xcells_new4 {g s g' s' : Nat} (W : World) (x : Ox) (h1 : g < W.heap.size) (h2 : s < W.heap.size) (h3 : g' < W.heap.size) (h4 : s' < W.heap.size) :
    CellsIn (Four g s g' s') (W.alloc (.cells #[.int .i64 x.o, .int .i64 x.a, .int .i64 x.c, .slice x.A x.m x.cap] 34)) (some ⟨W.heap.size, 0, none⟩) (oc x) :=
  CellsIn.of_block (cs := oc x) (heap_alloc_new W _) (by rintro ((e | e) | (e | e)) <;> omega)

theorem run_mine2 {w W W' : World} {g s g' s' n : Nat} {d : Dk.D} (h : Run w g s n W d) (hk : Kept (Two g' s') W W') (h1 : ¬ Two g' s' g) (h2 : ¬ Two g' s' s) (h3 : w.heap.size ≤ g') (h4 : w.heap.size ≤ s') : Run w g s n W' d :=
  ⟨h.at_.keep hk h1 h2, hk.below h.bel h.bel.size (fun i hi e => by rcases e with e | e <;> omega), h.hg, h.hs⟩

theorem quiet_w {P : Program} {f : FuncId} {args : Array Value} {w : World} {n : Nat} {v : Value} (h : Calls P f args (w.drewN n) fun e w' => e = .returned v ∧ w.drewN n = w') : Calls P f args (w.drewN n) fun e w'' => e = .returned v ∧ ∃ m, w'' = w.drewN m :=
  h.mono fun _ _ ⟨he, hm⟩ => ⟨he, n, hm.symm⟩

theorem same_nil (w : World) (c d : Nat) : Calls Try.prog 17 #[.slice none 0 c, .slice none 0 d] w fun e w' => e = .returned (.bool true) ∧ ∃ q, w' = w.drewN q :=
  bsame_true No none none c d [] 0 w rfl (by omega) (CellsIn.nil _ _ _) (CellsIn.nil _ _ _)

set_option maxHeartbeats 4000000 in
set_option maxRecDepth 100000 in
theorem walkIn (n : Nat) (a1 : Option Addr) (len cap : Nat) (l : List Ox) (w : World) (h0 : 2 ≤ n) (h1 : n ≤ 64) (hl : l.length = len) (hcm : cap ≤ maxLen) (hlc : len ≤ cap) (hv : OpsIn w.heap.size w a1 l) :
    Calls Try.prog 3 #[.int .i64 n, .slice a1 len cap] w fun e w' => e = .returned (.bool true) ∧ Below w.heap.size w w' := by
  have HV := Lib.hid hv
  have HL := Lib.hid hl
  have HLA := Lib.hid (fun W => large_any w.heap.size a1 len cap l W hl (by omega))
  have dn : decide ((64 : Int) < (n : Int)) = false := decide_eq_false (by omega)
  have hcm' : cap ≤ 9223372036854775807 := hcm
  clear hv hl hcm
  go_enter Try.func3, Try.ntmps3
  go_wp2_with fail
  refine (awake_any w).mono ?_
  rintro e w1 ⟨rfl, hb1⟩
  have HB1 := Lib.hid hb1
  clear hb1
  go_wp2_with fail
  refine (HLA.out w1 (HV.out.keep (Kept.of_below HB1.out))).mono ?_
  rintro e w' ⟨b, rfl, rfl, h60⟩
  clear HLA
  cases b with
  | true =>
    clear h60
    go_wp2
    go_ret
    exact ⟨rfl, HB1.out⟩
  | false =>
    have h60 := h60 rfl
    go_wp2_with fail
    refine (run_new n w w1 HB1.out h0 (by omega)).mono ?_
    rintro e w2 ⟨g, s, rfl, hr2, _⟩
    have HR2 := Lib.hid hr2
    clear hr2 HB1
    go_wp2_with fail
    refine (rnew_ok n w2 h0 (by omega)).mono ?_
    rintro e w3 ⟨rfl, hd3, hb3⟩
    have HR3 := Lib.hid (HR2.out.below hb3)
    have HQ3 := Lib.hid hd3
    have HG1 : Hid (w.heap.size ≤ w2.heap.size + 1) := by unfold Hid; have := HR2.out.bel.size; omega
    have HG2 : Hid (w.heap.size ≤ w2.heap.size) := HR2.out.bel.size
    have HNT : Hid (¬ Two g s (w2.heap.size + 1) ∧ ¬ Two g s w2.heap.size) := by
      have h1 := HR2.out.at_.ltg
      have h2 := HR2.out.at_.lts
      exact ⟨by rintro (e | e) <;> omega, by rintro (e | e) <;> omega⟩
    have HNR : Hid (¬ Two (w2.heap.size + 1) w2.heap.size g ∧ ¬ Two (w2.heap.size + 1) w2.heap.size s) := by
      have h1 := HR2.out.at_.ltg
      have h2 := HR2.out.at_.lts
      exact ⟨by rintro (e | e) <;> omega, by rintro (e | e) <;> omega⟩
    clear hd3 hb3 HR2
    go_wp2
    generalize w2.heap.size + 1 = g' at *
    generalize w2.heap.size = s' at *
    go_loopg [9] len (fun gk s9 W => ∃ (k : Nat) (d : Dk.D), k + gk = len ∧ s9 = .int .i64 k ∧ d.writes ≤ k ∧ Hid (Run w g s n W d) ∧ Hid (RDiskAt W g' s' n d))
    case atStart => exact ⟨0, Dk.fresh n, by omega, rfl, by simp [Dk.fresh], HR3.out, HQ3.out⟩
    case round =>
      clear HR3 HQ3
      obtain ⟨k, d, hkg, rfl, hwk, HR, HQ⟩ := hrel
      by_cases hlt : k < len
      · obtain ⟨go, rfl⟩ : ∃ i, gk = i + 1 := ⟨gk - 1, by omega⟩
        obtain ⟨x, hx⟩ := some_at l k (by rw [HL.out]; exact hlt)
        have HOP := Lib.hid (HV.out.keep (Kept.of_below HR.out.bel))
        obtain ⟨ad, rfl, _, x0, x1, x2, x3⟩ := OpsIn.at_ HOP.out hx
        have HOK := Lib.hid ((HOP.out.2 x (List.mem_of_getElem? hx)).keep ((Kept.refl (Mine w.heap.size) wr).alloc (.cells #[.int .i64 x.o, .int .i64 x.a, .int .i64 x.c, .slice x.A x.m x.cap] 34)))
        have HRA := Lib.hid (HR.out.alloc (.cells #[.int .i64 x.o, .int .i64 x.a, .int .i64 x.c, .slice x.A x.m x.cap] 34))
        have HQA := Lib.hid (HQ.out.keep (F := No) ((Kept.refl No wr).alloc (.cells #[.int .i64 x.o, .int .i64 x.a, .int .i64 x.c, .slice x.A x.m x.cap] 34)) id id)
        have HXB := Lib.hid (xcells_new4 wr x HR.out.at_.ltg HR.out.at_.lts HQ.out.ltg HQ.out.lts)
        have hm0 := HOK.out.m0
        have hm1 := HOK.out.m1
        have hxa0 := HOK.out.a0
        have hxa1 := HOK.out.a1
        obtain ⟨q, hq⟩ : ∃ q, dcode n d x = q := ⟨_, rfl⟩
        obtain ⟨d2, hd2⟩ : ∃ d2, dstate n d x = d2 := ⟨_, rfl⟩
        have HQC := Lib.hid hq
        have HD2 := Lib.hid hd2
        have hww := dstate_writes n d x
        rw [hd2] at hww
        obtain ⟨hw1, hw2⟩ := hww
        clear hx HOP hq hd2
        go_wp2_with fail
        refine (run_do HRA.out x (by omega) HOK.out q d2 HQC.out HD2.out).mono ?_
        rintro e w3 ⟨rfl, hr3, hk3⟩
        have HR3 := Lib.hid hr3
        have HQ3 := Lib.hid (HQA.out.keep hk3 HNT.out.1 HNT.out.2)
        have HX3 := Lib.hid (CellsIn.keep HXB.out (hk3.wide (fun _ _ h => .inl h)))
        have HO3 := Lib.hid (HOK.out.keep (kept_mine hk3 HRA.out.hg HRA.out.hs))
        obtain ⟨z0, z1, z2, z3⟩ := xcells HX3.out
        clear hr3 hk3 HRA HQA HXB HOK HR HQ
        generalize wr.heap.size = xb at *
        go_upto_block 2 with (fail)
        go_cut [12] (fun s12 W => s12 = .int .i64 q ∧ Hid (Run w g s n W d2) ∧ Hid (RDiskAt W g' s' n d2) ∧ Hid (CellsIn (Four g s g' s') W (some ⟨xb, 0, none⟩) (oc x)))
        case first =>
          have HEND : Hid (∀ W, Kept (Two g' s') w3 W → Run w g s n W d2 ∧ CellsIn (Four g s g' s') W (some ⟨xb, 0, none⟩) (oc x)) := fun W hk =>
            ⟨run_mine2 HR3.out hk HNR.out.1 HNR.out.2 HG1.out HG2.out, CellsIn.keep HX3.out (hk.wide (fun _ _ h => .inr h))⟩
          have HWL : Hid (d.writes ≤ 1000000) := by unfold Hid; omega
          have HB := Lib.hid (mine_two HG1.out HG2.out HO3.out.bytes)
          by_cases o0 : x.o = 0
          · have b0 : (x.o == 0) = true := beq_iff_eq.2 o0
            have HW := Lib.hid (rwrite_any g' s' n d x.a x.A x.m x.cap x.l w3 HQ3.out HWL.out HO3.out.len (by unfold maxLen; omega) HB.out)
            have e1 : Dk.wcode n d x.a x.l = q := by rw [← HQC.out]; unfold dcode; rw [if_pos o0]
            have e2 : Dk.wstate n d x.a x.l = d2 := by rw [← HD2.out]; unfold dstate; rw [if_pos o0]
            rw [e1, e2] at HW
            clear o0 e1 e2
            go_wp2_with fail
            refine HW.out.mono ?_
            rintro e w4 ⟨rfl, hd4, hk4⟩
            have HD4 := Lib.hid hd4
            have HE4 := Lib.hid (HEND.out w4 hk4)
            clear hd4 hk4
            go_wp2
            go_meet
            case rel => exact ⟨rfl, HE4.out.1, HD4.out, HE4.out.2⟩
          have b0 : (x.o == 0) = false := beq_eq_false_iff_ne.2 o0
          by_cases o1 : x.o = 1
          · have b1 : (x.o == 1) = true := beq_iff_eq.2 o1
            have HW := Lib.hid (rfuse_any g' s' n d x.a x.c w3 HQ3.out hxa0 hxa1)
            have e1 : q = 0 := by rw [← HQC.out]; unfold dcode; rw [if_neg o0, if_neg (by omega)]
            have e2 : Dk.fuseTo d x.a x.c = d2 := by rw [← HD2.out]; unfold dstate; rw [if_neg o0, if_pos o1]
            rw [e2] at HW
            have HE := Lib.hid e1
            clear o0 o1 e1 e2
            go_wp2_with fail
            refine HW.out.mono ?_
            rintro e w4 ⟨rfl, hd4, hk4⟩
            have HD4 := Lib.hid hd4
            have HE4 := Lib.hid (HEND.out w4 hk4)
            clear hd4 hk4
            go_wp2
            go_meet
            case rel => exact ⟨int_eq HE.out.symm, HE4.out.1, HD4.out, HE4.out.2⟩
          have b1 : (x.o == 1) = false := beq_eq_false_iff_ne.2 o1
          by_cases o2 : x.o = 2
          · have b2 : (x.o == 2) = true := beq_iff_eq.2 o2
            have HW := Lib.hid (rcrash_any g' s' n d w3 HQ3.out)
            have e1 : q = 0 := by rw [← HQC.out]; unfold dcode; rw [if_neg o0, if_neg (by omega)]
            have e2 : Dk.crash d = d2 := by rw [← HD2.out]; unfold dstate; rw [if_neg o0, if_neg o1, if_pos o2]
            rw [e2] at HW
            have HE := Lib.hid e1
            clear o0 o1 o2 e1 e2
            go_wp2_with fail
            refine HW.out.mono ?_
            rintro e w4 ⟨rfl, hd4, hk4⟩
            have HD4 := Lib.hid hd4
            have HE4 := Lib.hid (HEND.out w4 hk4)
            clear hd4 hk4
            go_wp2
            go_meet
            case rel => exact ⟨int_eq HE.out.symm, HE4.out.1, HD4.out, HE4.out.2⟩
          have b2 : (x.o == 2) = false := beq_eq_false_iff_ne.2 o2
          by_cases o3 : x.o = 3
          · have b3 : (x.o == 3) = true := beq_iff_eq.2 o3
            have hW := rturn_any g' s' n d x.a (lowByte x.c) w3 HQ3.out hxa1
            rw [lowByte_toNat] at hW
            have e1 : Dk.tcode n x.a = q := by rw [← HQC.out]; unfold dcode; rw [if_neg o0, if_pos o3]
            have e2 : Dk.tstate n d x.a (lowByte x.c) = d2 := by rw [← HD2.out]; unfold dstate; rw [if_neg o0, if_neg o1, if_neg o2, if_pos o3]
            rw [e1, e2] at hW
            have HW := Lib.hid hW
            clear o0 o1 o2 o3 e1 e2 hW
            go_wp2_with fail
            refine HW.out.mono ?_
            rintro e w4 ⟨rfl, hd4, hk4⟩
            have HD4 := Lib.hid hd4
            have HE4 := Lib.hid (HEND.out w4 hk4)
            clear hd4 hk4
            go_wp2
            go_meet
            case rel => exact ⟨rfl, HE4.out.1, HD4.out, HE4.out.2⟩
          have b3 : (x.o == 3) = false := beq_eq_false_iff_ne.2 o3
          have e1 : q = 0 := by rw [← HQC.out]; unfold dcode; rw [if_neg o0, if_neg o3]
          have e2 : d = d2 := by rw [← HD2.out]; unfold dstate; rw [if_neg o0, if_neg o1, if_neg o2, if_neg o3]
          have HE := Lib.hid e1
          have HQ4 : Hid (RDiskAt w3 g' s' n d2) := by unfold Hid; rw [← e2]; exact HQ3.out
          clear o0 o1 o2 o3 e1 e2
          go_wp2
          go_meet
          case rel => exact ⟨int_eq HE.out.symm, HR3.out, HQ4.out, HX3.out⟩
        case rest =>
          obtain ⟨rfl, HR4, HQ4, HX4⟩ := hcut
          clear HR3 HQ3 HX3 HO3 z0 z1 z2 z3
          obtain ⟨z0, z1, z2, z3⟩ := xcells HX4.out
          clear z0 z2 z3 HX4
          by_cases hhas : 0 ≤ x.a ∧ x.a < n
          · obtain ⟨j, hj⟩ : ∃ j : Nat, x.a = (j : Int) := ⟨x.a.toNat, by omega⟩
            have hjn : j < n := by omega
            rw [hj] at z1
            clear hhas hj hxa0 hxa1
            go_wp2_with fail
            refine (run_read HR4.out j hjn).mono ?_
            rintro e w5 ⟨rfl, hby5, hr5, hb5⟩
            have HR5 := Lib.hid hr5
            have HQ5 := Lib.hid (HQ4.out.keep (F := No) (Kept.of_below hb5) id id)
            have HY5 := Lib.hid (CellsIn.less hby5 (G := No) (fun _ _ h => h.elim))
            have y1 : w5.cell? ⟨xb, 1, none⟩ = some (.int .i64 (j : Int)) := (hb5.cell (p := ⟨xb, 1, none⟩) (World.block_lt_of_cell? wc _ z1)).trans z1
            clear hby5 hr5 hb5 HR4 HQ4
            generalize wc.heap.size = gb at *
            go_wp2_with fail
            refine (rread_ok g' s' n d2 j w5 HQ5.out hjn).mono ?_
            rintro e w6 ⟨A6, c6, rfl, hby6, hb6⟩
            have HR6 := Lib.hid (HR5.out.below hb6)
            have HQ6 := Lib.hid (HQ5.out.keep (F := No) (Kept.of_below hb6) id id)
            have HY6 := Lib.hid (CellsIn.keep HY5.out (Kept.of_below hb6))
            have HT6 := Lib.hid (hby6 No (fun _ h => h.elim))
            have HLS := Lib.hid (Dk.sec_len HQ5.out.good.len hjn)
            have HQ1 : Hid (∀ m, Calls Try.prog 17 #[.slice (some ⟨gb, 0, none⟩) 32 32, .slice A6 32 c6] (w6.drewN m) fun e w'' => e = .returned (.bool true) ∧ ∃ m', w'' = w6.drewN m') := fun m => Calls.quiet_of (bsame_true No _ A6 32 c6 (Dk.sec d2.b j) 32 (w6.drewN m) HLS.out (by omega) HY6.out HT6.out)
            clear hby6 hb6 HY5 HR5 HQ5 HY6 HT6 HLS y1 z1
            have HQ2 : Hid (∀ m, Calls Try.prog 18 #[.pointer (some ⟨g, 0, none⟩)] (w6.drewN m) fun e w'' => e = .returned (.int .i64 d2.writes) ∧ ∃ m', w'' = w6.drewN m') := fun m => quiet_w (writes_any g s n d2 (w6.drewN m) (HR6.out.drewN m).at_)
            have HQ3 : Hid (∀ m, Calls Try.prog 19 #[.pointer (some ⟨g, 0, none⟩)] (w6.drewN m) fun e w'' => e = .returned (.int .i64 n) ∧ ∃ m', w'' = w6.drewN m') := fun m => quiet_w (sectors_any g s n d2 (w6.drewN m) (HR6.out.drewN m).at_)
            have y4 := HQ6.out.c4
            have HR6' := Lib.hid (fun m => HR6.out.drewN m)
            have HQ6' := Lib.hid (fun m => HQ6.out.keep ((Kept.refl No w6).drewN m) id id)
            clear HR6 HQ6
            go_wp2_with fail
            go_quiet ((first | (go_at_call 17; exact HQ1.out _) | (go_at_call 18; exact HQ2.out _) | (go_at_call 19; exact HQ3.out _)))
            have HR7 := Lib.hid (HR6'.out nq)
            have HQ7 := Lib.hid (HQ6'.out nq)
            clear HQ1 HQ2 HQ3 y4 HR6' HQ6'
            generalize w6.drewN nq = w7 at *
            go_wp2
            go_loopg [17] n (fun gk s17 W => ∃ (k4 : Nat), k4 + gk = n ∧ s17 = .int .i64 k4 ∧ Hid (Run w g s n W d2) ∧ Hid (RDiskAt W g' s' n d2))
            case atStart => exact ⟨0, by omega, rfl, HR7.out, HQ7.out⟩
            case round =>
              clear HR7 HQ7
              obtain ⟨k4, hkg4, rfl, HR8, HQ8⟩ := hrel
              by_cases hlt4 : k4 < n
              · obtain ⟨gi, rfl⟩ : ∃ i, gk = i + 1 := ⟨gk - 1, by omega⟩
                go_wp2_with fail
                refine (run_read HR8.out k4 hlt4).mono ?_
                rintro e w9 ⟨rfl, hby9, hr9, hb9⟩
                have HR9 := Lib.hid hr9
                have HQ9 := Lib.hid (HQ8.out.keep (F := No) (Kept.of_below hb9) id id)
                have c9 := HQ9.out.c0
                obtain ⟨L, hL⟩ : ∃ L, 32 * n = L := ⟨_, rfl⟩
                rw [hL] at c9
                obtain ⟨A9, cc9, hsl, hpc⟩ := slice_mid (some ⟨s', 0, none⟩) L k4 (by omega)
                have HBY : Hid (BytesIn No w9 A9 (Dk.sec d2.b k4)) := hpc No w9 d2.b (by rw [HQ9.out.good.len, hL]) (CellsIn.of_block HQ9.out.row id)
                have HS9 := Lib.hid (bsame_true No _ A9 32 cc9 (Dk.sec d2.b k4) 32 w9 (Dk.sec_len HQ9.out.good.len hlt4) (by omega) (CellsIn.less hby9 (fun _ _ h => h.elim)) HBY.out)
                have hk5 : k4 ≤ 5000 := by omega
                clear hby9 hr9 hb9 hL hpc HR8 HQ8
                generalize wr.heap.size = gr at *
                go_wp2_with fail
                refine HS9.out.mono ?_
                rintro e w10 ⟨rfl, q10, rfl⟩
                have HR10 := Lib.hid (HR9.out.drewN q10)
                have HQ10 := Lib.hid (HQ9.out.keep ((Kept.refl No w9).drewN q10) id id)
                clear HS9 HR9 HQ9 c9 hsl HBY
                generalize w9.drewN q10 = w10 at *
                go_wp2
                go_roundg gi
                case measure => omega
                case rel => exact ⟨k4 + 1, by omega, by first | rfl | go_num, HR10.out, HQ10.out⟩
              · have hk4 : k4 = n := by omega
                subst hk4
                go_wp2
                go_roundg go
                case measure => omega
                case rel => exact ⟨k + 1, d2, by omega, by first | rfl | go_num, by omega, HR8.out, HQ8.out⟩
          · have hno : Dk.has n x.a = false := by rw [Bool.eq_false_iff]; intro e; exact hhas (Dk.has_iff.1 e)
            have HN1 := Lib.hid (read_no g s n d2 x.a wc HR4.out.at_ hno)
            have HN2 := Lib.hid (rread_no g' s' n d2 x.a wc HQ4.out hno)
            clear hhas hno
            go_wp2_with fail
            refine HN1.out.mono ?_
            rintro e w' ⟨rfl, rfl⟩
            go_wp2_with fail
            refine HN2.out.mono ?_
            rintro e w' ⟨rfl, rfl⟩
            obtain ⟨w6, hw6⟩ : ∃ w6, wc = w6 := ⟨_, rfl⟩
            subst hw6
            have HR6 := Lib.hid HR4.out
            have HQ6 := Lib.hid HQ4.out
            have HQ1 : Hid (∀ m, Calls Try.prog 17 #[.slice none 0 0, .slice none 0 0] (wc.drewN m) fun e w'' => e = .returned (.bool true) ∧ ∃ m', w'' = wc.drewN m') := fun m => Calls.quiet_of (same_nil (wc.drewN m) 0 0)
            clear HN1 HN2 HR4 HQ4 z1
            have HQ2 : Hid (∀ m, Calls Try.prog 18 #[.pointer (some ⟨g, 0, none⟩)] (wc.drewN m) fun e w'' => e = .returned (.int .i64 d2.writes) ∧ ∃ m', w'' = wc.drewN m') := fun m => quiet_w (writes_any g s n d2 (wc.drewN m) (HR6.out.drewN m).at_)
            have HQ3 : Hid (∀ m, Calls Try.prog 19 #[.pointer (some ⟨g, 0, none⟩)] (wc.drewN m) fun e w'' => e = .returned (.int .i64 n) ∧ ∃ m', w'' = wc.drewN m') := fun m => quiet_w (sectors_any g s n d2 (wc.drewN m) (HR6.out.drewN m).at_)
            have y4 := HQ6.out.c4
            have HR6' := Lib.hid (fun m => HR6.out.drewN m)
            have HQ6' := Lib.hid (fun m => HQ6.out.keep ((Kept.refl No wc).drewN m) id id)
            clear HR6 HQ6
            go_wp2_with fail
            go_quiet ((first | (go_at_call 17; exact HQ1.out _) | (go_at_call 18; exact HQ2.out _) | (go_at_call 19; exact HQ3.out _)))
            have HR7 := Lib.hid (HR6'.out nq)
            have HQ7 := Lib.hid (HQ6'.out nq)
            clear HQ1 HQ2 HQ3 y4 HR6' HQ6'
            generalize wc.drewN nq = w7 at *
            go_wp2
            go_loopg [17] n (fun gk s17 W => ∃ (k4 : Nat), k4 + gk = n ∧ s17 = .int .i64 k4 ∧ Hid (Run w g s n W d2) ∧ Hid (RDiskAt W g' s' n d2))
            case atStart => exact ⟨0, by omega, rfl, HR7.out, HQ7.out⟩
            case round =>
              clear HR7 HQ7
              obtain ⟨k4, hkg4, rfl, HR8, HQ8⟩ := hrel
              by_cases hlt4 : k4 < n
              · obtain ⟨gi, rfl⟩ : ∃ i, gk = i + 1 := ⟨gk - 1, by omega⟩
                go_wp2_with fail
                refine (run_read HR8.out k4 hlt4).mono ?_
                rintro e w9 ⟨rfl, hby9, hr9, hb9⟩
                have HR9 := Lib.hid hr9
                have HQ9 := Lib.hid (HQ8.out.keep (F := No) (Kept.of_below hb9) id id)
                have c9 := HQ9.out.c0
                obtain ⟨L, hL⟩ : ∃ L, 32 * n = L := ⟨_, rfl⟩
                rw [hL] at c9
                obtain ⟨A9, cc9, hsl, hpc⟩ := slice_mid (some ⟨s', 0, none⟩) L k4 (by omega)
                have HBY : Hid (BytesIn No w9 A9 (Dk.sec d2.b k4)) := hpc No w9 d2.b (by rw [HQ9.out.good.len, hL]) (CellsIn.of_block HQ9.out.row id)
                have HS9 := Lib.hid (bsame_true No _ A9 32 cc9 (Dk.sec d2.b k4) 32 w9 (Dk.sec_len HQ9.out.good.len hlt4) (by omega) (CellsIn.less hby9 (fun _ _ h => h.elim)) HBY.out)
                have hk5 : k4 ≤ 5000 := by omega
                clear hby9 hr9 hb9 hL hpc HR8 HQ8
                generalize wr.heap.size = gr at *
                go_wp2_with fail
                refine HS9.out.mono ?_
                rintro e w10 ⟨rfl, q10, rfl⟩
                have HR10 := Lib.hid (HR9.out.drewN q10)
                have HQ10 := Lib.hid (HQ9.out.keep ((Kept.refl No w9).drewN q10) id id)
                clear HS9 HR9 HQ9 c9 hsl HBY
                generalize w9.drewN q10 = w10 at *
                go_wp2
                go_roundg gi
                case measure => omega
                case rel => exact ⟨k4 + 1, by omega, by first | rfl | go_num, HR10.out, HQ10.out⟩
              · have hk4 : k4 = n := by omega
                subst hk4
                go_wp2
                go_roundg go
                case measure => omega
                case rel => exact ⟨k + 1, d2, by omega, by first | rfl | go_num, by omega, HR8.out, HQ8.out⟩
      · have hk : k = len := by omega
        subst hk
        go_wp2
        go_ret
        exact ⟨rfl, HR.out.bel⟩

set_option maxHeartbeats 1000000 in
set_option maxRecDepth 100000 in
theorem walkOut (a0 : Int) (a1 : Option Addr) (len cap : Nat) (l : List Ox) (w : World) (h : a0 < 2 ∨ 64 < a0) (hl : l.length = len) (hcm : cap ≤ maxLen) (hlc : len ≤ cap) (hv : OpsIn w.heap.size w a1 l) :
    Calls Try.prog 3 #[.int .i64 a0, .slice a1 len cap] w fun e w' => e = .returned (.bool true) ∧ Below w.heap.size w w' := by
  have HV := Lib.hid hv
  have HLA := Lib.hid (fun W => large_any w.heap.size a1 len cap l W hl (by omega))
  have hcm' : cap ≤ 9223372036854775807 := hcm
  clear hv hl hcm
  by_cases hmid : 64 < a0 ∧ a0 ≤ 4096
  · have d1 : decide (64 < a0) = true := decide_eq_true hmid.1
    have d2 : decide (a0 ≤ 4096) = true := decide_eq_true hmid.2
    clear hmid h
    go_enter Try.func3, Try.ntmps3
    go_wp2_with fail
    refine (awake_any w).mono ?_
    rintro e w1 ⟨rfl, hb1⟩
    have HB1 := Lib.hid hb1
    clear hb1
    go_wp2_with fail
    refine (HLA.out w1 (HV.out.keep (Kept.of_below HB1.out))).mono ?_
    rintro e w' ⟨b, rfl, rfl, _⟩
    cases b with
    | true =>
      go_wp2
      go_ret
      exact ⟨rfl, HB1.out⟩
    | false =>
      go_wp2
      go_ret
      exact ⟨rfl, HB1.out⟩
  · have hbad : a0 < 2 ∨ 4096 < a0 := by omega
    have HN := Lib.hid (fun W => new_no a0 W hbad)
    have HM := Lib.hid (fun W => rnew_no a0 W hbad)
    by_cases hn64 : 64 < a0
    · have d1 : decide (64 < a0) = true := decide_eq_true hn64
      have d2 : decide (a0 ≤ 4096) = false := decide_eq_false (by omega)
      clear hmid hbad h hn64
      go_enter Try.func3, Try.ntmps3
      go_wp2_with fail
      refine (awake_any w).mono ?_
      rintro e w1 ⟨rfl, hb1⟩
      have HB1 := Lib.hid hb1
      clear hb1
      go_wp2_with fail
      refine (HLA.out w1 (HV.out.keep (Kept.of_below HB1.out))).mono ?_
      rintro e w' ⟨b, rfl, rfl, _⟩
      cases b with
      | true =>
        go_wp2
        go_ret
        exact ⟨rfl, HB1.out⟩
      | false =>
        go_wp2_with fail
        refine (HN.out _).mono ?_
        rintro e w' ⟨rfl, rfl⟩
        go_wp2_with fail
        refine (HM.out _).mono ?_
        rintro e w' ⟨rfl, rfl⟩
        go_wp2
        go_loopg [9] 0 (fun gk s9 W => gk = 0 ∧ s9 = .int .i64 0 ∧ Hid (Below w.heap.size w W))
        case atStart => exact ⟨rfl, rfl, HB1.out⟩
        case round =>
          obtain ⟨_, rfl, HBW⟩ := hrel
          go_wp2
          go_ret
          exact ⟨rfl, HBW.out⟩
    · have d1 : decide (64 < a0) = false := decide_eq_false hn64
      clear hmid hbad h hn64
      go_enter Try.func3, Try.ntmps3
      go_wp2_with fail
      refine (awake_any w).mono ?_
      rintro e w1 ⟨rfl, hb1⟩
      have HB1 := Lib.hid hb1
      clear hb1
      go_wp2_with fail
      refine (HLA.out w1 (HV.out.keep (Kept.of_below HB1.out))).mono ?_
      rintro e w' ⟨b, rfl, rfl, _⟩
      cases b with
      | true =>
        go_wp2
        go_ret
        exact ⟨rfl, HB1.out⟩
      | false =>
        go_wp2_with fail
        refine (HN.out _).mono ?_
        rintro e w' ⟨rfl, rfl⟩
        go_wp2_with fail
        refine (HM.out _).mono ?_
        rintro e w' ⟨rfl, rfl⟩
        go_wp2
        go_loopg [9] 0 (fun gk s9 W => gk = 0 ∧ s9 = .int .i64 0 ∧ Hid (Below w.heap.size w W))
        case atStart => exact ⟨rfl, rfl, HB1.out⟩
        case round =>
          obtain ⟨_, rfl, HBW⟩ := hrel
          go_wp2
          go_ret
          exact ⟨rfl, HBW.out⟩

theorem walk {w : World} (a0 : Int) (_w0 : (Lit.int .i64 a0).wf = true) (a1 : Option Addr) (len cap : Nat) (l : List Ox) (hl : l.length = len) (hlc : len ≤ cap) (hcm : cap ≤ maxLen) (hv : OpsIn w.heap.size w a1 l) :
    Calls Try.prog 3 #[.int .i64 a0, .slice a1 len cap] w fun e w' => e = .returned (.bool true) ∧ Below w.heap.size w w' := by
  by_cases h : 2 ≤ a0 ∧ a0 ≤ 64
  · obtain ⟨h0, h1⟩ := h
    obtain ⟨n, rfl⟩ := Int.eq_ofNat_of_zero_le (show 0 ≤ a0 by omega)
    exact walkIn n a1 len cap l w (by omega) (by omega) hl hcm hlc hv
  · exact walkOut a0 a1 len cap l w (by omega) hl hcm hlc hv

set_option maxRecDepth 100000 in
theorem lifted (os : Os) (started : os.Started) (H : Type) (enc : TypeId × Value → H) :
    ReturnsInHanded {} Try.checked os 3 .any (Rows.diskDoesSpec.pre6 enc Try.prog Try.f3 Rows.diskDoesRow.domain false) (Rows.diskDoesSpec.post enc Try.prog Try.f3 false true false false) := by
  refine returnsInHanded_of_change_sized (C := Try.checked) own started (by kernel_rfl) Try.func3
    (ChangeSpec.witness6 (enc := enc) (C := Try.checked) false ⟨#[], #[.int .i64 0, .slice none 0 0], []⟩ 8 (by kernel_rfl) (by kernel_rfl) (by kernel_rfl) (by kernel_rfl)) ?_
  intro W base args ds gs before hval0 hW _ hsz0 _
  have hsz : (DataW.weightsEach Try.prog (Try.f3.params.toList ++ Rows.diskDoesSpec.plain.varTypes Try.prog) (ds ++ gs)).all (· ≤ reachBytes) = true := hsz0
  have hval : ∀ (j : Nat) t v, Try.f3.params[j]? = some t → args[j]? = some v → Value.okWide Try.prog W .any base t v := hval0
  have hW' := hW
  obtain ⟨p, q, hA0, hV, rfl, hfz, hnd⟩ := hW
  have hA : DataW.TrodAll enc Try.prog W 0 (fun _ => true) true Try.f3.params.toList args.toList ds p := hA0
  rw [Try.params3] at hA hval hsz
  obtain ⟨v0, vs0, d0, ds0, p0, q0, hargs, rfl, rfl, h0, r0⟩ := trodAll_cons hA
  obtain ⟨v1, vs1, d1, ds1, p1, q1, rfl, rfl, rfl, h1, r1⟩ := trodAll_cons r0
  obtain ⟨rfl, rfl, rfl⟩ := trodAll_nil r1
  obtain rfl : args = #[v0, v1] := by cases args; simp_all
  obtain ⟨rfl, rfl⟩ := trodVars_none hV
  obtain ⟨a0, rfl, rfl, rfl, w0⟩ := open_int Try.underlying3 (hval 0 3 v0 rfl rfl) h0
  obtain ⟨a1, len1, cap1, rfl⟩ := okWide_slice Try.underlying22 (hval 1 22 v1 rfl rfl)
  have k1 := h1
  have lt1 : ∀ x ∈ p1, x.block < W.heap.size := by obtain ⟨m, hm⟩ := k1; exact DataW.trod_lt m _ _ _ hm
  obtain ⟨l1, hl1, hlc1, hcm1, hw1, hv1⟩ := open_ops h1
  have hs1 : ∀ x ∈ l1, x.cap ≤ 140737488355328 := fun x hx => by
    rcases hw1 x hx with h0 | hin
    · omega
    · have := List.all_eq_true.1 hsz _ (DataW.weights_mem_each (j := 1) (t := 22) (d := d1) rfl rfl x.cap hin)
      have h2 : x.cap ≤ reachBytes := by simpa using this
      have h3 := reachBytes_lt
      omega
  clear hA0 hval0
  refine (walk a0 w0 a1 len1 cap1 l1 hl1 hlc1 hcm1 (hv1 hs1)).mono fun e W' ⟨he, bel⟩ => ?_
  subst he
  exact ⟨_, rfl, _, _, _, [], _, [], hW', trodAll_mk1 (shut_bool Try.underlying4 _), (trodAll_cons_mk (shut_int Try.underlying3 w0) (trodAll_cons_mk (Below.trod laidOut (by kernel_rfl) (of_decide_eq_true (by kernel_rfl)) k1 bel lt1) trodAll_mk0)), rfl, bel.frame _, fun h => by cases h⟩

theorem over : Rows.diskDoesRow.holds Try.pinned (OpenSpec.ofChange Rows.diskDoesSpec) :=
  OpenClaim.holds_of_wide 3 Try.f3 rfl rfl rfl rfl rfl rfl rfl ⟨rfl, rfl, rfl, rfl, rfl⟩ rfl rfl rfl rfl rfl (by kernel_rfl) Try.func3 (by kernel_rfl)
    (of_decide_eq_true (by kernel_rfl)) (by unfold Func.isWrapper; first | (rw [if_pos (by decide +kernel)]; kernel_rfl) | (rw [if_neg (by decide +kernel)]; exact ⟨rfl, rfl⟩))
    (fun os started H enc _ => lifted os started H enc)

theorem proved : Rows.DiskDoesSaid := over
end Go.Proofs.Ythodnmcjgcnbbaa.diskDoes
