/- Every call of the law that a sector is as it was written last, but one that was torn, answers true: any number of sectors, operations and sector. No conditions. -/
import Derived.Test.YthodnmcjgcnbbaaRows
import Derived.Test.YthodnmcjgcnbbaaDiskApp
import Derived.WalkKit
import Derived.ProofKit
import Derived.OpenShut
import Derived.ShutString
import Derived.ChangeOld
import Derived.Below
import Derived.SizedLaws
import Derived.IntWalk
namespace Go.Proofs.Ythodnmcjgcnbbaa.diskLast
open Go.ChangeShapes Go.WideShapes Go.ChangeAt Go.RowKit
open Go.ChangeMaps (open_string shut_string)
set_option linter.unusedVariables false

theorem own : ownKnob Try.prog.godebug = none := by kernel_rfl
theorem laidOut : laidOutB Try.prog = true := by kernel_rfl

/-- what an operation that turns nothing makes of a sector, of how many bytes are torn -/
theorem sec_same (n : Nat) (d : Dk.D) (x : Ox) (j : Nat) (G : Dk.Good n d) (hj : j < n) (h3 : x.o ≠ 3) (h : ¬ (x.o = 0 ∧ x.a = j ∧ x.l.length ≤ 32)) : Dk.sec (dstate n d x).b j = Dk.sec d.b j := by
  unfold dstate
  split
  · unfold Dk.wstate
    split
    · rfl
    split
    · rfl
    split
    · rfl
    rename_i h0 hh hl _
    have hk : 0 ≤ x.a ∧ x.a < n := by simpa [Dk.has] using hh
    have hne : j ≠ x.a.toNat := fun e => h ⟨h0, by omega, by omega⟩
    split
    · exact Dk.sec_lay_other G.len (by omega) (by omega) (by have := G.t1; omega) hne
    · exact Dk.sec_lay_other G.len (by omega) (by omega) (by omega) hne
  split
  · rfl
  split
  · rfl
  rfl

theorem torn_same (n : Nat) (d : Dk.D) (x : Ox) (h1 : x.o ≠ 1) : (dstate n d x).torn = d.torn := by
  unfold dstate
  by_cases e0 : x.o = 0
  · rw [if_pos e0]
    unfold Dk.wstate; split
    · rfl
    split
    · rfl
    split
    · rfl
    split <;> rfl
  rw [if_neg e0, if_neg h1]
  by_cases e2 : x.o = 2
  · rw [if_pos e2]; rfl
  rw [if_neg e2]
  by_cases e3 : x.o = 3
  · rw [if_pos e3]; unfold Dk.tstate; split <;> rfl
  · rw [if_neg e3]

theorem torn_fuse (n : Nat) (d : Dk.D) (x : Ox) (h1 : x.o = 1) : (dstate n d x).torn = min (max x.c 0) 32 := by
  unfold dstate
  rw [if_neg (by omega), if_pos h1]
  rfl

theorem dstate_good (n : Nat) (d : Dk.D) (x : Ox) (G : Dk.Good n d) (h0 : -9223372036854775808 ≤ x.a) (h1 : x.a ≤ 9223372036854775807) : Dk.Good n (dstate n d x) := by
  unfold dstate
  split
  · exact Dk.wstate_good G _ _
  split
  · exact Dk.fuse_good G _ _ h0 h1
  split
  · exact Dk.crash_good G
  split
  · exact Dk.tstate_good G _ _
  · exact G

theorem wr_cases (n : Nat) (d : Dk.D) (x : Ox) (j : Nat) (G : Dk.Good n d) (hj : j < n) (h0 : x.o = 0) (ha : x.a = j) (hl : x.l.length ≤ 32) :
    (dcode n d x = 0 ∧ Dk.sec (dstate n d x).b j = Dk.fill x.l) ∨
    (dcode n d x = 7 ∧ (Dk.sec (dstate n d x).b j = Dk.sec d.b j ∨ Dk.sec (dstate n d x).b j = (Dk.fill x.l).take d.torn.toNat ++ (Dk.sec d.b j).drop d.torn.toNat)) := by
  have hh : ¬ Dk.has n x.a = false := by rw [ha]; simp [Dk.has]; omega
  have hc : dcode n d x = if d.up = false then 7 else if d.fuse = 0 then 7 else 0 := by unfold dcode Dk.wcode; rw [if_pos h0, if_neg hh, if_neg (by omega)]
  have hs : dstate n d x = if d.up = false then d else if d.fuse = 0 then { d with b := Dk.lay d.b j x.l d.torn.toNat, up := false } else { d with b := Dk.lay d.b j x.l 32, writes := d.writes + 1, fuse := if 0 < d.fuse then d.fuse - 1 else d.fuse } := by
    unfold dstate Dk.wstate; rw [if_pos h0, if_neg hh, if_neg (by omega), ha]; rfl
  rw [hc, hs]
  by_cases e3 : d.up = false
  · rw [if_pos e3, if_pos e3]; exact .inr ⟨rfl, .inl rfl⟩
  rw [if_neg e3, if_neg e3]
  by_cases e4 : d.fuse = 0
  · rw [if_pos e4, if_pos e4]
    have := G.t1
    exact .inr ⟨rfl, .inr (Dk.sec_lay G.len hj hl (by omega))⟩
  · rw [if_neg e4, if_neg e4]
    refine .inl ⟨rfl, ?_⟩
    show Dk.sec (Dk.lay d.b j x.l 32) j = _
    rw [Dk.sec_lay G.len hj hl (by omega), List.take_of_length_le (by rw [Dk.fill_len hl]; omega), List.drop_eq_nil_of_le (by rw [Dk.sec_len G.len hj]; omega), List.append_nil]

theorem fresh_sec (n j : Nat) (hj : j < n) : Dk.sec (Dk.fresh n).b j = List.replicate 32 0 := by
  apply List.ext_getElem?
  intro i
  unfold Dk.sec Dk.fresh
  rw [List.getElem?_take]
  by_cases hi : i < 32
  · rw [if_pos hi, List.getElem?_drop, List.getElem?_replicate, List.getElem?_replicate, if_pos (by omega), if_pos hi]
  · rw [if_neg hi, List.getElem?_replicate, if_neg hi]

set_option maxHeartbeats 4000000 in
set_option maxRecDepth 100000 in
theorem walkIn (n j : Nat) (a1 : Option Addr) (len cap : Nat) (l : List Ox) (w : World) (h0 : 2 ≤ n) (h1 : n ≤ 64) (hj : j < n) (hl : l.length = len) (hcm : cap ≤ maxLen) (hlc : len ≤ cap) (hv : OpsIn w.heap.size w a1 l) (h60 : len ≤ 60) :
    Calls Try.prog 4 #[.int .i64 n, .slice a1 len cap, .int .i64 j] w fun e w' => e = .returned (.bool true) ∧ Below w.heap.size w w' := by
  have HV := Lib.hid hv
  have HL := Lib.hid hl
  have HLA := Lib.hid (fun W => large_any w.heap.size a1 len cap l W hl (by omega))
  have hmk : ∀ W : World, (Instr.makeSlice 32 (.int .i64 32) (.int .i64 32)).run Try.prog W = .ok (.slice (some ⟨W.heap.size, 0, none⟩) 32 32) (W.alloc (.cells ((List.replicate 32 (0 : UInt8)).map bv).toArray 5)) := make_bytes 32 (by omega)
  clear hv hl
  have dn : decide ((64 : Int) < (n : Int)) = false := decide_eq_false (by omega)
  have dj : decide ((j : Int) < 0) = false := decide_eq_false (by omega)
  have djn : decide ((n : Int) ≤ (j : Int)) = false := decide_eq_false (by omega)
  have djn' : decide (n ≤ j) = false := decide_eq_false (by omega)
  have HBN := Lib.hid (fun (W : World) (g s m : Nat) (d : Dk.D) (h : Run w g s m W d) => bytes_new h (List.replicate 32 (0 : UInt8)) (0, 0))
  generalize ((List.replicate 32 (0 : UInt8)).map bv).toArray = Z at *
  go_enter Try.func4, Try.ntmps4
  go_wp2_with fail
  refine (awake_any w).mono ?_
  rintro e w1 ⟨rfl, hb1⟩
  have HB1 := Lib.hid hb1
  clear hb1
  go_wp2_with fail
  refine (HLA.out w1 (HV.out.keep (Kept.of_below HB1.out))).mono ?_
  rintro e w' ⟨b, rfl, rfl, _⟩
  clear HLA
  cases b with
  | true =>
    go_wp2
    go_ret
    exact ⟨rfl, HB1.out⟩
  | false =>
    go_wp2_with fail
    refine (run_new n w w1 HB1.out h0 (by omega)).mono ?_
    rintro e w2 ⟨g, s, rfl, hr2, _⟩
    have HR2 := Lib.hid hr2
    clear hr2 HB1
    go_wp2
    have HRA := Lib.hid (HR2.out.alloc (.cells Z 5))
    have HY0 : Hid (BytesIn (Two g s) (w2.alloc (.cells Z 5)) (some ⟨w2.heap.size, 0, none⟩) (Dk.sec (Dk.fresh n).b j)) := by
      unfold Hid
      rw [fresh_sec n j hj]
      exact HBN.out w2 g s n _ HR2.out
    clear HR2 HBN hmk
    generalize w2.alloc (.cells Z 5) = W0 at *
    generalize w2.heap.size = gw at *
    have hcm' : cap ≤ 9223372036854775807 := hcm
    clear hcm
    go_loopg [9, 10, 47] len (fun gk s9 s10 s47 W => ∃ (k : Nat) (A : Option Addr) (c : Nat) (d : Dk.D), k + gk = len ∧ s47 = .int .i64 k ∧ s9 = .slice A 32 c ∧ s10 = .int .i64 d.torn ∧ 32 ≤ c ∧ c ≤ maxLen ∧ d.writes ≤ k ∧ Hid (BytesIn (Two g s) W A (Dk.sec d.b j)) ∧ Hid (Run w g s n W d))
    case atStart => exact ⟨0, _, 32, Dk.fresh n, by omega, rfl, rfl, rfl, by omega, by decide, by simp [Dk.fresh], HY0.out, HRA.out⟩
    case round =>
      clear HY0 HRA
      obtain ⟨k, A, c, d, hkg, rfl, rfl, rfl, hc1, hc2, hwk, HY, HR⟩ := hrel
      by_cases hlt : k < len
      · obtain ⟨gk, rfl⟩ : ∃ i, gk = i + 1 := ⟨gk - 1, by omega⟩
        obtain ⟨x, hx⟩ := some_at l k (by rw [HL.out]; exact hlt)
        have HOP := Lib.hid (HV.out.keep (Kept.of_below HR.out.bel))
        obtain ⟨ad, rfl, _, x0, x1, x2, x3⟩ := OpsIn.at_ HOP.out hx
        have HOK := Lib.hid ((HOP.out.2 x (List.mem_of_getElem? hx)).keep ((Kept.refl (Mine w.heap.size) wr).alloc (.cells #[.int .i64 x.o, .int .i64 x.a, .int .i64 x.c, .slice x.A x.m x.cap] 34)))
        have HRA := Lib.hid (HR.out.alloc (.cells #[.int .i64 x.o, .int .i64 x.a, .int .i64 x.c, .slice x.A x.m x.cap] 34))
        have HYA := Lib.hid (CellsIn.keep HY.out ((Kept.refl (Two g s) wr).alloc (.cells #[.int .i64 x.o, .int .i64 x.a, .int .i64 x.c, .slice x.A x.m x.cap] 34)))
        have G := HR.out.at_.good
        have HG := Lib.hid G
        have HLEN := Lib.hid HOK.out.len
        have hm0 := HOK.out.m0
        have hm1 := HOK.out.m1
        clear hx HOP
        by_cases o3 : x.o = 3
        · have b3 : (x.o == 3) = true := beq_iff_eq.2 o3
          clear o3 G
          generalize x.o = xo at *
          go_wp2
          go_roundg gk
          case measure => omega
          case rel => exact ⟨k + 1, A, c, d, by omega, by first | rfl | go_num, rfl, rfl, hc1, hc2, by omega, HYA.out, HRA.out⟩
        · have b3 : (x.o == 3) = false := beq_eq_false_iff_ne.2 o3
          obtain ⟨q, hq⟩ : ∃ q, dcode n d x = q := ⟨_, rfl⟩
          obtain ⟨d2, hd2⟩ : ∃ d2, dstate n d x = d2 := ⟨_, rfl⟩
          have HQ := Lib.hid hq
          have HD2 := Lib.hid hd2
          have hww := dstate_writes n d x
          rw [hd2] at hww
          obtain ⟨hw1, hw2⟩ := hww
          have dw : decide (d2.writes < d.writes) = false := decide_eq_false (by omega)
          have HXB := Lib.hid (xcells_new wr x HR.out.at_.ltg HR.out.at_.lts)
          have HLS : Hid ((Dk.sec d2.b j).length = 32) := by
            have g2 : Dk.Good n d2 := by
              rw [← hd2]; exact dstate_good n d x G HOK.out.a0 HOK.out.a1
            exact Dk.sec_len g2.len hj
          have HLD : Hid ((Dk.sec d.b j).length = 32) := Dk.sec_len G.len hj
          by_cases o1 : x.o = 1
          · have b1 : (x.o == 1) = true := beq_iff_eq.2 o1
            have b0 : (x.o == 0) = false := beq_eq_false_iff_ne.2 (by omega)
            have HSE : Hid (Dk.sec d2.b j = Dk.sec d.b j) := by rw [← hd2]; exact sec_same n d x j G hj o3 (fun e => by omega)
            have HT : Hid (d2.torn = min (max x.c 0) 32) := by rw [← hd2]; exact torn_fuse n d x o1
            clear o1 o3 G hq hd2
            go_wp2_with fail
            refine (writes_any g s n d _ HRA.out.at_).mono ?_
            rintro e w' ⟨rfl, rfl⟩
            go_wp2_with fail
            refine (run_do HRA.out x (by omega) HOK.out q d2 HQ.out HD2.out).mono ?_
            rintro e w3 ⟨rfl, hr3, hk3⟩
            have HR3 := Lib.hid hr3
            have HYW := Lib.hid (CellsIn.keep HYA.out hk3)
            have HB3 := Lib.hid (HOK.out.keep (kept_mine hk3 HRA.out.hg HRA.out.hs))
            obtain ⟨z0, z1, z2, z3⟩ := xcells (CellsIn.keep HXB.out hk3)
            clear hr3 hk3
            generalize wr.heap.size = xb at *
            have HYT : Hid (BytesIn (Two g s) w3 A (Dk.sec d2.b j)) := by unfold Hid; rw [HSE.out]; exact HYW.out
            have HRT := Lib.hid HR3.out
            have HC1 := Lib.hid hc1
            have HC2 := Lib.hid hc2
            go_wp2_with fail
            all_goals
              refine (run_read HRT.out j hj).mono ?_
              rintro e w5 ⟨rfl, hby5, hr5, hb5⟩
              have HR5 := Lib.hid hr5
              have HY5 := Lib.hid (CellsIn.keep HYT.out (Kept.of_below hb5))
              have HS5 := Lib.hid (bsame_true (Two g s) _ _ 32 c (Dk.sec d2.b j) 32 w5 HLS.out (by omega) hby5 HY5.out)
              clear hby5 hr5 hb5
              go_wp2_with fail
              refine HS5.out.mono ?_
              rintro e w6 ⟨rfl, q6, rfl⟩
              have HR6 := Lib.hid (HR5.out.drewN q6)
              have HY6 := Lib.hid (CellsIn.keep HY5.out ((Kept.refl (Two g s) w5).drewN q6))
              clear HS5
              generalize w5.drewN q6 = w6 at *
              go_wp2_with fail
              refine (writes_any g s n d2 w6 HR6.out.at_).mono ?_
              rintro e w' ⟨rfl, rfl⟩
              go_wp2
              go_roundg gk
              case measure => omega
              case rel => exact ⟨k + 1, _, _, d2, by omega, by first | rfl | go_num, rfl, int_eq (by have := HT.out; omega), HC1.out, HC2.out, by omega, HY6.out, HR6.out⟩
          have HT : Hid (d2.torn = d.torn) := by rw [← hd2]; exact torn_same n d x o1
          have b1 : (x.o == 1) = false := beq_eq_false_iff_ne.2 o1
          by_cases h0 : x.o = 0 ∧ x.a = j ∧ x.l.length ≤ 32
          · obtain ⟨o0, oa, om⟩ := h0
            have b0 : (x.o == 0) = true := beq_iff_eq.2 o0
            have ba : (x.a == (j : Int)) = true := beq_iff_eq.2 oa
            have hm32 : x.m ≤ 32 := by rw [← HLEN.out]; exact om
            have bm : decide ((x.m : Int) ≤ 32) = true := decide_eq_true (by omega)
            have hwr : IntKind.i64.wrap (32 - (x.m : Int)) = 32 - (x.m : Int) := IntWalk.i64_in _ (by omega)
            have HWC := Lib.hid (wr_cases n d x j G hj o0 oa om)
            rw [hq, hd2] at HWC
            have t0 := G.t0
            have t1 := G.t1
            have HT0 := Lib.hid t0
            have HT1 := Lib.hid t1
            have HFL := Lib.hid (Dk.fill_len om)
            have HFE : Hid (Dk.fill x.l = x.l ++ List.replicate (32 - x.m) 0) := by unfold Hid; rw [fill_eq, HLEN.out]
            clear o0 oa om o1 o3 G hq hd2 t0 t1
            rcases HWC.out with ⟨hq0, hsf⟩ | ⟨hq7, hs7⟩
            · clear HWC
              have bq : (q == 0) = true := beq_iff_eq.2 hq0
              have bq7 : (q == 7) = false := beq_eq_false_iff_ne.2 (by omega)
              have HSF := Lib.hid hsf
              clear hq0 hsf
              go_wp2_with fail
              refine (writes_any g s n d _ HRA.out.at_).mono ?_
              rintro e w' ⟨rfl, rfl⟩
              go_wp2_with fail
              refine (run_do HRA.out x (by omega) HOK.out q d2 HQ.out HD2.out).mono ?_
              rintro e w3 ⟨rfl, hr3, hk3⟩
              have HR3 := Lib.hid hr3
              have HYW := Lib.hid (CellsIn.keep HYA.out hk3)
              have HB3 := Lib.hid (HOK.out.keep (kept_mine hk3 HRA.out.hg HRA.out.hs))
              obtain ⟨z0, z1, z2, z3⟩ := xcells (CellsIn.keep HXB.out hk3)
              clear hr3 hk3
              generalize wr.heap.size = xb at *
              go_wp2_with fail
              have HKEEP : Hid (∀ w', Kept No w3 w' → (w'.cell? ⟨xb, 3, none⟩ = some (.slice x.A x.m x.cap) ∧ Hid (Kept No w3 w'))) := fun w' hk => ⟨(hk.cell (World.block_lt_of_cell? w3 _ z3) id).trans z3, hk⟩
              have HMS : Hid (∀ i, Two g s i → i < w3.drew.heap.size) := mine_sub (W := w3) HR3.out.at_
              have HA1 := Lib.hid (fill_app1 (Mine w.heap.size) w3.drew x.A x.m x.cap x.l HLEN.out hm32 HB3.out.bytes)
              go_region_held3 (fun w' => w'.cell? ⟨xb, 3, none⟩ = some (.slice x.A x.m x.cap) ∧ Hid (Kept No w3 w'))
                (first
                  | exact HKEEP.out _ hkp2.out
                  | exact HKEEP.out _ hkp1.out
                  | exact HKEEP.out _ ((Kept.refl No w3).drew.alloc _)
                  | exact HKEEP.out _ (Kept.refl No w3).drew)
                (first
                  | (refine step_append_run (by rfl) (.tmp 84) (.tmp 88) 32 3 (by rfl) _ _ (by rfl) (by rfl) _ HA2.out ?_
                     intro v2 w4b hf2
                     obtain ⟨A2, c2, rfl, hA2c, hA2d, hby2, hk2⟩ := hf2
                     have hkp2 : Hid (Kept No w3 w4b) := ⟨hk2.os, hk2.tape, hk2.output, hk2.size, hk2.block⟩
                     have HBB := Lib.hid (hby2 (Two g s) HMS.out)
                     clear hby2 hk2)
                  | (refine step_append_run (by rfl) (.tmp 81) (.tmp 83) 32 32 (by rfl) _ _ (by rfl) (by rfl) _ HA1.out ?_
                     intro v1 w4 hf1
                     have hkp1 : Hid (Kept No w3 w4) := ⟨hf1.2.os, hf1.2.tape, hf1.2.output, hf1.2.size, hf1.2.block⟩
                     have HA2 := Lib.hid (fill_app2 hf1 hm32)
                     clear hf1))
              rw [← HFE.out] at HBB
              have HRB : Hid (Run w g s n w4b d2) := HR3.out.step (HR3.out.at_.keep hkp2.out id id) (hkp2.out.wide (fun _ _ h => h.elim))
              have HYB := Lib.hid (CellsIn.keep HYW.out (hkp2.out.wide (fun _ _ h => h.elim)))
              clear HKEEP HA1 HA2 hkp1 HR3 HYW HB3
              go_wp2_with fail
              refine (run_read HRB.out j hj).mono ?_
              rintro e w4c ⟨rfl, hbyc, hrc, hbc⟩
              have HRC := Lib.hid hrc
              have HYC := Lib.hid (CellsIn.keep HYB.out (Kept.of_below hbc))
              have HBC := Lib.hid (CellsIn.keep HBB.out (Kept.of_below hbc))
              have HNC := Lib.hid hbyc
              clear hbyc hrc hbc HRB HYB HBB
              generalize w4b.heap.size = gc at *
              have HYT : Hid (BytesIn (Two g s) w4c A2 (Dk.sec d2.b j)) := by unfold Hid; rw [HSF.out]; exact HBC.out
              have HRT := Lib.hid HRC.out
              have HC1 := Lib.hid hA2c
              have HC2 := Lib.hid hA2d
              go_wp2_with fail
              refine (run_read HRT.out j hj).mono ?_
              rintro e w5 ⟨rfl, hby5, hr5, hb5⟩
              have HR5 := Lib.hid hr5
              have HY5 := Lib.hid (CellsIn.keep HYT.out (Kept.of_below hb5))
              have HS5 := Lib.hid (bsame_true (Two g s) _ _ 32 c2 (Dk.sec d2.b j) 32 w5 HLS.out (by omega) hby5 HY5.out)
              clear hby5 hr5 hb5
              go_wp2_with fail
              refine HS5.out.mono ?_
              rintro e w6 ⟨rfl, q6, rfl⟩
              have HR6 := Lib.hid (HR5.out.drewN q6)
              have HY6 := Lib.hid (CellsIn.keep HY5.out ((Kept.refl (Two g s) w5).drewN q6))
              clear HS5
              generalize w5.drewN q6 = w6 at *
              go_wp2_with fail
              refine (writes_any g s n d2 w6 HR6.out.at_).mono ?_
              rintro e w' ⟨rfl, rfl⟩
              go_wp2
              go_roundg gk
              case measure => omega
              case rel => exact ⟨k + 1, _, _, d2, by omega, by first | rfl | go_num, rfl, int_eq (by have := HT.out; omega), HC1.out, HC2.out, by omega, HY6.out, HR6.out⟩
            · clear HWC
              have bq : (q == 0) = false := beq_eq_false_iff_ne.2 (by omega)
              have bq7 : (q == 7) = true := beq_iff_eq.2 hq7
              have HS7 := Lib.hid hs7
              clear hq7 hs7
              by_cases hsame : Dk.sec d2.b j = Dk.sec d.b j
              · have HSE := Lib.hid hsame
                clear hsame
                go_wp2_with fail
                refine (writes_any g s n d _ HRA.out.at_).mono ?_
                rintro e w' ⟨rfl, rfl⟩
                go_wp2_with fail
                refine (run_do HRA.out x (by omega) HOK.out q d2 HQ.out HD2.out).mono ?_
                rintro e w3 ⟨rfl, hr3, hk3⟩
                have HR3 := Lib.hid hr3
                have HYW := Lib.hid (CellsIn.keep HYA.out hk3)
                have HB3 := Lib.hid (HOK.out.keep (kept_mine hk3 HRA.out.hg HRA.out.hs))
                obtain ⟨z0, z1, z2, z3⟩ := xcells (CellsIn.keep HXB.out hk3)
                clear hr3 hk3
                generalize wr.heap.size = xb at *
                go_wp2_with fail
                have HKEEP : Hid (∀ w', Kept No w3 w' → (w'.cell? ⟨xb, 3, none⟩ = some (.slice x.A x.m x.cap) ∧ Hid (Kept No w3 w'))) := fun w' hk => ⟨(hk.cell (World.block_lt_of_cell? w3 _ z3) id).trans z3, hk⟩
                have HMS : Hid (∀ i, Two g s i → i < w3.drew.heap.size) := mine_sub (W := w3) HR3.out.at_
                have HA1 := Lib.hid (fill_app1 (Mine w.heap.size) w3.drew x.A x.m x.cap x.l HLEN.out hm32 HB3.out.bytes)
                go_region_held3 (fun w' => w'.cell? ⟨xb, 3, none⟩ = some (.slice x.A x.m x.cap) ∧ Hid (Kept No w3 w'))
                  (first
                    | exact HKEEP.out _ hkp2.out
                    | exact HKEEP.out _ hkp1.out
                    | exact HKEEP.out _ ((Kept.refl No w3).drew.alloc _)
                    | exact HKEEP.out _ (Kept.refl No w3).drew)
                  (first
                    | (refine step_append_run (by rfl) (.tmp 84) (.tmp 88) 32 3 (by rfl) _ _ (by rfl) (by rfl) _ HA2.out ?_
                       intro v2 w4b hf2
                       obtain ⟨A2, c2, rfl, hA2c, hA2d, hby2, hk2⟩ := hf2
                       have hkp2 : Hid (Kept No w3 w4b) := ⟨hk2.os, hk2.tape, hk2.output, hk2.size, hk2.block⟩
                       have HBB := Lib.hid (hby2 (Two g s) HMS.out)
                       clear hby2 hk2)
                    | (refine step_append_run (by rfl) (.tmp 81) (.tmp 83) 32 32 (by rfl) _ _ (by rfl) (by rfl) _ HA1.out ?_
                       intro v1 w4 hf1
                       have hkp1 : Hid (Kept No w3 w4) := ⟨hf1.2.os, hf1.2.tape, hf1.2.output, hf1.2.size, hf1.2.block⟩
                       have HA2 := Lib.hid (fill_app2 hf1 hm32)
                       clear hf1))
                rw [← HFE.out] at HBB
                have HRB : Hid (Run w g s n w4b d2) := HR3.out.step (HR3.out.at_.keep hkp2.out id id) (hkp2.out.wide (fun _ _ h => h.elim))
                have HYB := Lib.hid (CellsIn.keep HYW.out (hkp2.out.wide (fun _ _ h => h.elim)))
                clear HKEEP HA1 HA2 hkp1 HR3 HYW HB3
                go_wp2_with fail
                refine (run_read HRB.out j hj).mono ?_
                rintro e w4c ⟨rfl, hbyc, hrc, hbc⟩
                have HRC := Lib.hid hrc
                have HYC := Lib.hid (CellsIn.keep HYB.out (Kept.of_below hbc))
                have HBC := Lib.hid (CellsIn.keep HBB.out (Kept.of_below hbc))
                have HNC := Lib.hid hbyc
                clear hbyc hrc hbc HRB HYB HBB
                generalize w4b.heap.size = gc at *
                have HYT : Hid (BytesIn (Two g s) w4c A (Dk.sec d2.b j)) := by unfold Hid; rw [HSE.out]; exact HYC.out
                have HS6 := Lib.hid (bsame_true (Two g s) _ A 32 c (Dk.sec d2.b j) 32 w4c HLS.out (by omega) HNC.out HYT.out)
                go_wp2_with fail
                refine HS6.out.mono ?_
                rintro e w4d ⟨rfl, q4, rfl⟩
                have HRT := Lib.hid (HRC.out.drewN q4)
                have HYT' := Lib.hid (CellsIn.keep HYT.out ((Kept.refl (Two g s) w4c).drewN q4))
                clear HYT HRC HS6 HNC HYC HBC
                have HYT := Lib.hid HYT'.out
                clear HYT'
                have HC1 := Lib.hid hc1
                have HC2 := Lib.hid hc2
                generalize w4c.drewN q4 = w4e at *
                go_wp2_with fail
                refine (run_read HRT.out j hj).mono ?_
                rintro e w5 ⟨rfl, hby5, hr5, hb5⟩
                have HR5 := Lib.hid hr5
                have HY5 := Lib.hid (CellsIn.keep HYT.out (Kept.of_below hb5))
                have HS5 := Lib.hid (bsame_true (Two g s) _ _ 32 c (Dk.sec d2.b j) 32 w5 HLS.out (by omega) hby5 HY5.out)
                clear hby5 hr5 hb5
                go_wp2_with fail
                refine HS5.out.mono ?_
                rintro e w6 ⟨rfl, q6, rfl⟩
                have HR6 := Lib.hid (HR5.out.drewN q6)
                have HY6 := Lib.hid (CellsIn.keep HY5.out ((Kept.refl (Two g s) w5).drewN q6))
                clear HS5
                generalize w5.drewN q6 = w6 at *
                go_wp2_with fail
                refine (writes_any g s n d2 w6 HR6.out.at_).mono ?_
                rintro e w' ⟨rfl, rfl⟩
                go_wp2
                go_roundg gk
                case measure => omega
                case rel => exact ⟨k + 1, _, _, d2, by omega, by first | rfl | go_num, rfl, int_eq (by have := HT.out; omega), HC1.out, HC2.out, by omega, HY6.out, HR6.out⟩
              · have HNE := Lib.hid hsame
                have HSF : Hid (Dk.sec d2.b j = (Dk.fill x.l).take d.torn.toNat ++ (Dk.sec d.b j).drop d.torn.toNat) := HS7.out.resolve_left hsame
                clear hsame
                go_wp2_with fail
                refine (writes_any g s n d _ HRA.out.at_).mono ?_
                rintro e w' ⟨rfl, rfl⟩
                go_wp2_with fail
                refine (run_do HRA.out x (by omega) HOK.out q d2 HQ.out HD2.out).mono ?_
                rintro e w3 ⟨rfl, hr3, hk3⟩
                have HR3 := Lib.hid hr3
                have HYW := Lib.hid (CellsIn.keep HYA.out hk3)
                have HB3 := Lib.hid (HOK.out.keep (kept_mine hk3 HRA.out.hg HRA.out.hs))
                obtain ⟨z0, z1, z2, z3⟩ := xcells (CellsIn.keep HXB.out hk3)
                clear hr3 hk3
                generalize wr.heap.size = xb at *
                go_wp2_with fail
                have HKEEP : Hid (∀ w', Kept No w3 w' → (w'.cell? ⟨xb, 3, none⟩ = some (.slice x.A x.m x.cap) ∧ Hid (Kept No w3 w'))) := fun w' hk => ⟨(hk.cell (World.block_lt_of_cell? w3 _ z3) id).trans z3, hk⟩
                have HMS : Hid (∀ i, Two g s i → i < w3.drew.heap.size) := mine_sub (W := w3) HR3.out.at_
                have HA1 := Lib.hid (fill_app1 (Mine w.heap.size) w3.drew x.A x.m x.cap x.l HLEN.out hm32 HB3.out.bytes)
                go_region_held3 (fun w' => w'.cell? ⟨xb, 3, none⟩ = some (.slice x.A x.m x.cap) ∧ Hid (Kept No w3 w'))
                  (first
                    | exact HKEEP.out _ hkp2.out
                    | exact HKEEP.out _ hkp1.out
                    | exact HKEEP.out _ ((Kept.refl No w3).drew.alloc _)
                    | exact HKEEP.out _ (Kept.refl No w3).drew)
                  (first
                    | (refine step_append_run (by rfl) (.tmp 84) (.tmp 88) 32 3 (by rfl) _ _ (by rfl) (by rfl) _ HA2.out ?_
                       intro v2 w4b hf2
                       obtain ⟨A2, c2, rfl, hA2c, hA2d, hby2, hk2⟩ := hf2
                       have hkp2 : Hid (Kept No w3 w4b) := ⟨hk2.os, hk2.tape, hk2.output, hk2.size, hk2.block⟩
                       have HBB := Lib.hid (hby2 (Two g s) HMS.out)
                       clear hby2 hk2)
                    | (refine step_append_run (by rfl) (.tmp 81) (.tmp 83) 32 32 (by rfl) _ _ (by rfl) (by rfl) _ HA1.out ?_
                       intro v1 w4 hf1
                       have hkp1 : Hid (Kept No w3 w4) := ⟨hf1.2.os, hf1.2.tape, hf1.2.output, hf1.2.size, hf1.2.block⟩
                       have HA2 := Lib.hid (fill_app2 hf1 hm32)
                       clear hf1))
                rw [← HFE.out] at HBB
                have HRB : Hid (Run w g s n w4b d2) := HR3.out.step (HR3.out.at_.keep hkp2.out id id) (hkp2.out.wide (fun _ _ h => h.elim))
                have HYB := Lib.hid (CellsIn.keep HYW.out (hkp2.out.wide (fun _ _ h => h.elim)))
                clear HKEEP HA1 HA2 hkp1 HR3 HYW HB3
                go_wp2_with fail
                refine (run_read HRB.out j hj).mono ?_
                rintro e w4c ⟨rfl, hbyc, hrc, hbc⟩
                have HRC := Lib.hid hrc
                have HYC := Lib.hid (CellsIn.keep HYB.out (Kept.of_below hbc))
                have HBC := Lib.hid (CellsIn.keep HBB.out (Kept.of_below hbc))
                have HNC := Lib.hid hbyc
                clear hbyc hrc hbc HRB HYB HBB
                generalize w4b.heap.size = gc at *
                have HS6 := Lib.hid (bsame_false (Two g s) _ A 32 c (Dk.sec d2.b j) (Dk.sec d.b j) 32 w4c HLS.out HLD.out HNE.out (by omega) HNC.out HYC.out)
                go_wp2_with fail
                refine HS6.out.mono ?_
                rintro e w4d ⟨rfl, q4, rfl⟩
                have HRC' := Lib.hid (HRC.out.drewN q4)
                have HYC' := Lib.hid (CellsIn.keep HYC.out ((Kept.refl (Two g s) w4c).drewN q4))
                have HBC' := Lib.hid (CellsIn.keep HBC.out ((Kept.refl (Two g s) w4c).drewN q4))
                clear HRC HS6 HNC HYC HBC
                generalize w4c.drewN q4 = w4e at *
                obtain ⟨tn, htn⟩ : ∃ tn : Nat, d.torn = (tn : Int) := ⟨d.torn.toNat, by have := HT0.out; omega⟩
                have HTN := Lib.hid htn
                have htl : tn ≤ 32 := by have := HT1.out; omega
                have hsl1 := slice_front A2 32 c2 tn hA2c htl
                obtain ⟨A3, c3, hsl2, hpc⟩ := slice_back A 32 c tn hc1 htl
                rw [← htn] at hsl1 hsl2
                have HB1 : Hid (BytesIn (Two g s) w4e.drew A2 ((Dk.fill x.l).take tn)) := by
                  have := CellsIn.take HBC'.out tn
                  rw [← List.map_take] at this
                  exact this
                have HL1 : Hid (((Dk.fill x.l).take tn).length = tn) := by unfold Hid; rw [List.length_take, HFL.out]; omega
                have HL2 : Hid (((Dk.sec d.b j).drop tn).length = 32 - tn) := by unfold Hid; rw [List.length_drop, HLD.out]
                have HA3 := Lib.hid (fill_app1 (Two g s) w4e.drew A2 tn c2 ((Dk.fill x.l).take tn) HL1.out htl HB1.out)
                have HP := Lib.hid (hpc (Two g s) w4e (Dk.sec d.b j) HLD.out HYC'.out)
                have HMS4 : Hid (∀ i, Two g s i → i < w4e.drew.heap.size) := mine_sub (W := w4e) HRC'.out.at_
                have HTL : Hid (tn + (32 - tn) = 32) := by unfold Hid; omega
                clear htn hpc HB1
                go_wp2_with fail
                go_region_held3 (fun w' => Hid (Kept No w4e w'))
                  (first
                    | exact hkp4
                    | exact hkp3
                    | exact ((Kept.refl No w4e).drew.alloc _)
                    | exact (Kept.refl No w4e).drew)
                  (first
                    | (refine step_append_run (by rfl) (.tmp 111) (.tmp 114) 32 32 (by rfl) _ _ (by rfl) (by rfl) _ HA4.out ?_
                       intro v4 w4g hf4
                       obtain ⟨A4, c4, rfl, hA4c, hA4d, hby4, hk4⟩ := hf4
                       have hkp4 : Hid (Kept No w4e w4g) := ⟨hk4.os, hk4.tape, hk4.output, hk4.size, hk4.block⟩
                       have HB4 := Lib.hid (hby4 (Two g s) HMS4.out)
                       clear hby4 hk4)
                    | (refine step_append_run (by rfl) (.tmp 107) (.tmp 110) 32 32 (by rfl) _ _ (by rfl) (by rfl) _ HA3.out ?_
                       intro v3 w4f hf3
                       have hkp3 : Hid (Kept No w4e w4f) := ⟨hf3.2.os, hf3.2.tape, hf3.2.output, hf3.2.size, hf3.2.block⟩
                       have HA4 := Lib.hid (join_app2 hf3 (Two g s) A3 (32 - tn) c3 ((Dk.sec d.b j).drop tn) HL2.out HTL.out (CellsIn.keep HP.out (hkp3.out.wide (fun _ _ h => h.elim))))
                       clear hf3))
                have HYT : Hid (BytesIn (Two g s) w4g A4 (Dk.sec d2.b j)) := by
                  unfold Hid
                  rw [HSF.out, HTN.out, Int.toNat_natCast]
                  exact HB4.out
                have HRT : Hid (Run w g s n w4g d2) := HRC'.out.step (HRC'.out.at_.keep hkp4.out id id) (hkp4.out.wide (fun _ _ h => h.elim))
                have HC1 := Lib.hid hA4c
                have HC2 := Lib.hid hA4d
                clear HA3 HA4 HP hkp3 hkp4 hsl1 hsl2 HRC' HYC' HBC' HB4
                go_wp2_with fail
                refine (run_read HRT.out j hj).mono ?_
                rintro e w5 ⟨rfl, hby5, hr5, hb5⟩
                have HR5 := Lib.hid hr5
                have HY5 := Lib.hid (CellsIn.keep HYT.out (Kept.of_below hb5))
                have HS5 := Lib.hid (bsame_true (Two g s) _ _ 32 c4 (Dk.sec d2.b j) 32 w5 HLS.out (by omega) hby5 HY5.out)
                clear hby5 hr5 hb5
                go_wp2_with fail
                refine HS5.out.mono ?_
                rintro e w6 ⟨rfl, q6, rfl⟩
                have HR6 := Lib.hid (HR5.out.drewN q6)
                have HY6 := Lib.hid (CellsIn.keep HY5.out ((Kept.refl (Two g s) w5).drewN q6))
                clear HS5
                generalize w5.drewN q6 = w6 at *
                go_wp2_with fail
                refine (writes_any g s n d2 w6 HR6.out.at_).mono ?_
                rintro e w' ⟨rfl, rfl⟩
                go_wp2
                go_roundg gk
                case measure => omega
                case rel => exact ⟨k + 1, _, _, d2, by omega, by first | rfl | go_num, rfl, int_eq (by have := HT.out; omega), HC1.out, HC2.out, by omega, HY6.out, HR6.out⟩
          · have HSE : Hid (Dk.sec d2.b j = Dk.sec d.b j) := by rw [← hd2]; exact sec_same n d x j G hj o3 h0
            by_cases o0 : x.o = 0
            · have b0 : (x.o == 0) = true := beq_iff_eq.2 o0
              by_cases oa : x.a = j
              · have ba : (x.a == (j : Int)) = true := beq_iff_eq.2 oa
                have bm : decide ((x.m : Int) ≤ 32) = false := decide_eq_false (fun e => h0 ⟨o0, oa, by rw [HLEN.out]; omega⟩)
                clear o1 o3 o0 oa h0 G hq hd2
                go_wp2_with fail
                refine (writes_any g s n d _ HRA.out.at_).mono ?_
                rintro e w' ⟨rfl, rfl⟩
                go_wp2_with fail
                refine (run_do HRA.out x (by omega) HOK.out q d2 HQ.out HD2.out).mono ?_
                rintro e w3 ⟨rfl, hr3, hk3⟩
                have HR3 := Lib.hid hr3
                have HYW := Lib.hid (CellsIn.keep HYA.out hk3)
                have HB3 := Lib.hid (HOK.out.keep (kept_mine hk3 HRA.out.hg HRA.out.hs))
                obtain ⟨z0, z1, z2, z3⟩ := xcells (CellsIn.keep HXB.out hk3)
                clear hr3 hk3
                generalize wr.heap.size = xb at *
                have HYT : Hid (BytesIn (Two g s) w3 A (Dk.sec d2.b j)) := by unfold Hid; rw [HSE.out]; exact HYW.out
                have HRT := Lib.hid HR3.out
                have HC1 := Lib.hid hc1
                have HC2 := Lib.hid hc2
                go_wp2_with fail
                refine (run_read HRT.out j hj).mono ?_
                rintro e w5 ⟨rfl, hby5, hr5, hb5⟩
                have HR5 := Lib.hid hr5
                have HY5 := Lib.hid (CellsIn.keep HYT.out (Kept.of_below hb5))
                have HS5 := Lib.hid (bsame_true (Two g s) _ _ 32 c (Dk.sec d2.b j) 32 w5 HLS.out (by omega) hby5 HY5.out)
                clear hby5 hr5 hb5
                go_wp2_with fail
                refine HS5.out.mono ?_
                rintro e w6 ⟨rfl, q6, rfl⟩
                have HR6 := Lib.hid (HR5.out.drewN q6)
                have HY6 := Lib.hid (CellsIn.keep HY5.out ((Kept.refl (Two g s) w5).drewN q6))
                clear HS5
                generalize w5.drewN q6 = w6 at *
                go_wp2_with fail
                refine (writes_any g s n d2 w6 HR6.out.at_).mono ?_
                rintro e w' ⟨rfl, rfl⟩
                go_wp2
                go_roundg gk
                case measure => omega
                case rel => exact ⟨k + 1, _, _, d2, by omega, by first | rfl | go_num, rfl, int_eq (by have := HT.out; omega), HC1.out, HC2.out, by omega, HY6.out, HR6.out⟩
              · have ba : (x.a == (j : Int)) = false := beq_eq_false_iff_ne.2 oa
                clear o1 o3 o0 oa h0 G hq hd2
                go_wp2_with fail
                refine (writes_any g s n d _ HRA.out.at_).mono ?_
                rintro e w' ⟨rfl, rfl⟩
                go_wp2_with fail
                refine (run_do HRA.out x (by omega) HOK.out q d2 HQ.out HD2.out).mono ?_
                rintro e w3 ⟨rfl, hr3, hk3⟩
                have HR3 := Lib.hid hr3
                have HYW := Lib.hid (CellsIn.keep HYA.out hk3)
                have HB3 := Lib.hid (HOK.out.keep (kept_mine hk3 HRA.out.hg HRA.out.hs))
                obtain ⟨z0, z1, z2, z3⟩ := xcells (CellsIn.keep HXB.out hk3)
                clear hr3 hk3
                generalize wr.heap.size = xb at *
                have HYT : Hid (BytesIn (Two g s) w3 A (Dk.sec d2.b j)) := by unfold Hid; rw [HSE.out]; exact HYW.out
                have HRT := Lib.hid HR3.out
                have HC1 := Lib.hid hc1
                have HC2 := Lib.hid hc2
                go_wp2_with fail
                refine (run_read HRT.out j hj).mono ?_
                rintro e w5 ⟨rfl, hby5, hr5, hb5⟩
                have HR5 := Lib.hid hr5
                have HY5 := Lib.hid (CellsIn.keep HYT.out (Kept.of_below hb5))
                have HS5 := Lib.hid (bsame_true (Two g s) _ _ 32 c (Dk.sec d2.b j) 32 w5 HLS.out (by omega) hby5 HY5.out)
                clear hby5 hr5 hb5
                go_wp2_with fail
                refine HS5.out.mono ?_
                rintro e w6 ⟨rfl, q6, rfl⟩
                have HR6 := Lib.hid (HR5.out.drewN q6)
                have HY6 := Lib.hid (CellsIn.keep HY5.out ((Kept.refl (Two g s) w5).drewN q6))
                clear HS5
                generalize w5.drewN q6 = w6 at *
                go_wp2_with fail
                refine (writes_any g s n d2 w6 HR6.out.at_).mono ?_
                rintro e w' ⟨rfl, rfl⟩
                go_wp2
                go_roundg gk
                case measure => omega
                case rel => exact ⟨k + 1, _, _, d2, by omega, by first | rfl | go_num, rfl, int_eq (by have := HT.out; omega), HC1.out, HC2.out, by omega, HY6.out, HR6.out⟩
            · have b0 : (x.o == 0) = false := beq_eq_false_iff_ne.2 o0
              clear o1 o3 o0 h0 G hq hd2
              go_wp2_with fail
              refine (writes_any g s n d _ HRA.out.at_).mono ?_
              rintro e w' ⟨rfl, rfl⟩
              go_wp2_with fail
              refine (run_do HRA.out x (by omega) HOK.out q d2 HQ.out HD2.out).mono ?_
              rintro e w3 ⟨rfl, hr3, hk3⟩
              have HR3 := Lib.hid hr3
              have HYW := Lib.hid (CellsIn.keep HYA.out hk3)
              have HB3 := Lib.hid (HOK.out.keep (kept_mine hk3 HRA.out.hg HRA.out.hs))
              obtain ⟨z0, z1, z2, z3⟩ := xcells (CellsIn.keep HXB.out hk3)
              clear hr3 hk3
              generalize wr.heap.size = xb at *
              have HYT : Hid (BytesIn (Two g s) w3 A (Dk.sec d2.b j)) := by unfold Hid; rw [HSE.out]; exact HYW.out
              have HRT := Lib.hid HR3.out
              have HC1 := Lib.hid hc1
              have HC2 := Lib.hid hc2
              go_wp2_with fail
              refine (run_read HRT.out j hj).mono ?_
              rintro e w5 ⟨rfl, hby5, hr5, hb5⟩
              have HR5 := Lib.hid hr5
              have HY5 := Lib.hid (CellsIn.keep HYT.out (Kept.of_below hb5))
              have HS5 := Lib.hid (bsame_true (Two g s) _ _ 32 c (Dk.sec d2.b j) 32 w5 HLS.out (by omega) hby5 HY5.out)
              clear hby5 hr5 hb5
              go_wp2_with fail
              refine HS5.out.mono ?_
              rintro e w6 ⟨rfl, q6, rfl⟩
              have HR6 := Lib.hid (HR5.out.drewN q6)
              have HY6 := Lib.hid (CellsIn.keep HY5.out ((Kept.refl (Two g s) w5).drewN q6))
              clear HS5
              generalize w5.drewN q6 = w6 at *
              go_wp2_with fail
              refine (writes_any g s n d2 w6 HR6.out.at_).mono ?_
              rintro e w' ⟨rfl, rfl⟩
              go_wp2
              go_roundg gk
              case measure => omega
              case rel => exact ⟨k + 1, _, _, d2, by omega, by first | rfl | go_num, rfl, int_eq (by have := HT.out; omega), HC1.out, HC2.out, by omega, HY6.out, HR6.out⟩
      · have hk : k = len := by omega
        subst hk
        go_wp2
        go_ret
        exact ⟨rfl, HR.out.bel⟩

set_option maxHeartbeats 1000000 in
set_option maxRecDepth 100000 in
theorem walkOut (a0 a2 : Int) (a1 : Option Addr) (len cap : Nat) (l : List Ox) (w : World) (hl : l.length = len) (hcm : cap ≤ maxLen) (hlc : len ≤ cap) (hv : OpsIn w.heap.size w a1 l) (h : ¬ (2 ≤ a0 ∧ a0 ≤ 64 ∧ 0 ≤ a2 ∧ a2 < a0 ∧ len ≤ 60)) :
    Calls Try.prog 4 #[.int .i64 a0, .slice a1 len cap, .int .i64 a2] w fun e w' => e = .returned (.bool true) ∧ Below w.heap.size w w' := by
  have HV := Lib.hid hv
  have HLA := Lib.hid (fun W => large_any w.heap.size a1 len cap l W hl (by omega))
  have HH := Lib.hid h
  clear hv hl h
  by_cases hn64 : 64 < a0
  · have d1 : decide (64 < a0) = true := decide_eq_true hn64
    clear hn64
    go_enter Try.func4, Try.ntmps4
    go_wp2_with fail
    refine (awake_any w).mono ?_
    rintro e w1 ⟨rfl, hb1⟩
    have HB1 := Lib.hid hb1
    clear hb1
    go_wp2_with fail
    refine (HLA.out w1 (HV.out.keep (Kept.of_below HB1.out))).mono ?_
    rintro e w' ⟨b, rfl, rfl, _⟩
    clear HLA
    cases b with
    | true =>
      go_wp2
      go_ret
      exact ⟨rfl, HB1.out⟩
    | false =>
      go_wp2
      go_ret
      exact ⟨rfl, HB1.out⟩
  · have d1 : decide (64 < a0) = false := decide_eq_false hn64
    by_cases hn2 : a0 < 2
    · have HN := Lib.hid (fun W => new_no a0 W (.inl hn2))
      clear hn2 hn64
      go_enter Try.func4, Try.ntmps4
      go_wp2_with fail
      refine (awake_any w).mono ?_
      rintro e w1 ⟨rfl, hb1⟩
      have HB1 := Lib.hid hb1
      clear hb1
      go_wp2_with fail
      refine (HLA.out w1 (HV.out.keep (Kept.of_below HB1.out))).mono ?_
      rintro e w' ⟨b, rfl, rfl, _⟩
      clear HLA
      cases b with
      | true =>
        go_wp2
        go_ret
        exact ⟨rfl, HB1.out⟩
      | false =>
        go_wp2_with fail
        refine (HN.out _).mono ?_
        rintro e w' ⟨rfl, rfl⟩
        go_wp2
        go_ret
        exact ⟨rfl, HB1.out⟩
    · obtain ⟨n, rfl⟩ := Int.eq_ofNat_of_zero_le (show 0 ≤ a0 by omega)
      have hn0 : 2 ≤ n := by omega
      have hn1 : n ≤ 64 := by omega
      have HIF : Hid (len ≤ 60 → a2 < 0 ∨ (n : Int) ≤ a2) := fun h60 => by
        have := HH.out
        omega
      clear hn2 hn64
      go_enter Try.func4, Try.ntmps4
      go_wp2_with fail
      refine (awake_any w).mono ?_
      rintro e w1 ⟨rfl, hb1⟩
      have HB1 := Lib.hid hb1
      clear hb1
      go_wp2_with fail
      refine (HLA.out w1 (HV.out.keep (Kept.of_below HB1.out))).mono ?_
      rintro e w' ⟨b, rfl, rfl, hb60⟩
      clear HLA
      cases b with
      | true =>
        clear hb60
        go_wp2
        go_ret
        exact ⟨rfl, HB1.out⟩
      | false =>
        have hor := HIF.out (hb60 rfl)
        clear hb60
        by_cases h2 : a2 < 0
        · have d2 : decide (a2 < 0) = true := decide_eq_true h2
          clear hor h2
          go_wp2_with fail
          refine (run_new n w w1 HB1.out hn0 (by omega)).mono ?_
          rintro e w2 ⟨g, s, rfl, hr2, _⟩
          have HR2 := Lib.hid hr2
          clear hr2
          go_wp2
          go_ret
          exact ⟨rfl, HR2.out.bel⟩
        · have d2 : decide (a2 < 0) = false := decide_eq_false h2
          have d3 : decide ((n : Int) ≤ a2) = true := decide_eq_true (hor.resolve_left h2)
          clear hor h2
          go_wp2_with fail
          refine (run_new n w w1 HB1.out hn0 (by omega)).mono ?_
          rintro e w2 ⟨g, s, rfl, hr2, _⟩
          have HR2 := Lib.hid hr2
          clear hr2
          go_wp2
          go_ret
          exact ⟨rfl, HR2.out.bel⟩

theorem walk {w : World} (a0 : Int) (_w0 : (Lit.int .i64 a0).wf = true) (a1 : Option Addr) (len cap : Nat) (l : List Ox) (hl : l.length = len) (hlc : len ≤ cap) (hcm : cap ≤ maxLen) (hv : OpsIn w.heap.size w a1 l) (a2 : Int) (_w2 : (Lit.int .i64 a2).wf = true) :
    Calls Try.prog 4 #[.int .i64 a0, .slice a1 len cap, .int .i64 a2] w fun e w' => e = .returned (.bool true) ∧ Below w.heap.size w w' := by
  by_cases h : 2 ≤ a0 ∧ a0 ≤ 64 ∧ 0 ≤ a2 ∧ a2 < a0 ∧ len ≤ 60
  · obtain ⟨h0, h1, h2, h3, h4⟩ := h
    obtain ⟨n, rfl⟩ := Int.eq_ofNat_of_zero_le (show 0 ≤ a0 by omega)
    obtain ⟨j, rfl⟩ := Int.eq_ofNat_of_zero_le h2
    exact walkIn n j a1 len cap l w (by omega) (by omega) (by omega) hl hcm hlc hv h4
  · exact walkOut a0 a2 a1 len cap l w hl hcm hlc hv h

set_option maxRecDepth 100000 in
theorem lifted (os : Os) (started : os.Started) (H : Type) (enc : TypeId × Value → H) :
    ReturnsInHanded {} Try.checked os 4 .any (Rows.diskLastSpec.pre6 enc Try.prog Try.f4 Rows.diskLastRow.domain false) (Rows.diskLastSpec.post enc Try.prog Try.f4 false true false false) := by
  refine returnsInHanded_of_change_sized (C := Try.checked) own started (by kernel_rfl) Try.func4
    (ChangeSpec.witness6 (enc := enc) (C := Try.checked) false ⟨#[], #[.int .i64 0, .slice none 0 0, .int .i64 0], []⟩ 8 (by kernel_rfl) (by kernel_rfl) (by kernel_rfl) (by kernel_rfl)) ?_
  intro W base args ds gs before hval0 hW _ hsz0 _
  have hsz : (DataW.weightsEach Try.prog (Try.f4.params.toList ++ Rows.diskLastSpec.plain.varTypes Try.prog) (ds ++ gs)).all (· ≤ reachBytes) = true := hsz0
  have hval : ∀ (j : Nat) t v, Try.f4.params[j]? = some t → args[j]? = some v → Value.okWide Try.prog W .any base t v := hval0
  have hW' := hW
  obtain ⟨p, q, hA0, hV, rfl, hfz, hnd⟩ := hW
  have hA : DataW.TrodAll enc Try.prog W 0 (fun _ => true) true Try.f4.params.toList args.toList ds p := hA0
  rw [Try.params4] at hA hval hsz
  obtain ⟨v0, vs0, d0, ds0, p0, q0, hargs, rfl, rfl, h0, r0⟩ := trodAll_cons hA
  obtain ⟨v1, vs1, d1, ds1, p1, q1, rfl, rfl, rfl, h1, r1⟩ := trodAll_cons r0
  obtain ⟨v2, vs2, d2, ds2, p2, q2, rfl, rfl, rfl, h2, r2⟩ := trodAll_cons r1
  obtain ⟨rfl, rfl, rfl⟩ := trodAll_nil r2
  obtain rfl : args = #[v0, v1, v2] := by cases args; simp_all
  obtain ⟨rfl, rfl⟩ := trodVars_none hV
  obtain ⟨a0, rfl, rfl, rfl, w0⟩ := open_int Try.underlying3 (hval 0 3 v0 rfl rfl) h0
  obtain ⟨a1, len1, cap1, rfl⟩ := okWide_slice Try.underlying22 (hval 1 22 v1 rfl rfl)
  have k1 := h1
  have lt1 : ∀ x ∈ p1, x.block < W.heap.size := by obtain ⟨m, hm⟩ := k1; exact DataW.trod_lt m _ _ _ hm
  obtain ⟨l1, hl1, hlc1, hcm1, hw1, hv1⟩ := open_ops h1
  have hs1 : ∀ x ∈ l1, x.cap ≤ 140737488355328 := fun x hx => by
    rcases hw1 x hx with h0 | hin
    · omega
    · have := List.all_eq_true.1 hsz _ (DataW.weights_mem_each (j := 1) (t := 22) (d := d1) rfl rfl x.cap hin)
      have h2 : x.cap ≤ reachBytes := by simpa using this
      have h3 := reachBytes_lt
      omega
  obtain ⟨a2, rfl, rfl, rfl, w2⟩ := open_int Try.underlying3 (hval 2 3 v2 rfl rfl) h2
  clear hA0 hval0
  refine (walk a0 w0 a1 len1 cap1 l1 hl1 hlc1 hcm1 (hv1 hs1) a2 w2).mono fun e W' ⟨he, bel⟩ => ?_
  subst he
  exact ⟨_, rfl, _, _, _, [], _, [], hW', trodAll_mk1 (shut_bool Try.underlying4 _), (trodAll_cons_mk (shut_int Try.underlying3 w0) (trodAll_cons_mk (Below.trod laidOut (by kernel_rfl) (of_decide_eq_true (by kernel_rfl)) k1 bel lt1) (trodAll_cons_mk (shut_int Try.underlying3 w2) trodAll_mk0))), rfl, bel.frame _, fun h => by cases h⟩

theorem over : Rows.diskLastRow.holds Try.pinned (OpenSpec.ofChange Rows.diskLastSpec) :=
  OpenClaim.holds_of_wide 4 Try.f4 rfl rfl rfl rfl rfl rfl rfl ⟨rfl, rfl, rfl, rfl, rfl⟩ rfl rfl rfl rfl rfl (by kernel_rfl) Try.func4 (by kernel_rfl)
    (of_decide_eq_true (by kernel_rfl)) (by unfold Func.isWrapper; first | (rw [if_pos (by decide +kernel)]; kernel_rfl) | (rw [if_neg (by decide +kernel)]; exact ⟨rfl, rfl⟩))
    (fun os started H enc _ => lifted os started H enc)

theorem proved : Rows.DiskLastSaid := over
end Go.Proofs.Ythodnmcjgcnbbaa.diskLast
