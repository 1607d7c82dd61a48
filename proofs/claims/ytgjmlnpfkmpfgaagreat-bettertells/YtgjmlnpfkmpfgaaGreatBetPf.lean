/- Package better: the iterator of some stops of a route the other way round. -/
import Derived.Test.YtgjmlnpfkmpfgaaGreatBetPd
namespace Go.Proofs.YtgjmlnpfkmpfgaaGreat
open Go.RowKit Go.Shelf
set_option linter.unusedVariables false
set_option maxRecDepth 100000
attribute [local go_sem] Oper.semAt_some

theorem sizeInts2 (W : World) : (sizeOf (Tryz.prog.elem 30)).run Tryz.prog W = .ok 1 W := by kernel_rfl
theorem mid_ints (g n c i j : Nat) (hnc : n ≤ c) (hij : i ≤ j) (hj : j < n) : ∃ q cc, q = j + 1 - i ∧
    ∀ W : World, (Instr.slice 30 (.slice (some ⟨g, 0, none⟩) n c) (some (.int .i64 (i : Int))) (some (.int .i64 ((j : Int) + 1))) none).run Tryz.prog W = .ok (.slice (some ⟨g, i, none⟩) q cc) W := by
  refine ⟨j + 1 - i, c - i, rfl, fun W => ?_⟩
  rw [run_slice_lh W 30 (some ⟨g, 0, none⟩) n c (by kernel_rfl) .i64 .i64 _ _ (by omega) (by omega) (by omega), sizeInts2 W]
  have e1 : ((j : Int) + 1).toNat = j + 1 := by omega
  have e2 : ¬ c = i := by omega
  simp [sliced, Result.andThen, e1, e2, add_flat]

set_option maxHeartbeats 8000000 in
theorem trn1_b (sb b : Nat) (p : Pd) (w : World) (hs : Stay sb w fun U => Box U b p.cells 32 ∧ PlS U p) :
    Gives sb Tryz.prog 74 #[.pointer (some ⟨b, 0, none⟩)] RV (Bt.trn3 (ros p.rs) p.rm) w := by
  obtain ⟨rA, rm, rc, rs, uA, um, uc, us⟩ := p
  dsimp only at hs ⊢
  intro l0 J Jx W hW hJ hJx hM hY h0
  have HS := Lib.hid (hs.step hW)
  have HY := Lib.hid hY
  have HM := Lib.hid hM
  have HJ := Lib.hid hJ
  have H0 := Lib.hid h0
  have hm7 := HS.out.now.2.m7
  have x1 : W.cell? ⟨b, 0, none⟩ = some (.slice rA rm rc) := HS.out.now.1.cell 0 _ rfl
  clear hs hW hJ hJx hM hY h0
  refine callsIn_of_wp Tryz.func74 rfl trivial ?_ rfl
  simp only [Tryz.ntmps74, List.size_toArray, List.length_cons, List.length_nil, Nat.reduceAdd, Nat.reduceSub, Array.replicate_succ, Array.replicate_zero, List.push_toArray, List.append_toArray, List.nil_append, List.cons_append]
  gi_wp2
  clear x1
  gi_loopw [11] (fun s11 U => ∃ (k : Nat), k ≤ rm ∧ s11 = .int .i64 (k : Int) ∧ Hid (J (Bt.trn3 (ros rs) k).length U) ∧ Hid (KM sb W U)) (fun s11 U => rm - (intOf s11).toNat)
  case atStart => exact ⟨0, by omega, rfl, H0.out, KM.refl _ _⟩
  case round =>
    obtain ⟨k, hk, rfl, HJk, HK⟩ := hrel
    clear H0
    by_cases hlt : k < rm
    · obtain ⟨r, hr⟩ := mlist_at rs k (by rw [HS.out.now.2.rts.len]; exact hlt)
      have hf := (HS.out.step HK.out).now
      obtain ⟨ra, hra, c0, c1⟩ := hf.2.rts.rows k r hr
      obtain ⟨hrat, hsm⟩ := hf.2.rts.ra r (List.mem_of_getElem? hr)
      have i2 : (k : Int) < (rm : Int) := by omega
      have HR := Lib.hid hr
      have HRL : Hid (r.st.length = r.sm) := hrat.sl
      have HPA := Lib.hid hra
      have HKA : Hid (MnOk sb wr) := HM.out _ _ HJk.out
      have HX5 : Hid (Stay sb (wr.alloc (.cells #[.int .i64 r.tr, .slice r.sA r.sm r.sc] 49)) fun U => Box U wr.heap.size #[.int .i64 r.tr, .slice r.sA r.sm r.sc] 49) := stay_new HKA.out _ _
      have y1 := HX5.out.now.cell 1 _ rfl
      have HBL : Hid (Below wr.heap.size wr (wr.alloc (.cells #[.int .i64 r.tr, .slice r.sA r.sm r.sc] 49))) := below_alloc _ _
      have HK5 : Hid (KM sb W (wr.alloc (.cells #[.int .i64 r.tr, .slice r.sA r.sm r.sc] 49))) := HK.out.trans (KM.below HKA.out HBL.out)
      have HJ5 : Hid (J (Bt.trn3 (ros rs) k).length (wr.alloc (.cells #[.int .i64 r.tr, .slice r.sA r.sm r.sc] 49))) := own_below HJ.out HJk.out HBL.out
      have hst : Bt.stAt (ros rs) k = r.st := Bt.stAt_at (ros_at hr)
      have HAT : Hid (∀ (i d : Nat), i + 1 + d < r.sm → (Bt.trn3 (ros rs) rm)[(Bt.trn3 (ros rs) k).length + (Bt.trn2 (ros rs) k i).length + d]? = some (Bt.setSt (ros rs) k (Bt.rev r.st i (i + 1 + d)))) := fun i d hd => by
        have e1 : (Bt.trn2 (ros rs) k r.sm)[(Bt.trn2 (ros rs) k i).length + d]? = some (Bt.setSt (ros rs) k (Bt.rev r.st i (i + 1 + d))) := by
          have := flat_at (fun a => Bt.trn1 (ros rs) k a ((Bt.stAt (ros rs) k).length - (a + 1))) (m := r.sm) (k := i) (j := d) (by omega) (by rw [Bt.trn1_len, hst, HRL.out]; omega)
          unfold Bt.trn2
          rw [this]
          unfold Bt.trn1
          rw [List.getElem?_map, hst, HRL.out, List.getElem?_range (by omega)]; rfl
        have := flat_at (fun i => Bt.trn2 (ros rs) i (Bt.stAt (ros rs) i).length) hlt (j := (Bt.trn2 (ros rs) k i).length + d) (by rw [hst, HRL.out]; exact (List.getElem?_eq_some_iff.1 e1).1)
        rw [hst, HRL.out, e1] at this
        rw [Nat.add_assoc]
        exact this
      have HLN : Hid ((Bt.trn3 (ros rs) (k + 1)).length = (Bt.trn3 (ros rs) k).length + (Bt.trn2 (ros rs) k r.sm).length) := by
        unfold Hid
        conv => lhs; unfold Bt.trn3
        rw [Bt.flat_range, List.length_append, hst, HRL.out]; rfl
      have HLN2 : Hid (∀ i d, i + 1 + d = r.sm → (Bt.trn2 (ros rs) k (i + 1)).length = (Bt.trn2 (ros rs) k i).length + d) := fun i d hd => by
        unfold Bt.trn2
        rw [Bt.flat_range, List.length_append, Bt.trn1_len, hst, HRL.out]
        congr 1
        omega
      clear hf hr hrat hst hra
      obtain rfl := HPA.out
      gi_wp2
      clear c0 c1 y1
      generalize hV : wr.alloc (.cells #[.int .i64 r.tr, .slice r.sA r.sm r.sc] 49) = V at *
      clear hV
      generalize hb5 : wr.heap.size = b5 at *
      clear hb5 HJk HK HKA HBL
      gi_loopw [19] (fun s19 U => ∃ (i : Nat), i ≤ r.sm ∧ s19 = .int .i64 (i : Int) ∧ Hid (J ((Bt.trn3 (ros rs) k).length + (Bt.trn2 (ros rs) k i).length) U) ∧ Hid (KM sb V U)) (fun s19 U => r.sm - (intOf s19).toNat)
      case atStart => exact ⟨0, by omega, rfl, HJ5.out, KM.refl _ _⟩
      case round =>
        obtain ⟨i, hi, rfl, HJi, HKV2⟩ := hrel
        clear HJ5
        by_cases hil : i < r.sm
        · have wr1 : IntKind.i64.wrap ((i : Int) + 1) = (i : Int) + 1 := IntWalk.i64_in _ (by omega)
          gi_wp2
          gi_loopw [6] (fun s6 U => ∃ (d j : Nat), Hid (j = i + 1 + d) ∧ j ≤ r.sm ∧ i < j ∧ s6 = .int .i64 (j : Int) ∧ Hid (J ((Bt.trn3 (ros rs) k).length + (Bt.trn2 (ros rs) k i).length + d) U) ∧ Hid (KM sb V U)) (fun s6 U => r.sm - (intOf s6).toNat)
          case atStart => exact ⟨0, i + 1, by unfold Hid; omega, by omega, by omega, by first | rfl | go_num, HJi.out, HKV2.out⟩
          case round =>
            obtain ⟨d, j, HD, hj, hij, rfl, HJj, HKV3⟩ := hrel
            clear HJi HKV2
            have HSN := Lib.hid (HS.out.step (HK5.out.trans HKV3.out))
            have HB5 := Lib.hid (HX5.out.step HKV3.out).now
            have y1 := HB5.out.cell 1 _ rfl
            by_cases hjl : j < r.sm
            · have HRA : Hid (RAt wr r) := (HSN.out.now.2.rts.ra r (List.mem_of_getElem? HR.out)).1
              have HKA : Hid (MnOk sb wr) := HM.out _ _ HJj.out
              have d1 : decide ((j : Int) < (r.sm : Int)) = true := decide_eq_true (by omega)
              have wr2 : IntKind.i64.wrap ((j : Int) + 1) = (j : Int) + 1 := IntWalk.i64_in _ (by omega)
              have HCL := Lib.hid (clone_i r.sA r.sm r.sc r.st wr HRL.out (by omega) HRA.out.st)
              gi_wp2
              refine ⟨trivial, rfl, (callsIn_wide.2 HCL.out).mono ?_⟩
              rintro en w1 ⟨A1, c1, rfl, h1⟩
              obtain ⟨g, rfl⟩ := ownI_some h1.out.1 (by omega)
              obtain ⟨q, cc, hq, hsl⟩ := mid_ints g r.sm c1 i j h1.out.1.len.2.1 (by omega) hjl
              have HRV : Hid (Calls Tryz.prog 75 #[.slice (some ⟨g, i, none⟩) q cc] w1 fun e w' => e = .returned (.tuple #[]) ∧ Hid (OwnI w' wr.heap.size (.slice (some ⟨g, 0, none⟩) r.sm c1) (Bt.rev r.st i j) ∧ Below wr.heap.size w1 w')) := by
                rw [hq]
                exact reverse_b g r.sm c1 i j cc r.st w1 wr.heap.size HRL.out (by omega) (by omega) hjl h1.out.1
              have HB1w := Lib.hid h1.out.2
              clear HCL h1 y1 hq
              gi_wp2
              refine ⟨trivial, rfl, (callsIn_wide.2 HRV.out).mono ?_⟩
              rintro en w2 ⟨rfl, h2⟩
              have HB2w : Hid (Below wr.heap.size wr w2) := HB1w.out.trans h2.out.2
              have HJ2 : Hid (J ((Bt.trn3 (ros rs) k).length + (Bt.trn2 (ros rs) k i).length + d) w2) := own_below HJ.out HJj.out HB2w.out
              have HK2 : Hid (KM sb V w2) := HKV3.out.trans (KM.below HKA.out HB2w.out)
              have HS2 := Lib.hid (HS.out.step (HK5.out.trans HK2.out)).now
              have q0 : w2.cell? ⟨b, 0, none⟩ = some (.slice (some ra) rm rc) := HS2.out.1.cell 0 _ rfl
              have HRA2 : Hid (RAt w2 ⟨r.tr, some ⟨g, 0, none⟩, r.sm, c1, Bt.rev r.st i j⟩) := rat_own h2.out.1 (by omega) r.tr
              have HCH := Lib.hid ((changed_b (some ra) rm rc k rs r (some ⟨g, 0, none⟩) r.sm c1 (Bt.rev r.st i j) w2 HS2.out.2.rts.len (by omega) HS2.out.2.rts.rows HR.out).mono (R' := fun e w' => ∃ A' c', e = .returned (.slice A' rm c') ∧ Hid (KM sb w2 w') ∧ Hid (YieldAt Fence.wide 0 Tryz.prog l0 #[.slice A' rm c'] w' fun e W' => (e = .returned (.bool true) ∧ J ((Bt.trn3 (ros rs) k).length + (Bt.trn2 (ros rs) k i).length + d + 1) W' ∧ KM sb w' W') ∨ (e = .returned (.bool false) ∧ Jx W' ∧ KeepsFrom W.heap.size w' W'))) fun e w' hp => by
                obtain ⟨A', c', e1, h1⟩ := hp
                have hb := h1.out.2
                have hk := HM.out _ _ HJ2.out
                have hl : (rs.set k ⟨r.tr, some ⟨g, 0, none⟩, r.sm, c1, Bt.rev r.st i j⟩).length = rm := by rw [List.length_set]; exact HS2.out.2.rts.len
                have hrt : RtsAt 30 w' A' rm (rs.set k ⟨r.tr, some ⟨g, 0, none⟩, r.sm, c1, Bt.rev r.st i j⟩) := ⟨hl, by omega, h1.out.1.len.2.2.1, fun s hs => by
                  rcases List.mem_or_eq_of_mem_set hs with h | rfl
                  · have := HS2.out.2.rts.ra s h
                    exact ⟨this.1.below hb, by omega⟩
                  · exact ⟨HRA2.out.below hb, by show r.sm ≤ 30; omega⟩⟩
                have hat := HAT.out i d (by have := HD.out; omega)
                rw [← HD.out] at hat
                have hy := HY.out _ _ (.slice A' rm c') w' hat (own_below HJ.out HJ2.out hb) ((HK5.out.trans HK2.out).trans (KM.below hk hb)) ⟨A', rm, c', _, rfl, hrt, ros_set HR.out _ _ _ _⟩
                exact ⟨A', c', e1, KM.below hk hb, hy⟩)
              clear h2 HRV HB1w HB2w HJ2 HS2 HRA2 hsl HJj HKV3 HKA HRA HB5 HSN
              gi_wp2
              refine ⟨trivial, rfl, (callsIn_wide.2 HCH.out).mono ?_⟩
              rintro en w3 ⟨A3, c3, rfl, HK3, HY3⟩
              obtain ⟨fn, tmps, assign, body, hy, hR⟩ := HY3.out
              have HR3 := Lib.hid hR
              clear hR HCH q0 HY3
              gi_wp2
              refine ⟨rfl, HR3.out.mono ?_⟩
              rintro en w4 (⟨rfl, hJ4, hk4⟩ | ⟨rfl, hJx, hkf⟩)
              · have HJ4 := Lib.hid hJ4
                have HK4 := Lib.hid (HK2.out.trans (HK3.out.trans hk4))
                clear hJ4 hk4 HR3 hy HK2 HK3
                gi_wp2
                go_roundw
                case rel => exact ⟨d + 1, j + 1, by have := HD.out; unfold Hid; omega, by omega, by omega, by first | rfl | go_num, HJ4.out, HK4.out⟩
                case measure => simp [intOf]; omega
              · have HJX := Lib.hid hJx
                clear hJx hkf HR3 hy
                gi_wp2
                refine bodyPost_ret (results_none rfl _ _ _) rfl ?_
                exact ⟨⟨_, rfl⟩, .inr HJX.out⟩
            · have hjs : j = r.sm := by omega
              have d1 : decide ((j : Int) < (r.sm : Int)) = false := decide_eq_false (by omega)
              gi_wp2
              go_roundw
              case measure => simp [intOf]; omega
              case rel => exact ⟨i + 1, by omega, by first | rfl | go_num, by rw [HLN2.out i d (by have := HD.out; omega), ← Nat.add_assoc]; exact HJj.out, HKV3.out⟩
        · have his : i = r.sm := by omega
          subst his
          gi_wp2
          go_roundw
          case measure => simp [intOf]; omega
          case rel => exact ⟨k + 1, by omega, by first | rfl | go_num, by rw [HLN.out]; exact HJi.out, HK5.out.trans HKV2.out⟩
    · obtain rfl : k = rm := by omega
      gi_wp2
      go_end0
      exact ⟨⟨_, rfl⟩, .inl ⟨by have := HJk.out; exact this, HK.out⟩⟩
end Go.Proofs.YtgjmlnpfkmpfgaaGreat
