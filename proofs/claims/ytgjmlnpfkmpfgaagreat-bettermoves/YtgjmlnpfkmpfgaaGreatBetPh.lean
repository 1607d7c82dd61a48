/- Package better: the iterator of the swaps of any two routes' last stops. -/
import Derived.Test.YtgjmlnpfkmpfgaaGreatBetPg
namespace Go.Proofs.YtgjmlnpfkmpfgaaGreat
open Go.RowKit Go.Shelf
set_option linter.unusedVariables false
set_option maxRecDepth 100000
attribute [local go_sem] Oper.semAt_some

set_option maxHeartbeats 1000000 in
theorem swapsOf_b (A : Option Addr) (m c a b : Nat) (w : World) :
    Calls Tryz.prog 77 #[.slice A m c, .int .i64 (a : Int), .int .i64 (b : Int)] w fun e w' => e = .returned (.func (.func 117) #[] #[.pointer (some ⟨w.heap.size, 0, none⟩), .pointer (some ⟨w.heap.size + 1, 0, none⟩), .pointer (some ⟨w.heap.size + 2, 0, none⟩)]) ∧
      w' = ((w.alloc (.cells #[.slice A m c] 29)).alloc (.cells #[.int .i64 (a : Int)] 3)).alloc (.cells #[.int .i64 (b : Int)] 3) := by
  go_enter Tryz.func77, Tryz.ntmps77
  go_wp2
  go_ret
  exact ⟨rfl, rfl⟩
theorem swapsOf_gives (sb : Nat) (A : Option Addr) (m c a b : Nat) (l : List Rd) (w : World) (r1 r2 : Rd) (h1 : l[a]? = some r1) (h2 : l[b]? = some r2) (hab : a ≠ b) (hc1 : r1.sm ≤ r1.sc) (hc2 : r2.sm ≤ r2.sc) (hk : MnOk sb w) (hs : Stay sb w fun U => RtsAt 14 U A m l) :
    Gives sb Tryz.prog 117 #[.pointer (some ⟨w.heap.size, 0, none⟩), .pointer (some ⟨w.heap.size + 1, 0, none⟩), .pointer (some ⟨w.heap.size + 2, 0, none⟩)] RV (Bt.swp2 (ros l) a b (r1.sm + 1)) (((w.alloc (.cells #[.slice A m c] 29)).alloc (.cells #[.int .i64 (a : Int)] 3)).alloc (.cells #[.int .i64 (b : Int)] 3)) := by
  have hk1 := hk.below (below_alloc w (.cells #[.slice A m c] 29))
  have hk2 := hk1.below (below_alloc (w.alloc (.cells #[.slice A m c] 29)) (.cells #[.int .i64 (a : Int)] 3))
  have e1 := stay_new hk #[.slice A m c] 29
  have e2 := stay_new hk1 #[.int .i64 (a : Int)] 3
  have e3 := stay_new hk2 #[.int .i64 (b : Int)] 3
  have s1 : (w.alloc (.cells #[.slice A m c] 29)).heap.size = w.heap.size + 1 := by simp
  have s2 : ((w.alloc (.cells #[.slice A m c] 29)).alloc (.cells #[.int .i64 (a : Int)] 3)).heap.size = w.heap.size + 2 := by simp
  rw [s1] at e2
  rw [s2] at e3
  have q1 := KM.below hk (below_alloc w (.cells #[.slice A m c] 29))
  have q2 := KM.below hk1 (below_alloc (w.alloc (.cells #[.slice A m c] 29)) (.cells #[.int .i64 (a : Int)] 3))
  have q3 := KM.below hk2 (below_alloc ((w.alloc (.cells #[.slice A m c] 29)).alloc (.cells #[.int .i64 (a : Int)] 3)) (.cells #[.int .i64 (b : Int)] 3))
  exact swp1_b sb _ _ _ A m c a b l _ r1 r2 h1 h2 hab hc1 hc2 ((e1.step (q2.trans q3)).and ((e2.step q3).and (e3.and (hs.step ((q1.trans q2).trans q3)))))

set_option maxHeartbeats 8000000 in
theorem swp0_b (sb b : Nat) (p : Pd) (w : World) (hs : Stay sb w fun U => Box U b p.cells 32 ∧ PlS U p) :
    Gives sb Tryz.prog 76 #[.pointer (some ⟨b, 0, none⟩)] RV (Bt.swp4 (ros p.rs) p.rm) w := by
  obtain ⟨rA, rm, rc, rs, uA, um, uc, us⟩ := p
  dsimp only at hs ⊢
  intro l0 J Jx W hW hJ hJx hM hY h0
  have HS := Lib.hid (hs.step hW)
  have HY := Lib.hid hY
  have HM := Lib.hid hM
  have HJ := Lib.hid hJ
  have HJX := Lib.hid hJx
  have hm7 := HS.out.now.2.m7
  have HV : Hid (Stay sb (W.alloc (.cells #[.func (.yield l0) #[] #[]] 106)) fun U => Box U W.heap.size #[.func (.yield l0) #[] #[]] 106) := stay_new (hM 0 W h0) _ _
  have HKV : Hid (KM sb W (W.alloc (.cells #[.func (.yield l0) #[] #[]] 106))) := KM.below (hM 0 W h0) (below_alloc _ _)
  have H0 : Hid (J 0 (W.alloc (.cells #[.func (.yield l0) #[] #[]] 106))) := own_below hJ h0 (below_alloc _ _)
  have HLM : Hid ((ros rs).length = rm) := by rw [ros_len]; exact HS.out.now.2.rts.len
  have x1 : (W.alloc (.cells #[.func (.yield l0) #[] #[]] 106)).cell? ⟨b, 0, none⟩ = some (.slice rA rm rc) := (HS.out.step HKV.out).now.1.cell 0 _ rfl
  clear hs hW hJ hJx hM hY h0
  refine callsIn_of_wp_marks Tryz.func76 rfl trivial ?_ rfl
  simp only [Tryz.ntmps76, List.size_toArray, List.length_cons, List.length_nil, Nat.reduceAdd, Nat.reduceSub, Array.replicate_succ, Array.replicate_zero, List.push_toArray, List.append_toArray, List.nil_append, List.cons_append]
  gi_wp2
  clear x1
  generalize hV0 : W.alloc (.cells #[.func (.yield l0) #[] #[]] 106) = V0 at *
  clear hV0
  refine wpIn_loop_fr 9 [3, 4, 5, 10, 11, 12, 13, 14, 15, 16, 17, 18, 19, 20, 21, 22, 23, 24, 25, 27, 28, 29, 30, 31] (fun s9 ds U => ∃ (a : Nat), a ≤ rm ∧ s9 = .int .i64 (a : Int) ∧ Hid (J (Bt.swp4 (ros rs) a).length U) ∧ Hid (KM sb V0 U) ∧ Hid (Mks W.heap.size ds U)) (fun s9 => rm - (intOf s9).toNat) rfl (by kernel_rfl) ?atStart ?round
  case atStart => exact ⟨0, by omega, rfl, H0.out, KM.refl _ _, Mks.nil _ _⟩
  case round =>
    intro s9 u3 u4 u5 u10 u11 u12 u13 u14 u15 u16 u17 u18 u19 u20 u21 u22 u23 u24 u25 u27 u28 u29 u30 u31 ds wr hrel
    conv => arg 6; simp only [fillL, List.set_cons_succ, List.set_cons_zero]
    obtain ⟨a, ha, rfl, HJk, HK, HMK⟩ := hrel
    clear H0
    by_cases hlt : a < rm
    · obtain ⟨r, hr⟩ := mlist_at rs a (by rw [HS.out.now.2.rts.len]; exact hlt)
      obtain ⟨hrat, hsm⟩ := HS.out.now.2.rts.ra r (List.mem_of_getElem? hr)
      have HR := Lib.hid hr
      have HRC : Hid (r.sm ≤ r.sc) := HS.out.now.2.cap r (List.mem_of_getElem? hr)
      have HRL : Hid (r.st.length = r.sm) := hrat.sl
      have wr1 : IntKind.i64.wrap ((a : Int) + 1) = (a : Int) + 1 := IntWalk.i64_in _ (by omega)
      have hst : Bt.stAt (ros rs) a = r.st := Bt.stAt_at (ros_at hr)
      have HAT : Hid (∀ (d i : Nat) (x : List Pl.Ro), a + 1 + d < rm → (Bt.swp2 (ros rs) a (a + 1 + d) (r.sm + 1))[i]? = some x → (Bt.swp4 (ros rs) rm)[(Bt.swp4 (ros rs) a).length + (Bt.swp3 (ros rs) a d).length + i]? = some x) := fun d i x hd hx => by
        have e1 : (Bt.swp3 (ros rs) a (rm - (a + 1)))[(Bt.swp3 (ros rs) a d).length + i]? = some x := by
          have := flat_at (fun d => Bt.swp2 (ros rs) a (a + 1 + d) ((Bt.stAt (ros rs) a).length + 1)) (m := rm - (a + 1)) (k := d) (j := i) (by omega) (by rw [hst, HRL.out]; exact (List.getElem?_eq_some_iff.1 hx).1)
          unfold Bt.swp3
          rw [this, hst, HRL.out, hx]
        have := flat_at (fun a => Bt.swp3 (ros rs) a ((ros rs).length - (a + 1))) hlt (j := (Bt.swp3 (ros rs) a d).length + i) (by rw [HLM.out]; exact (List.getElem?_eq_some_iff.1 e1).1)
        rw [HLM.out, e1] at this
        rw [Nat.add_assoc]
        unfold Bt.swp4
        rw [HLM.out]
        exact this
      have HLN : Hid (∀ d, a + 1 + d = rm → (Bt.swp4 (ros rs) (a + 1)).length = (Bt.swp4 (ros rs) a).length + (Bt.swp3 (ros rs) a d).length) := fun d hd => by
        unfold Bt.swp4
        rw [Bt.flat_range, List.length_append, HLM.out, show rm - (a + 1) = d by omega]
      have HLN2 : Hid (∀ d, (Bt.swp3 (ros rs) a (d + 1)).length = (Bt.swp3 (ros rs) a d).length + (Bt.swp2 (ros rs) a (a + 1 + d) (r.sm + 1)).length) := fun d => by
        unfold Bt.swp3
        rw [Bt.flat_range, List.length_append, hst, HRL.out]
      clear hr hrat hst
      gi_wp2
      refine wpIn_loop_fr 4 [5, 14, 15, 16, 17, 18, 19, 20, 21, 22, 23, 24, 25, 27, 28, 29, 30] (fun s4 ds U => ∃ (d q : Nat), Hid (q = a + 1 + d) ∧ q ≤ rm ∧ a < q ∧ s4 = .int .i64 (q : Int) ∧ Hid (J ((Bt.swp4 (ros rs) a).length + (Bt.swp3 (ros rs) a d).length) U) ∧ Hid (KM sb V0 U) ∧ Hid (Mks W.heap.size ds U)) (fun s4 => rm - (intOf s4).toNat) rfl (by kernel_rfl) ?atStart ?round
      case atStart => exact ⟨0, a + 1, by unfold Hid; omega, by omega, by omega, by first | rfl | go_num, HJk.out, HK.out, HMK.out⟩
      case round =>
        intro s4 u5 u14 u15 u16 u17 u18 u19 u20 u21 u22 u23 u24 u25 u27 u28 u29 u30 ds wr hrel
        conv => arg 6; simp only [fillL, List.set_cons_succ, List.set_cons_zero]
        obtain ⟨d, q, HD, hq, haq, rfl, HJj, HK2, HMK2⟩ := hrel
        clear HJk HK HMK
        have HSN := Lib.hid (HS.out.step (HKV.out.trans HK2.out))
        have y0 : wr.cell? ⟨b, 0, none⟩ = some (.slice rA rm rc) := HSN.out.now.1.cell 0 _ rfl
        by_cases hql : q < rm
        · have d1 : decide ((q : Int) < (rm : Int)) = true := decide_eq_true (by omega)
          have wr2 : IntKind.i64.wrap ((q : Int) + 1) = (q : Int) + 1 := IntWalk.i64_in _ (by omega)
          obtain ⟨r2, hr2⟩ := mlist_at rs q (by rw [HS.out.now.2.rts.len]; exact hql)
          have HKA : Hid (MnOk sb wr) := HM.out _ _ HJj.out
          have HG := Lib.hid (swapsOf_gives sb rA rm rc a q rs wr r r2 HR.out hr2 (by omega) HRC.out (HS.out.now.2.cap r2 (List.mem_of_getElem? hr2)) HKA.out (HSN.out.imp fun U h => h.2.rts))
          have HBL : Hid (Below wr.heap.size wr (((wr.alloc (.cells #[.slice rA rm rc] 29)).alloc (.cells #[.int .i64 (a : Int)] 3)).alloc (.cells #[.int .i64 (q : Int)] 3))) := below_more (below_more (below_alloc _ _) _) _
          clear hr2
          gi_wp2
          refine ⟨trivial, rfl, (callsIn_wide.2 (swapsOf_b rA rm rc a q wr)).mono ?_⟩
          rintro en w1 ⟨rfl, rfl⟩
          clear y0
          gi_wp2
          have HJ5 : Hid (J ((Bt.swp4 (ros rs) a).length + (Bt.swp3 (ros rs) a d).length) (((wr.alloc (.cells #[.slice rA rm rc] 29)).alloc (.cells #[.int .i64 (a : Int)] 3)).alloc (.cells #[.int .i64 (q : Int)] 3))) := own_below HJ.out HJj.out HBL.out
          have HK6 : Hid (KM sb V0 (((wr.alloc (.cells #[.slice rA rm rc] 29)).alloc (.cells #[.int .i64 (a : Int)] 3)).alloc (.cells #[.int .i64 (q : Int)] 3))) := HK2.out.trans (KM.below HKA.out HBL.out)
          have HM6 : Hid (Mks W.heap.size ds (((wr.alloc (.cells #[.slice rA rm rc] 29)).alloc (.cells #[.int .i64 (a : Int)] 3)).alloc (.cells #[.int .i64 (q : Int)] 3))) := HMK2.out.below HBL.out
          generalize ((wr.alloc (.cells #[.slice rA rm rc] 29)).alloc (.cells #[.int .i64 (a : Int)] 3)).alloc (.cells #[.int .i64 (q : Int)] 3) = w5 at *
          have HWS : Hid (W.heap.size ≤ w5.heap.size) := (HKV.out.trans HK6.out).size
          clear HJj HMK2 HBL HK2 HKA HSN
          refine range_up (sb := sb) (gf := 117) (lv := #[.pointer (some ⟨wr.heap.size, 0, none⟩), .pointer (some ⟨wr.heap.size + 1, 0, none⟩), .pointer (some ⟨wr.heap.size + 2, 0, none⟩)]) rfl (enters_of Tryz.func117 (by kernel_rfl) rfl) rv_own HG.out (KM.refl sb w5)
            (fun i U => J ((Bt.swp4 (ros rs) a).length + (Bt.swp3 (ros rs) a d).length + i) U ∧ Mks W.heap.size ds U) (fun c U => c = .ret ∧ Jx U ∧ Mks W.heap.size ds U)
            (fun j A B row h hg hr => ⟨(OwnFrom.up HJ.out HWS.out) _ A B row h.1 hg hr, (Mks.own W.heap.size w5.heap.size ds HM6.out.lt) () A B row h.2 hg hr⟩)
            (fun c _ A B row h hg hr => ⟨h.1, (OwnFrom.up HJX.out HWS.out) () A B row h.2.1 hg hr, (Mks.own W.heap.size w5.heap.size ds HM6.out.lt) () A B row h.2.2 hg hr⟩)
            (fun j U h => HM.out _ _ h.1) ⟨HJ5.out, HM6.out⟩ (fun v T => (T.setIfInBounds 26 v).setIfInBounds 5 v) ?assign ?body ?done ?stop
          case assign =>
            intro l v U K hK
            gi_wp2
            simpa using hK
          case body =>
            rintro l i y v U hx ⟨hJj, hmk⟩ hkm hv
            have HJj := Lib.hid hJj
            have HMK := Lib.hid hmk
            have HKM := Lib.hid hkm
            have x0 := ints_row ((HV.out.step (HK6.out.trans hkm)).now)
            have hat := HAT.out d i y (by have := HD.out; omega) (by rw [← HD.out]; exact hx)
            obtain ⟨fn, tmps, assign, body, hy, hR⟩ := HY.out _ y v U hat hJj (HKV.out.trans (HK6.out.trans hkm)) hv
            have HR3 := Lib.hid hR
            clear hJj hmk hkm hR hv hx hat
            gi_wp2
            refine ⟨rfl, (round_in l HR3.out).mono ?_⟩
            rintro en w4 (⟨rfl, hJ4, hk4⟩ | ⟨rfl, hJx, hkf⟩)
            · have HJ4 := Lib.hid hJ4
              have HK4 := Lib.hid hk4
              clear hJ4 hk4 hy
              gi_wp2
              exact ⟨HK4.out, HJ4.out, HMK.out.km (HM.out _ _ HJj.out) HK4.out⟩
            · have HJ4 := Lib.hid hJx
              have HK4 := Lib.hid hkf
              clear hJx hkf hy
              gi_wp2
              exact ⟨kf_up HK4.out HWS.out, rfl, HJ4.out, HMK.out.kf HK4.out⟩
          case done =>
            rintro D U hD ⟨hJj, hmk⟩ hkm hdf
            have HJj := Lib.hid hJj
            have HKM := Lib.hid (HK6.out.trans hkm)
            have HMK : Hid (Mks W.heap.size ({ target := .collected D, args := #[] } :: ds) U) := hmk.cons (Nat.le_trans HWS.out hD) (fun d hd D' e => Nat.lt_of_lt_of_le (HM6.out.lt d hd D' e) hD) hdf
            clear hJj hmk hkm hdf hD
            gi_wp2
            refine RoundEnd.mk (by kernel_rfl) (by simp only [rdL, List.getElem?_cons_succ, List.getElem?_cons_zero, Option.getD_some]; exact rfl) ?rel ?measure
            case rel => exact ⟨d + 1, q + 1, by have := HD.out; unfold Hid; omega, by omega, by omega, by first | rfl | go_num, by rw [HLN2.out, ← HD.out, ← Nat.add_assoc]; exact HJj.out, HKM.out, HMK.out⟩
            case measure => simp [intOf]; omega
          case stop =>
            rintro D c U hD ⟨rfl, hJx, hmk⟩ hdf
            have HJX2 := Lib.hid hJx
            have HMK : Hid (Mks W.heap.size ({ target := .collected D, args := #[] } :: ds) U) := hmk.cons (Nat.le_trans HWS.out hD) (fun d hd D' e => Nat.lt_of_lt_of_le (HM6.out.lt d hd D' e) hD) hdf
            clear hJx hmk hdf hD
            gi_wp2
            exact leaves_marks HJX.out (fun U2 h => ⟨_, results_none rfl _ _ _, ⟨_, rfl⟩, .inr h⟩) _ _ HMK.out HJX2.out
        · have d1 : decide ((q : Int) < (rm : Int)) = false := decide_eq_false (by omega)
          gi_wp2
          refine RoundEnd.mk (by kernel_rfl) (by simp only [rdL, List.getElem?_cons_succ, List.getElem?_cons_zero, Option.getD_some]; exact rfl) ?rel ?measure
          case measure => simp [intOf]; omega
          case rel => exact ⟨a + 1, by omega, by first | rfl | go_num, by rw [HLN.out d (by have := HD.out; omega)]; exact HJj.out, HK2.out, HMK2.out⟩
    · obtain rfl : a = rm := by omega
      gi_wp2
      refine leaves_marks (I := fun U => J (Bt.swp4 (ros rs) a).length U ∧ MnOk sb U ∧ KM sb W U) (fun s A B row h hg hr => ⟨HJ.out _ A B row h.1 hg hr, km_own sb W () A B row h.2 hg hr⟩) (fun U2 h => ⟨_, results_none rfl _ _ _, ⟨_, rfl⟩, .inl ⟨h.1, h.2.2⟩⟩) _ _ HMK.out ?_
      exact ⟨HJk.out, HM.out _ _ HJk.out, HKV.out.trans HK.out⟩
end Go.Proofs.YtgjmlnpfkmpfgaaGreat
