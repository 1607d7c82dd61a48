/- Package better: the iterator of the moves of a stop. -/
import Derived.Test.YtgjmlnpfkmpfgaaGreatBetPc
namespace Go.Proofs.YtgjmlnpfkmpfgaaGreat
open Go.RowKit Go.Shelf
set_option linter.unusedVariables false
set_option maxRecDepth 100000
attribute [local go_sem] Oper.semAt_some

theorem blk_add (ad : Addr) (k : Nat) : (ad.add k).block = ad.block := by unfold Addr.add; split <;> rfl
theorem fresh_not {sb : Nat} {w W : World} (hk : MnOk sb w) (hb : Below w.heap.size w W) {i : Nat} (hi : w.heap.size ≤ i) : ¬ Mn sb W i := fun hm => hk.new hi ((Mn.congr (hb.block sb (hk.lt (.inl rfl)))).1 hm)
theorem ownI_some {W : World} {base n c : Nat} {A : Option Addr} {l : List Int} (h : OwnI W base (.slice A n c) l) (hn : 0 < n) : ∃ g, A = some ⟨g, 0, none⟩ := by
  rcases h.2 with ⟨e, _⟩ | ⟨g, cap, cur, e, _⟩
  · injection e with _ e2 _; omega
  · injection e with e1 _ _; exact ⟨g, e1⟩
theorem stay_rows {sb : Nat} {w W : World} {base m c : Nat} {A : Option Addr} {l : List Rd} (hk : MnOk sb w) (hb : Below w.heap.size w W) (hbase : w.heap.size ≤ base) (h : OwnQ W base (.slice A m c) l) : Stay sb W fun U => RowsR U A l := fun U hU k r hr => by
  obtain ⟨ad, e, h1, h2⟩ := h.len.2.2.1 k r hr
  obtain ⟨h3, h4, _, _⟩ := h.len.2.2.2 ad e
  have hn := fresh_not hk hb (i := ad.block) (Nat.le_trans hbase h3)
  exact ⟨ad, e, hU.cell (by rw [blk_add]; exact hn) h1, hU.cell (p := ⟨(ad.add (k * 2)).block, (ad.add (k * 2)).off + 1, none⟩) (by show ¬ Mn sb W (ad.add (k * 2)).block; rw [blk_add]; exact hn) h2⟩
theorem stay_ints {sb : Nat} {w W : World} {base n c : Nat} {A : Option Addr} {l : List Int} (hk : MnOk sb w) (hb : Below w.heap.size w W) (hbase : w.heap.size ≤ base) (h : OwnI W base (.slice A n c) l) : Stay sb W fun U => IntsAt U A l := fun U hU k z hz => by
  obtain ⟨ad, e, h1⟩ := h.len.2.2 k z hz
  have h3 := (h.lt ad.block (by rw [e]; rfl)).1
  exact ⟨ad, e, hU.cell (by rw [blk_add]; exact fresh_not hk hb (Nat.le_trans hbase h3)) h1⟩
theorem stay_changed {sb S m k c sc base base2 : Nat} {w W : World} {A A' sA : Option Addr} {l : List Rd} {t : Int} {sm : Nat} {st : List Int} (hk : MnOk sb w) (hb : Below w.heap.size w W) (hl : Stay sb W fun U => RtsAt S U A m l) (hbase : w.heap.size ≤ base) (hq : OwnQ W base (.slice A' m c) (l.set k ⟨t, sA, sm, sc, st⟩))
    (hbase2 : w.heap.size ≤ base2) (ho : OwnI W base2 (.slice sA sm sc) st) (hsm : sm ≤ S) (hS : S ≤ 1000) : Stay sb W fun U => RtsAt S U A' m (l.set k ⟨t, sA, sm, sc, st⟩) := fun U hU => by
  have h := hl U hU
  refine ⟨by rw [List.length_set]; exact h.len, h.mx, stay_rows hk hb hbase hq U hU, fun s hs => ?_⟩
  rcases List.mem_or_eq_of_mem_set hs with hs | rfl
  · exact h.ra s hs
  · exact ⟨⟨ho.len.1, Nat.le_trans hsm hS, stay_ints hk hb hbase2 ho U hU⟩, hsm⟩
theorem mov2_ins (p : List Pl.Ro) (i f m : Nat) : Bt.mov2 p i f m = Bt.ins2 (Bt.setSt p i (Bt.out (Bt.stAt p i) f)) ((Bt.stAt p i).getD f 0) m := rfl

set_option maxHeartbeats 8000000 in
theorem mov1_b (sb b : Nat) (p : Pd) (w : World) (hs : Stay sb w fun U => Box U b p.cells 32 ∧ PlS U p) :
    Gives sb Tryz.prog 71 #[.pointer (some ⟨b, 0, none⟩)] RV (Bt.mov4 (ros p.rs) p.rm) w := by
  obtain ⟨rA, rm, rc, rs, uA, um, uc, us⟩ := p
  dsimp only at hs ⊢
  intro l0 J Jx W hW hJ hJx hM hY h0
  have HS := Lib.hid (hs.step hW)
  have HY := Lib.hid hY
  have HM := Lib.hid hM
  have HJ := Lib.hid hJ
  have HJX := Lib.hid hJx
  have hm7 := HS.out.now.2.m7
  have HV : Hid (Stay sb (W.alloc (.cells #[.func (.yield l0) #[] #[]] 106)) fun U => Box U W.heap.size #[.func (.yield l0) #[] #[]] 106) := stay_new (hM 0 W h0) _ _
  have HKV : Hid (KM sb W (W.alloc (.cells #[.func (.yield l0) #[] #[]] 106))) := KM.below (hM 0 W h0) (below_alloc _ _)
  have H0 : Hid (J 0 (W.alloc (.cells #[.func (.yield l0) #[] #[]] 106))) := own_below hJ h0 (below_alloc _ _)
  have x1 : (W.alloc (.cells #[.func (.yield l0) #[] #[]] 106)).cell? ⟨b, 0, none⟩ = some (.slice rA rm rc) := (HS.out.step HKV.out).now.1.cell 0 _ rfl
  clear hs hW hJ hJx hM hY h0
  refine callsIn_of_wp_marks Tryz.func71 rfl trivial ?_ rfl
  simp only [Tryz.ntmps71, List.size_toArray, List.length_cons, List.length_nil, Nat.reduceAdd, Nat.reduceSub, Array.replicate_succ, Array.replicate_zero, List.push_toArray, List.append_toArray, List.nil_append, List.cons_append]
  gi_wp2
  clear x1
  generalize hV0 : W.alloc (.cells #[.func (.yield l0) #[] #[]] 106) = V0 at *
  clear hV0
  refine wpIn_loop_fr 12 [3, 4, 5, 6, 7, 8, 13, 14, 15, 16, 17, 18, 19, 20, 21, 22, 23, 24, 25, 26, 27, 28, 29, 30, 31, 32, 33, 34, 35, 36, 37, 38, 40, 41, 42, 43, 44, 45] (fun s12 ds U => ∃ (k : Nat), k ≤ rm ∧ s12 = .int .i64 (k : Int) ∧ Hid (J (Bt.mov4 (ros rs) k).length U) ∧ Hid (KM sb V0 U) ∧ Hid (Mks W.heap.size ds U)) (fun s12 => rm - (intOf s12).toNat) rfl (by kernel_rfl) ?atStart ?round
  case atStart => exact ⟨0, by omega, rfl, H0.out, KM.refl _ _, Mks.nil _ _⟩
  case round =>
    intro s12 u3 u4 u5 u6 u7 u8 u13 u14 u15 u16 u17 u18 u19 u20 u21 u22 u23 u24 u25 u26 u27 u28 u29 u30 u31 u32 u33 u34 u35 u36 u37 u38 u40 u41 u42 u43 u44 u45 ds wr hrel
    conv => arg 6; simp only [fillL, List.set_cons_succ, List.set_cons_zero]
    obtain ⟨k, hk, rfl, HJk, HK, HMK⟩ := hrel
    clear H0
    by_cases hlt : k < rm
    · obtain ⟨r, hr⟩ := mlist_at rs k (by rw [HS.out.now.2.rts.len]; exact hlt)
      have hf := (HS.out.step (HKV.out.trans HK.out)).now
      obtain ⟨ra, hra, c0, c1⟩ := hf.2.rts.rows k r hr
      obtain ⟨hrat, hsm⟩ := hf.2.rts.ra r (List.mem_of_getElem? hr)
      have i2 : (k : Int) < (rm : Int) := by omega
      have HR := Lib.hid hr
      have HRL : Hid (r.st.length = r.sm) := hrat.sl
      have HPA := Lib.hid hra
      have HKA : Hid (MnOk sb wr) := HM.out _ _ HJk.out
      have HX5 : Hid (Stay sb (wr.alloc (.cells #[.int .i64 r.tr, .slice r.sA r.sm r.sc] 49)) fun U => Box U wr.heap.size #[.int .i64 r.tr, .slice r.sA r.sm r.sc] 49) := stay_new HKA.out _ _
      have y1 := HX5.out.now.cell 1 _ rfl
      have HBL : Hid (Below wr.heap.size wr (wr.alloc (.cells #[.int .i64 r.tr, .slice r.sA r.sm r.sc] 49))) := below_alloc _ _
      have HK5 : Hid (KM sb V0 (wr.alloc (.cells #[.int .i64 r.tr, .slice r.sA r.sm r.sc] 49))) := HK.out.trans (KM.below HKA.out HBL.out)
      have HJ5 : Hid (J (Bt.mov4 (ros rs) k).length (wr.alloc (.cells #[.int .i64 r.tr, .slice r.sA r.sm r.sc] 49))) := own_below HJ.out HJk.out HBL.out
      have HM5 : Hid (Mks W.heap.size ds (wr.alloc (.cells #[.int .i64 r.tr, .slice r.sA r.sm r.sc] 49))) := HMK.out.below HBL.out
      have hst : Bt.stAt (ros rs) k = r.st := Bt.stAt_at (ros_at hr)
      have HLM : Hid ((ros rs).length = rm) := by rw [ros_len]; exact HS.out.now.2.rts.len
      have HAT : Hid (∀ (j i : Nat) (x : List Pl.Ro), j < r.sm → (Bt.ins2 (Bt.setSt (ros rs) k (Bt.out r.st j)) (r.st.getD j 0) rm)[i]? = some x → (Bt.mov4 (ros rs) rm)[(Bt.mov4 (ros rs) k).length + (Bt.mov3 (ros rs) k j).length + i]? = some x) := fun j i x hj hx => by
        have e1 : (Bt.mov3 (ros rs) k r.sm)[(Bt.mov3 (ros rs) k j).length + i]? = some x := by
          have := flat_at (fun f => Bt.mov2 (ros rs) k f (ros rs).length) hj (j := i) (by rw [mov2_ins, hst, HLM.out]; exact (List.getElem?_eq_some_iff.1 hx).1)
          unfold Bt.mov3
          rw [this, mov2_ins, hst, HLM.out, hx]
        have := flat_at (fun i => Bt.mov3 (ros rs) i (Bt.stAt (ros rs) i).length) hlt (j := (Bt.mov3 (ros rs) k j).length + i) (by rw [hst, HRL.out]; exact (List.getElem?_eq_some_iff.1 e1).1)
        rw [hst, HRL.out, e1] at this
        rw [Nat.add_assoc]
        exact this
      have HLN : Hid ((Bt.mov4 (ros rs) (k + 1)).length = (Bt.mov4 (ros rs) k).length + (Bt.mov3 (ros rs) k r.sm).length) := by
        unfold Hid
        conv => lhs; unfold Bt.mov4
        rw [Bt.flat_range, List.length_append, hst, HRL.out]; rfl
      have HLN2 : Hid (∀ j, (Bt.mov3 (ros rs) k (j + 1)).length = (Bt.mov3 (ros rs) k j).length + (Bt.ins2 (Bt.setSt (ros rs) k (Bt.out r.st j)) (r.st.getD j 0) rm).length) := fun j => by
        unfold Bt.mov3
        rw [Bt.flat_range, List.length_append, mov2_ins, hst, HLM.out]
      clear hf hr hrat hst hra
      obtain rfl := HPA.out
      gi_wp2
      clear c0 c1 y1
      generalize hV : wr.alloc (.cells #[.int .i64 r.tr, .slice r.sA r.sm r.sc] 49) = V at *
      clear hV
      generalize hb5 : wr.heap.size = b5 at *
      clear hb5 HJk HK HKA HBL HMK
      refine wpIn_loop_fr 20 [5, 6, 7, 8, 21, 22, 23, 24, 25, 26, 27, 28, 29, 30, 31, 32, 33, 34, 35, 36, 37, 38, 40, 41, 42, 43, 44] (fun s20 ds U => ∃ (j : Nat), j ≤ r.sm ∧ s20 = .int .i64 (j : Int) ∧ Hid (J ((Bt.mov4 (ros rs) k).length + (Bt.mov3 (ros rs) k j).length) U) ∧ Hid (KM sb V U) ∧ Hid (Mks W.heap.size ds U)) (fun s20 => r.sm - (intOf s20).toNat) rfl (by kernel_rfl) ?atStart ?round
      case atStart => exact ⟨0, by omega, rfl, HJ5.out, KM.refl _ _, HM5.out⟩
      case round =>
        intro s20 u5 u6 u7 u8 u21 u22 u23 u24 u25 u26 u27 u28 u29 u30 u31 u32 u33 u34 u35 u36 u37 u38 u40 u41 u42 u43 u44 ds wr hrel
        conv => arg 6; simp only [fillL, List.set_cons_succ, List.set_cons_zero]
        obtain ⟨j, hj, rfl, HJj, HKV2, HMK⟩ := hrel
        clear HJ5 HM5
        by_cases hjl : j < r.sm
        · have HSN := Lib.hid (HS.out.step (HKV.out.trans (HK5.out.trans HKV2.out)))
          have HB1 := Lib.hid HSN.out.now.1
          have HRN := Lib.hid HSN.out.now.2.rts
          have HB5 := Lib.hid (HX5.out.step HKV2.out).now
          have HRA : Hid (RAt wr r) := (HRN.out.ra r (List.mem_of_getElem? HR.out)).1
          obtain ⟨x, hx⟩ := mlist_at r.st j (by rw [HRL.out]; exact hjl)
          have HXG : Hid (r.st.getD j 0 = x) := by unfold Hid; rw [List.getD_eq_getElem?_getD, hx]; rfl
          obtain ⟨sa, hsa, hcx⟩ := HRA.out.st j x hx
          have HSA := Lib.hid hsa
          have y1 := HB5.out.cell 1 _ rfl
          have i3 : (j : Int) < (r.sm : Int) := by omega
          have wr1 : IntKind.i64.wrap ((j : Int) + 1) = (j : Int) + 1 := IntWalk.i64_in _ (by omega)
          have HKA : Hid (MnOk sb wr) := HM.out _ _ HJj.out
          have HIS : Hid (IntsAt wr r.sA r.st) := HRA.out.st
          clear hsa hx
          generalize r.sA = sA at *
          obtain rfl := HSA.out
          have HCL := Lib.hid (clone_i (some sa) r.sm r.sc r.st wr HRL.out (by omega) HIS.out)
          gi_wp2
          refine ⟨trivial, rfl, (callsIn_wide.2 HCL.out).mono ?_⟩
          rintro en w1 ⟨A1, c1, rfl, h1⟩
          obtain ⟨g, rfl⟩ := ownI_some h1.out.1 (by omega)
          have HDE := Lib.hid (deli_b g r.sm c1 j r.st w1 wr.heap.size HRL.out (by omega) hjl h1.out.1)
          have HB1w := Lib.hid h1.out.2
          clear HCL h1 y1 hcx
          gi_wp2
          refine ⟨trivial, rfl, (callsIn_wide.2 HDE.out).mono ?_⟩
          rintro en w2 ⟨rfl, h2⟩
          have HOW : Hid (OwnI w2 wr.heap.size (.slice (some ⟨g, 0, none⟩) (r.sm - 1) c1) (Bt.out r.st j)) := by
            have := h2.out.1
            rw [List.eraseIdx_eq_take_drop_succ] at this
            exact this
          have HB2w : Hid (Below wr.heap.size wr w2) := HB1w.out.trans h2.out.2
          have HJ2 : Hid (J ((Bt.mov4 (ros rs) k).length + (Bt.mov3 (ros rs) k j).length) w2) := own_below HJ.out HJj.out HB2w.out
          have HK2 : Hid (KM sb wr w2) := KM.below HKA.out HB2w.out
          have HM2 : Hid (Mks W.heap.size ds w2) := HMK.out.below HB2w.out
          have HS2 := Lib.hid (HSN.out.step HK2.out)
          have q0 : w2.cell? ⟨b, 0, none⟩ = some (.slice (some ra) rm rc) := HS2.out.now.1.cell 0 _ rfl
          have HCH := Lib.hid (changed_b (some ra) rm rc k rs r (some ⟨g, 0, none⟩) (r.sm - 1) c1 (Bt.out r.st j) w2 HRN.out.len (by omega) HS2.out.now.2.rts.rows HR.out)
          clear h2 HDE HB1w
          gi_wp2
          refine ⟨trivial, rfl, (callsIn_wide.2 HCH.out).mono ?_⟩
          rintro en w3 ⟨A3, c3, rfl, h3⟩
          have HB3w : Hid (Below wr.heap.size wr w3) := below_next HB2w.out h3.out.2
          have HKM3 : Hid (KM sb wr w3) := KM.below HKA.out HB3w.out
          have HK3A : Hid (MnOk sb w3) := HKA.out.below HB3w.out
          have HST3 : Hid (Stay sb w3 fun U => RtsAt 14 U A3 rm (rs.set k ⟨r.tr, some ⟨g, 0, none⟩, r.sm - 1, c1, Bt.out r.st j⟩)) :=
            stay_changed HKA.out HB3w.out ((HSN.out.step HKM3.out).imp fun U h => h.2.rts) HB2w.out.size h3.out.1 (Nat.le_refl _) (HOW.out.below h3.out.2) (by omega) (by omega)
          have HG := Lib.hid (puts_gives sb A3 rm c3 _ x w3 HK3A.out HST3.out)
          have HBL : Hid (Below w3.heap.size w3 ((w3.alloc (.cells #[.slice A3 rm c3] 29)).alloc (.cells #[.int .i64 x] 3))) := below_more (below_alloc _ _) _
          have HJ3 : Hid (J ((Bt.mov4 (ros rs) k).length + (Bt.mov3 (ros rs) k j).length) ((w3.alloc (.cells #[.slice A3 rm c3] 29)).alloc (.cells #[.int .i64 x] 3))) := own_below HJ.out (own_below HJ.out HJj.out HB3w.out) HBL.out
          have HK6 : Hid (KM sb V ((w3.alloc (.cells #[.slice A3 rm c3] 29)).alloc (.cells #[.int .i64 x] 3))) := HKV2.out.trans (HKM3.out.trans (KM.below HK3A.out HBL.out))
          have HM6 : Hid (Mks W.heap.size ds ((w3.alloc (.cells #[.slice A3 rm c3] 29)).alloc (.cells #[.int .i64 x] 3))) := (HMK.out.below HB3w.out).below HBL.out
          rw [ros_set HR.out] at HG
          clear HCH h3 q0 HS2 HM2 HK2 HJ2 HOW HB2w
          gi_wp2
          refine ⟨trivial, rfl, (callsIn_wide.2 (puts_b A3 rm c3 x w3)).mono ?_⟩
          rintro en w4 ⟨rfl, rfl⟩
          gi_wp2
          generalize (w3.alloc (.cells #[.slice A3 rm c3] 29)).alloc (.cells #[.int .i64 x] 3) = w5 at *
          have HWS : Hid (W.heap.size ≤ w5.heap.size) := (HKV.out.trans (HK5.out.trans HK6.out)).size
          clear HBL HKM3 HK3A HST3 HB3w HJj HMK HKV2 HB1 HB5 HSN HRN
          refine range_up (sb := sb) (gf := 113) (lv := #[.pointer (some ⟨w3.heap.size, 0, none⟩), .pointer (some ⟨w3.heap.size + 1, 0, none⟩)]) rfl (enters_of Tryz.func113 (by kernel_rfl) rfl) rv_own HG.out (KM.refl sb w5)
            (fun i U => J ((Bt.mov4 (ros rs) k).length + (Bt.mov3 (ros rs) k j).length + i) U ∧ Mks W.heap.size ds U) (fun c U => c = .ret ∧ Jx U ∧ Mks W.heap.size ds U)
            (fun j A B row h hg hr => ⟨(OwnFrom.up HJ.out HWS.out) _ A B row h.1 hg hr, (Mks.own W.heap.size w5.heap.size ds HM6.out.lt) () A B row h.2 hg hr⟩)
            (fun c _ A B row h hg hr => ⟨h.1, (OwnFrom.up HJX.out HWS.out) () A B row h.2.1 hg hr, (Mks.own W.heap.size w5.heap.size ds HM6.out.lt) () A B row h.2.2 hg hr⟩)
            (fun j U h => HM.out _ _ h.1) ⟨HJ3.out, HM6.out⟩ (fun v T => (T.setIfInBounds 39 v).setIfInBounds 8 v) ?assign ?body ?done ?stop
          case assign =>
            intro l v U K hK
            gi_wp2
            simpa using hK
          case body =>
            rintro l i y v U hx ⟨hJj, hmk⟩ hkm hv
            have HJj := Lib.hid hJj
            have HMK := Lib.hid hmk
            have HKM := Lib.hid hkm
            have x0 := ints_row ((HV.out.step (HK5.out.trans (HK6.out.trans hkm))).now)
            obtain ⟨fn, tmps, assign, body, hy, hR⟩ := HY.out _ y v U (HAT.out j i y hjl (by rw [HXG.out]; exact hx)) hJj (HKV.out.trans (HK5.out.trans (HK6.out.trans hkm))) hv
            have HR3 := Lib.hid hR
            clear hJj hmk hkm hR hv hx
            gi_wp2
            refine ⟨rfl, (round_in l HR3.out).mono ?_⟩
            rintro en w4 (⟨rfl, hJ4, hk4⟩ | ⟨rfl, hJx, hkf⟩)
            · have HJ4 := Lib.hid hJ4
              have HK4 := Lib.hid hk4
              clear hJ4 hk4 hy
              gi_wp2
              exact ⟨HK4.out, HJ4.out, HMK.out.km (HM.out _ _ HJj.out) HK4.out⟩
            · have HJ4 := Lib.hid hJx
              have HK4 := Lib.hid hkf
              clear hJx hkf hy
              gi_wp2
              exact ⟨kf_up HK4.out HWS.out, rfl, HJ4.out, HMK.out.kf HK4.out⟩
          case done =>
            rintro D U hD ⟨hJj, hmk⟩ hkm hdf
            have HJj := Lib.hid hJj
            have HKM := Lib.hid (HK6.out.trans hkm)
            have HMK : Hid (Mks W.heap.size ({ target := .collected D, args := #[] } :: ds) U) := hmk.cons (Nat.le_trans HWS.out hD) (fun d hd D' e => Nat.lt_of_lt_of_le (HM6.out.lt d hd D' e) hD) hdf
            clear hJj hmk hkm hdf hD
            gi_wp2
            refine RoundEnd.mk (by kernel_rfl) (by simp only [rdL, List.getElem?_cons_succ, List.getElem?_cons_zero, Option.getD_some]; exact rfl) ?rel ?measure
            case rel => exact ⟨j + 1, by omega, by first | rfl | go_num, by rw [HLN2.out, HXG.out, ← Nat.add_assoc]; exact HJj.out, HKM.out, HMK.out⟩
            case measure => simp [intOf]; omega
          case stop =>
            rintro D c U hD ⟨rfl, hJx, hmk⟩ hdf
            have HJX2 := Lib.hid hJx
            have HMK : Hid (Mks W.heap.size ({ target := .collected D, args := #[] } :: ds) U) := hmk.cons (Nat.le_trans HWS.out hD) (fun d hd D' e => Nat.lt_of_lt_of_le (HM6.out.lt d hd D' e) hD) hdf
            clear hJx hmk hdf hD
            gi_wp2
            exact leaves_marks HJX.out (fun U2 h => ⟨_, results_none rfl _ _ _, ⟨_, rfl⟩, .inr h⟩) _ _ HMK.out HJX2.out
        · obtain rfl : j = r.sm := by omega
          gi_wp2
          refine RoundEnd.mk (by kernel_rfl) (by simp only [rdL, List.getElem?_cons_succ, List.getElem?_cons_zero, Option.getD_some]; exact rfl) ?rel ?measure
          case measure => simp [intOf]; omega
          case rel => exact ⟨k + 1, by omega, by first | rfl | go_num, by rw [HLN.out]; exact HJj.out, HK5.out.trans HKV2.out, HMK.out⟩
    · obtain rfl : k = rm := by omega
      gi_wp2
      refine leaves_marks (I := fun U => J (Bt.mov4 (ros rs) k).length U ∧ MnOk sb U ∧ KM sb W U) (fun s A B row h hg hr => ⟨HJ.out _ A B row h.1 hg hr, km_own sb W () A B row h.2 hg hr⟩) (fun U2 h => ⟨_, results_none rfl _ _ _, ⟨_, rfl⟩, .inl ⟨h.1, h.2.2⟩⟩) _ _ HMK.out ?_
      exact ⟨HJk.out, HM.out _ _ HJk.out, HKV.out.trans HK.out⟩
end Go.Proofs.YtgjmlnpfkmpfgaaGreat
