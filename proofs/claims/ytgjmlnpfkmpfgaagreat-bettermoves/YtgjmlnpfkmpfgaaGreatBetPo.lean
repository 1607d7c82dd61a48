/- Package better: the iterator that opens a route for an unserved order. -/
import Derived.Test.YtgjmlnpfkmpfgaaGreatBetPh
namespace Go.Proofs.YtgjmlnpfkmpfgaaGreat
open Go.RowKit Go.Shelf
set_option linter.unusedVariables false
set_option maxRecDepth 100000
attribute [local go_sem] Oper.semAt_some

theorem open1_at (ps : List Pl.Ro) (u : Int) {ids : List Int} {q : Nat} {t : Int} (ht : ids[q]? = some t) (hc : (Pl.trs ps).contains t = false) : (Bt.open1 ps u ids)[(Bt.open1 ps u (ids.take q)).length]? = some (ps ++ [⟨t, [u]⟩]) := by
  have e : Bt.open1 ps u ids = Bt.open1 ps u (ids.take (q + 1)) ++ Bt.open1 ps u (ids.drop (q + 1)) := by
    unfold Bt.open1
    rw [← List.map_append, ← List.filter_append, List.take_append_drop]
  have e2 := Bt.open1_take (p := ps) (u := u) ht
  rw [if_neg (by rw [hc]; simp)] at e2
  rw [e, e2, List.getElem?_append_left (by simp), List.getElem?_append_right (by omega)]
  simp

set_option maxHeartbeats 8000000 in
theorem opn1_b (sb bp bw : Nat) (p : Pd) (x : Wd) (w : World) (hs : Stay sb w fun U => Box U bp p.cells 32 ∧ PlS U p ∧ WX U bw x) :
    Gives sb Tryz.prog 69 #[.pointer (some ⟨bp, 0, none⟩), .pointer (some ⟨bw, 0, none⟩)] RV (Bt.open2 (ros p.rs) p.us (x.ts.map Ld.T.id)) w := by
  obtain ⟨rA, rm, rc, rs, uA, um, uc, us⟩ := p
  obtain ⟨N, dA, dm, dc, D, tA, tm, tc, T, oA, om, oc, os, kA, kk, kd, ts⟩ := x
  dsimp only at hs ⊢
  intro l0 J Jx W hW hJ hJx hM hY h0
  have HS := Lib.hid (hs.step hW)
  have HY := Lib.hid hY
  have HM := Lib.hid hM
  have HJ := Lib.hid hJ
  have H0 := Lib.hid h0
  have hm7 := HS.out.now.2.1.m7
  have hu2 := HS.out.now.2.1.u2
  have hk2 := HS.out.now.2.2.at_.k2
  dsimp only at hm7 hu2 hk2
  have x1 : W.cell? ⟨bp, 1, none⟩ = some (.slice uA um uc) := HS.out.now.1.cell 1 _ rfl
  have HIDS : Hid (∀ (q : Nat) (t : Ld.T), ts[q]? = some t → (ts.map Ld.T.id)[q]? = some t.id) := fun q t h => by rw [List.getElem?_map, h]; rfl
  clear hs hW hJ hJx hM hY h0
  refine callsIn_of_wp Tryz.func69 rfl trivial ?_ rfl
  simp only [Tryz.ntmps69, List.size_toArray, List.length_cons, List.length_nil, Nat.reduceAdd, Nat.reduceSub, Array.replicate_succ, Array.replicate_zero, List.push_toArray, List.append_toArray, List.nil_append, List.cons_append]
  gi_wp2
  clear x1
  gi_loopw [12] (fun s12 U => ∃ (k : Nat), k ≤ um ∧ s12 = .int .i64 (k : Int) ∧ Hid (J (Bt.open2 (ros rs) (us.take k) (ts.map Ld.T.id)).length U) ∧ Hid (KM sb W U)) (fun s12 U => um - (intOf s12).toNat)
  case atStart => exact ⟨0, by omega, rfl, H0.out, KM.refl _ _⟩
  case round =>
    obtain ⟨k, hk, rfl, HJk, HK⟩ := hrel
    clear H0
    by_cases hlt : k < um
    · obtain ⟨u, hu⟩ := mlist_at us k (by rw [HS.out.now.2.1.ul]; exact hlt)
      have hf := (HS.out.step HK.out).now
      obtain ⟨ua, hua, hcu⟩ := hf.2.1.us k u hu
      have y4 : wr.cell? ⟨bw, 4, none⟩ = some (.slice kA kk kd) := hf.2.2.c4
      have i2 : (k : Int) < (um : Int) := by omega
      have HU := Lib.hid hu
      have HUA := Lib.hid hua
      have HAT : Hid (∀ (q : Nat) (t : Ld.T), ts[q]? = some t → (Pl.trs (ros rs)).contains t.id = false → (Bt.open2 (ros rs) us (ts.map Ld.T.id))[(Bt.open2 (ros rs) (us.take k) (ts.map Ld.T.id)).length + (Bt.open1 (ros rs) u ((ts.map Ld.T.id).take q)).length]? = some (ros rs ++ [⟨t.id, [u]⟩])) := fun q t ht hc => by
        have h1 := open1_at (ros rs) u (HIDS.out q t ht) hc
        have := take_at (fun u => Bt.open1 (ros rs) u (ts.map Ld.T.id)) HU.out (j := (Bt.open1 (ros rs) u ((ts.map Ld.T.id).take q)).length) (List.getElem?_eq_some_iff.1 h1).1
        rw [h1] at this
        exact this
      have HLN : Hid ((Bt.open2 (ros rs) (us.take (k + 1)) (ts.map Ld.T.id)).length = (Bt.open2 (ros rs) (us.take k) (ts.map Ld.T.id)).length + (Bt.open1 (ros rs) u (ts.map Ld.T.id)).length) := by
        unfold Hid Bt.open2
        rw [Bt.flat_take _ HU.out, List.length_append]
      clear hf hu hua
      obtain rfl := HUA.out
      gi_wp2
      clear y4 hcu
      gi_loopw [19] (fun s19 U => ∃ (q : Nat), q ≤ kk ∧ s19 = .int .i64 (q : Int) ∧ Hid (J ((Bt.open2 (ros rs) (us.take k) (ts.map Ld.T.id)).length + (Bt.open1 (ros rs) u ((ts.map Ld.T.id).take q)).length) U) ∧ Hid (KM sb W U)) (fun s19 U => kk - (intOf s19).toNat)
      case atStart => exact ⟨0, by omega, rfl, by have := HJk.out; unfold Hid; simpa [Bt.open1] using this, HK.out⟩
      case round =>
        obtain ⟨q, hq, rfl, HJj, HKj⟩ := hrel
        clear HJk HK
        by_cases hql : q < kk
        · obtain ⟨t, ht⟩ := mlist_at ts q (by rw [HS.out.now.2.2.at_.kl]; exact hql)
          have HSN := Lib.hid (HS.out.step HKj.out).now
          obtain ⟨td, htd, ct⟩ := HSN.out.2.2.at_.ts.at_ ht
          have HT := Lib.hid ht
          have HTD := Lib.hid htd
          obtain ⟨c0, c1, c2, c3, c4, c5, c6⟩ := ct
          have i3 : (q : Int) < (kk : Int) := by omega
          have HKA : Hid (MnOk sb wr) := HM.out _ _ HJj.out
          have HB7 : Hid (Below wr.heap.size wr (wr.alloc (.cells #[.int .i64 t.id, .int .i64 t.weight, .int .i64 t.volume, .int .i64 t.start, .int .i64 t.fin, .int .i64 t.fixed, .int .i64 t.rate] 54))) := below_alloc _ _
          have y0 : (wr.alloc (.cells #[.int .i64 t.id, .int .i64 t.weight, .int .i64 t.volume, .int .i64 t.start, .int .i64 t.fin, .int .i64 t.fixed, .int .i64 t.rate] 54)).cell? ⟨wr.heap.size, 0, none⟩ = some (.int .i64 t.id) := (Box.new wr _ _).cell 0 _ rfl
          have HBX7 : Hid (Box (wr.alloc (.cells #[.int .i64 t.id, .int .i64 t.weight, .int .i64 t.volume, .int .i64 t.start, .int .i64 t.fin, .int .i64 t.fixed, .int .i64 t.rate] 54)) wr.heap.size #[.int .i64 t.id, .int .i64 t.weight, .int .i64 t.volume, .int .i64 t.start, .int .i64 t.fin, .int .i64 t.fixed, .int .i64 t.rate] 54) := Box.new wr _ _
          have p0 : (wr.alloc (.cells #[.int .i64 t.id, .int .i64 t.weight, .int .i64 t.volume, .int .i64 t.start, .int .i64 t.fin, .int .i64 t.fixed, .int .i64 t.rate] 54)).cell? ⟨bp, 0, none⟩ = some (.slice rA rm rc) := (HSN.out.1.below HB7.out).cell 0 _ rfl
          have p1 : (wr.alloc (.cells #[.int .i64 t.id, .int .i64 t.weight, .int .i64 t.volume, .int .i64 t.start, .int .i64 t.fin, .int .i64 t.fixed, .int .i64 t.rate] 54)).cell? ⟨bp, 1, none⟩ = some (.slice (some ua) um uc) := (HSN.out.1.below HB7.out).cell 1 _ rfl
          obtain ⟨bb, hbb⟩ : ∃ bb, (Pl.trs (ros rs)).contains t.id = bb := ⟨_, rfl⟩
          have HRU := Lib.hid (runs_b ⟨rA, rm, rc, rs, some ua, um, uc, us⟩ t.id _ bb hbb HSN.out.2.1.rts.len (by show rm ≤ 1000; omega) (HSN.out.2.1.rts.rows.below HB7.out))
          have HBB := Lib.hid hbb
          have e2 := Bt.open1_take (p := ros rs) (u := u) (HIDS.out q t ht)
          rw [hbb] at e2
          clear ht htd hbb
          obtain rfl := HTD.out
          gi_wp2
          refine ⟨trivial, rfl, (callsIn_wide.2 HRU.out).mono ?_⟩
          rintro en w1 ⟨rfl, hb1⟩
          have HB1 : Hid (Below wr.heap.size wr w1) := below_next HB7.out hb1.out
          have HJ1 : Hid (J ((Bt.open2 (ros rs) (us.take k) (ts.map Ld.T.id)).length + (Bt.open1 (ros rs) u ((ts.map Ld.T.id).take q)).length) w1) := own_below HJ.out HJj.out HB1.out
          have HK1 : Hid (KM sb W w1) := HKj.out.trans (KM.below HKA.out HB1.out)
          clear c0 c1 c2 c3 c4 c5 c6 y0 p0 p1 HRU
          cases bb with
          | true =>
            have HE : Hid (Bt.open1 (ros rs) u ((ts.map Ld.T.id).take (q + 1)) = Bt.open1 (ros rs) u ((ts.map Ld.T.id).take q)) := by unfold Hid; rw [e2, if_pos rfl]
            clear e2
            gi_wp2
            go_roundw
            case measure => simp [intOf]; omega
            case rel => exact ⟨q + 1, by omega, by first | rfl | go_num, by rw [HE.out]; exact HJ1.out, HK1.out⟩
          | false =>
            have HE : Hid ((Bt.open1 (ros rs) u ((ts.map Ld.T.id).take (q + 1))).length = (Bt.open1 (ros rs) u ((ts.map Ld.T.id).take q)).length + 1) := by rw [e2, if_neg (by simp), List.length_append]; rfl
            have z0 : w1.cell? ⟨wr.heap.size, 0, none⟩ = some (.int .i64 t.id) := (HBX7.out.below hb1.out).cell 0 _ rfl
            clear e2
            gi_wp2
            have HK1A : Hid (MnOk sb w1) := HKA.out.below HB1.out
            have HBL : Hid (Below w1.heap.size w1 ((w1.alloc (.cells #[.int .i64 u] 3)).alloc (.cells #[.int .i64 t.id, .slice (some ⟨w1.heap.size, 0, none⟩) 1 1] 49))) := below_more (below_alloc _ _) _
            have HBN : Hid (Box ((w1.alloc (.cells #[.int .i64 u] 3)).alloc (.cells #[.int .i64 t.id, .slice (some ⟨w1.heap.size, 0, none⟩) 1 1] 49)) w1.heap.size #[.int .i64 u] 3) := (Box.new w1 _ _).below (below_alloc _ _)
            have HBR : Hid (Box ((w1.alloc (.cells #[.int .i64 u] 3)).alloc (.cells #[.int .i64 t.id, .slice (some ⟨w1.heap.size, 0, none⟩) 1 1] 49)) (w1.heap.size + 1) #[.int .i64 t.id, .slice (some ⟨w1.heap.size, 0, none⟩) 1 1] 49) := by
              unfold Hid
              rw [size_one w1 (.cells #[.int .i64 u] 3)]
              exact Box.new (w1.alloc (.cells #[.int .i64 u] 3)) _ _
            have HJ8 := Lib.hid (own_below HJ.out HJ1.out HBL.out)
            have HK8 := Lib.hid (HK1.out.trans (KM.below HK1A.out HBL.out))
            clear z0
            generalize hV8 : (w1.alloc (.cells #[.int .i64 u] 3)).alloc (.cells #[.int .i64 t.id, .slice (some ⟨w1.heap.size, 0, none⟩) 1 1] 49) = V8 at *
            clear hV8 HBL HK1A HJ1 HK1
            generalize w1.heap.size + 1 = b8 at *
            generalize w1.heap.size = nb at *
            clear HJj HKj HKA HSN HB7 HBX7 HB1 hb1
            have HS8 := Lib.hid (HS.out.step HK8.out).now
            have p0 : V8.cell? ⟨bp, 0, none⟩ = some (.slice rA rm rc) := HS8.out.1.cell 0 _ rfl
            have r0 : V8.cell? ⟨b8, 0, none⟩ = some (.int .i64 t.id) := HBR.out.cell 0 _ rfl
            have r1 : V8.cell? ⟨b8, 1, none⟩ = some (.slice (some ⟨nb, 0, none⟩) 1 1) := HBR.out.cell 1 _ rfl
            have HSY : Hid (∀ U, Below V8.heap.size V8 U → U.cell? ⟨bp, 0, none⟩ = some (.slice rA rm rc) ∧ U.cell? ⟨b8, 0, none⟩ = some (.int .i64 t.id) ∧ U.cell? ⟨b8, 1, none⟩ = some (.slice (some ⟨nb, 0, none⟩) 1 1) ∧ Below V8.heap.size V8 U) := fun U hU =>
              ⟨(HS8.out.1.below hU).cell 0 _ rfl, (HBR.out.below hU).cell 0 _ rfl, (HBR.out.below hU).cell 1 _ rfl, hU⟩
            have HBd : Hid (Below V8.heap.size V8 V8.drew) := ⟨rfl, rfl, rfl, Nat.le_refl _, fun _ _ => rfl⟩
            have HBA : Hid (Below V8.heap.size V8 (V8.alloc (.cells #[.int .i64 t.id, .slice (some ⟨nb, 0, none⟩) 1 1] 49)).drew) := (below_alloc V8 (.cells #[.int .i64 t.id, .slice (some ⟨nb, 0, none⟩) 1 1] 49)).drew
            have HCL : Hid (∀ U, Below V8.heap.size V8 U → Calls Tryz.prog 39 #[.slice rA rm rc] U fun e w' => ∃ A' c', e = .returned (.slice A' rm c') ∧ Hid (OwnQ w' U.heap.size (.slice A' rm c') rs ∧ Below U.heap.size U w' ∧ Below V8.heap.size V8 w')) := fun U hU =>
              (clone_r rA rm rc rs U HS8.out.2.1.rts.len (by omega) (HS8.out.2.1.rts.rows.below hU)).mono fun e w' hp => by
                obtain ⟨A', c', e1, h1⟩ := hp
                exact ⟨A', c', e1, h1.out.1, h1.out.2, below_next hU h1.out.2⟩
            have HAP : Hid (∀ (U : World) (R : Option Addr) (qc base ab : Nat), V8.heap.size ≤ base → base ≤ U.heap.size → Below V8.heap.size V8 U → OwnQ U base (.slice R rm qc) rs → Box U ab #[.int .i64 t.id, .slice (some ⟨nb, 0, none⟩) 1 1] 49 →
                ∃ v' w', (Builtin.append_ #[29, 29] 29 #[.slice R rm qc, .slice (some ⟨ab, 0, none⟩) 1 1]).run Tryz.prog U = .ok v' w' ∧ ∃ A' c', v' = .slice A' (rm + 1) c' ∧ Hid (Below V8.heap.size V8 w') ∧ Hid (KM sb V8 w') ∧ Hid (YieldAt Fence.wide 0 Tryz.prog l0 #[.slice A' (rm + 1) c'] w' fun e W' =>
                  (e = .returned (.bool true) ∧ J ((Bt.open2 (ros rs) (us.take k) (ts.map Ld.T.id)).length + (Bt.open1 (ros rs) u ((ts.map Ld.T.id).take q)).length + 1) W' ∧ KM sb w' W') ∨ (e = .returned (.bool false) ∧ Jx W' ∧ KeepsFrom W.heap.size w' W'))) := fun U R qc base ab h1 h2 hU ho hbx => by
              have hrow : RowsR U (some ⟨ab, 0, none⟩) [⟨t.id, some ⟨nb, 0, none⟩, 1, 1, [u]⟩] := fun k s hk => by
                have hk0 : k = 0 := by have := (List.getElem?_eq_some_iff.1 hk).1; simp at this; exact this
                subst hk0
                obtain rfl : (⟨t.id, some ⟨nb, 0, none⟩, 1, 1, [u]⟩ : Rd) = s := by simpa using hk
                refine ⟨_, rfl, ?_, ?_⟩
                · rw [add_flat]; exact hbx.cell 0 _ rfl
                · rw [add_flat]; exact hbx.cell 1 _ rfl
              obtain ⟨v', w', h3, A', c', e, h4⟩ := ownq_app ho h2 (some ⟨ab, 0, none⟩) 1 1 [⟨t.id, some ⟨nb, 0, none⟩, 1, 1, [u]⟩] rfl hrow (by rw [ho.len.1]; omega) (rm + 1) (by rw [List.length_append, ho.len.1]; rfl)
              have hb : Below V8.heap.size V8 w' := hU.trans (h4.out.2.mono h1)
              have hkm := KM.below (HM.out _ _ HJ8.out) hb
              have hrt : RtsAt 30 w' A' (rm + 1) (rs ++ [⟨t.id, some ⟨nb, 0, none⟩, 1, 1, [u]⟩]) := ⟨by rw [List.length_append, ho.len.1]; rfl, by omega, h4.out.1.len.2.2.1, fun s hs => by
                rcases List.mem_append.1 hs with h | h
                · have := HS8.out.2.1.rts.ra s h
                  exact ⟨this.1.below hb, by omega⟩
                · obtain rfl := List.mem_singleton.1 h
                  exact ⟨⟨rfl, by show 1 ≤ 1000; omega, box_ints (HBN.out.below hb) (by simp)⟩, by show 1 ≤ 30; omega⟩⟩
              have hy := HY.out _ _ (.slice A' (rm + 1) c') w' (HAT.out q t HT.out HBB.out) (own_below HJ.out HJ8.out hb) (HK8.out.trans hkm) ⟨A', rm + 1, c', _, rfl, hrt, by unfold ros; rw [List.map_append]; rfl⟩
              exact ⟨v', w', h3, A', c', e, hb, hkm, hy⟩
            clear HS8
            refine region_tail (by first | exact .inl rfl | exact .inr ⟨_, rfl⟩) 7 (by kernel_rfl) (by kernel_rfl) ?_
            simp only [List.take_succ_cons, List.take_zero, List.drop_succ_cons, List.drop_zero]
            refine head_start (S := (fun U : World => U.cell? ⟨bp, 0, none⟩ = some (.slice rA rm rc) ∧ U.cell? ⟨b8, 0, none⟩ = some (.int .i64 t.id) ∧ U.cell? ⟨b8, 1, none⟩ = some (.slice (some ⟨nb, 0, none⟩) 1 1) ∧ Below V8.heap.size V8 U)) (by (try dsimp only); (first | exact HSY.out _ HBd.out | exact HSY.out _ HBA.out | exact HSY.out _ hb2 | exact HSY.out _ (below_next hb2 (below_alloc _ _)) | exact HSY.out _ HF.out | assumption)) (fun hHeld => ?_)
            refine wpAnyH_take (i := 0) (v := ?_) (by simp only [List.getElem?_toArray, List.getElem?_cons_zero]; exact rfl) (by kernel_rfl) (by kernel_rfl) (by kernel_rfl) (fun _ _ _ h => h) (Or.inl ⟨by rfl, ?_⟩) (by assumption) ?_
            rotate_left
            · intro w hSw; (try dsimp only at hSw); go_simp <;> with_reducible rfl
            try simp only [Act.put, List.setIfInBounds_toArray, List.set_cons_zero, List.set_cons_succ]
            refine wpAnyH_take (i := 1) (v := ?_) (by simp only [List.getElem?_toArray, List.getElem?_cons_succ, List.getElem?_cons_zero]; exact rfl) (by kernel_rfl) (by kernel_rfl) (by kernel_rfl) (fun _ _ _ h => h) (Or.inl ⟨by rfl, ?_⟩) (by assumption) ?_
            rotate_left
            · intro w hSw; (try dsimp only at hSw); go_simp <;> with_reducible rfl
            try simp only [Act.put, List.setIfInBounds_toArray, List.set_cons_zero, List.set_cons_succ]
            refine wpAnyH_take (i := 2) (v := ?_) (by simp only [List.getElem?_toArray, List.getElem?_cons_succ, List.getElem?_cons_zero]; exact rfl) (by kernel_rfl) (by kernel_rfl) (by kernel_rfl) (fun _ _ _ h => h) (Or.inl ⟨by rfl, ?_⟩) (by assumption) ?_
            rotate_left
            · intro w hSw; (try dsimp only at hSw); go_simp <;> with_reducible rfl
            try simp only [Act.put, List.setIfInBounds_toArray, List.set_cons_zero, List.set_cons_succ]
            refine wpAnyH_take (i := 4) (v := ?_) (by simp only [List.getElem?_toArray, List.getElem?_cons_succ, List.getElem?_cons_zero]; exact rfl) (by kernel_rfl) (by kernel_rfl) (by kernel_rfl) (fun _ _ _ h => h) (Or.inl ⟨by rfl, ?_⟩) (by assumption) ?_
            rotate_left
            · intro w hSw; (try dsimp only at hSw); go_simp <;> with_reducible rfl
            try simp only [Act.put, List.setIfInBounds_toArray, List.set_cons_zero, List.set_cons_succ]
            refine wpAnyH_ready (rs := [3, 5]) (by kernel_rfl) (by simp) ?_
            refine AllReadyH.cons (by simp only [List.getElem?_toArray, List.getElem?_cons_succ, List.getElem?_cons_zero]; exact rfl) (fun K hK => ?_) (AllReadyH.cons (by simp only [List.getElem?_toArray, List.getElem?_cons_succ, List.getElem?_cons_zero]; exact rfl) (fun K hK => ?_) AllReadyH.nil)
            go_simp
            go_at_call 39
            with_reducible refine (HCL.out V8.drew HBd.out).mono ?_
            rintro e w5 ⟨R, qc, rfl, h5⟩
            have hb2 := h5.out.2.2
            have HAP1 := Lib.hid (HAP.out (w5.alloc (.cells #[.int .i64 t.id, .slice (some ⟨nb, 0, none⟩) 1 1] 49)) R qc V8.heap.size w5.heap.size (Nat.le_refl _) (by have := hb2.size; simp; omega) (below_next hb2 (below_alloc _ _)) (h5.out.1.below (below_alloc _ _)) (Box.new _ _ _))
            go_wp2_with fail
            clear hHeld
            refine hK.out _ _ ?_ (fun hHeld => ?_)
            · (try dsimp only); (first | exact HSY.out _ HBd.out | exact HSY.out _ HBA.out | exact HSY.out _ hb2 | exact HSY.out _ (below_next hb2 (below_alloc _ _)) | exact HSY.out _ HF.out | assumption)
            clear hK K
            try simp only [Act.put, List.setIfInBounds_toArray, List.set_cons_zero, List.set_cons_succ]
            refine wpAnyH_ready (rs := [5]) (by kernel_rfl) (by simp) ?_
            refine AllReadyH.cons (by simp only [List.getElem?_toArray, List.getElem?_cons_succ, List.getElem?_cons_zero]; exact rfl) (fun K hK => ?_) AllReadyH.nil
            go_simp
            clear hHeld
            refine hK.out _ _ ?_ (fun hHeld => ?_)
            · (try dsimp only); (first | exact HSY.out _ HBd.out | exact HSY.out _ HBA.out | exact HSY.out _ hb2 | exact HSY.out _ (below_next hb2 (below_alloc _ _)) | exact HSY.out _ HF.out | assumption)
            clear hK K
            try simp only [Act.put, List.setIfInBounds_toArray, List.set_cons_zero, List.set_cons_succ]
            refine wpAnyH_ready (rs := [6]) (by kernel_rfl) (by simp) ?_
            refine AllReadyH.cons (by simp only [List.getElem?_toArray, List.getElem?_cons_succ, List.getElem?_cons_zero]; exact rfl) (fun K hK => ?_) AllReadyH.nil
            refine step_append_w (w5.alloc (.cells #[.int .i64 t.id, .slice (some ⟨nb, 0, none⟩) 1 1] 49)) (by with_reducible rfl) (by rfl) (.tmp 35) (.tmp 37) 29 29 29 (by rfl) (by rfl) (.slice R rm qc) (.slice (some ⟨w5.heap.size, 0, none⟩) 1 1) (by rfl) (by rfl) _ HAP1.out ?_
            rintro v2 w6 ⟨A6, c6, rfl, HF, HK6, HY6⟩
            clear hHeld
            refine hK.out _ _ ?_ (fun hHeld => ?_)
            · (try dsimp only); (first | exact HSY.out _ HBd.out | exact HSY.out _ HBA.out | exact HSY.out _ hb2 | exact HSY.out _ (below_next hb2 (below_alloc _ _)) | exact HSY.out _ HF.out | assumption)
            clear hK K
            try simp only [Act.put, List.setIfInBounds_toArray, List.set_cons_zero, List.set_cons_succ]
            refine wpAnyH_done (by kernel_rfl) ?_ _
            rotate_left
            go_simp
            clear hHeld
            refine hK.out _ _ ?_ (fun hHeld => ?_)
            · (try dsimp only); (first | exact HSY.out _ HBd.out | exact HSY.out _ HBA.out | exact HSY.out _ hb2 | exact HSY.out _ (below_next hb2 (below_alloc _ _)) | exact HSY.out _ HF.out | assumption)
            clear hK K
            try simp only [Act.put, List.setIfInBounds_toArray, List.set_cons_zero, List.set_cons_succ]
            refine wpAnyH_ready (rs := [3]) (by kernel_rfl) (by simp) ?_
            refine AllReadyH.cons (by simp only [List.getElem?_toArray, List.getElem?_cons_succ, List.getElem?_cons_zero]; exact rfl) (fun K hK => ?_) AllReadyH.nil
            go_simp
            go_at_call 39
            with_reducible refine (HCL.out _ HBA.out).mono ?_
            rintro e w5 ⟨R, qc, rfl, h5⟩
            have hb2 := h5.out.2.2
            have HAP2 := Lib.hid (HAP.out w5 R qc (V8.alloc (.cells #[.int .i64 t.id, .slice (some ⟨nb, 0, none⟩) 1 1] 49)).drew.heap.size V8.heap.size HBA.out.size h5.out.2.1.size hb2 h5.out.1 ((show Box (V8.alloc (.cells #[.int .i64 t.id, .slice (some ⟨nb, 0, none⟩) 1 1] 49)).drew V8.heap.size _ _ from Box.new V8 _ _).below h5.out.2.1))
            go_wp2_with fail
            clear hHeld
            refine hK.out _ _ ?_ (fun hHeld => ?_)
            · (try dsimp only); (first | exact HSY.out _ HBd.out | exact HSY.out _ HBA.out | exact HSY.out _ hb2 | exact HSY.out _ (below_next hb2 (below_alloc _ _)) | exact HSY.out _ HF.out | assumption)
            clear hK K
            try simp only [Act.put, List.setIfInBounds_toArray, List.set_cons_zero, List.set_cons_succ]
            refine wpAnyH_ready (rs := [6]) (by kernel_rfl) (by simp) ?_
            refine AllReadyH.cons (by simp only [List.getElem?_toArray, List.getElem?_cons_succ, List.getElem?_cons_zero]; exact rfl) (fun K hK => ?_) AllReadyH.nil
            refine step_append_w w5 (by with_reducible rfl) (by rfl) (.tmp 35) (.tmp 37) 29 29 29 (by rfl) (by rfl) (.slice R rm qc) (.slice (some ⟨V8.heap.size, 0, none⟩) 1 1) (by rfl) (by rfl) _ HAP2.out ?_
            rintro v2 w6 ⟨A6, c6, rfl, HF, HK6, HY6⟩
            clear hHeld
            refine hK.out _ _ ?_ (fun hHeld => ?_)
            · (try dsimp only); (first | exact HSY.out _ HBd.out | exact HSY.out _ HBA.out | exact HSY.out _ hb2 | exact HSY.out _ (below_next hb2 (below_alloc _ _)) | exact HSY.out _ HF.out | assumption)
            clear hK K
            try simp only [Act.put, List.setIfInBounds_toArray, List.set_cons_zero, List.set_cons_succ]
            refine wpAnyH_done (by kernel_rfl) ?_ _
            all_goals
              simp only [HeadQ]
              obtain ⟨fn, tmps, assign, body, hy, hR⟩ := HY6.out
              have HR4 := Lib.hid hR
              clear hR HY6 p0 r0 r1
              gi_wp2
              refine ⟨rfl, HR4.out.mono ?_⟩
              rintro en w7 (⟨rfl, hJ4, hk4⟩ | ⟨rfl, hJx, hkf⟩)
              · have HJ9 := Lib.hid hJ4
                have HK9 := Lib.hid (HK8.out.trans (HK6.out.trans hk4))
                clear hJ4 hk4 HR4 hy
                gi_wp2
                go_roundw
                case rel => exact ⟨q + 1, by omega, by first | rfl | go_num, by rw [HE.out, ← Nat.add_assoc]; exact HJ9.out, HK9.out⟩
                case measure => simp [intOf]; omega
              · have HJX := Lib.hid hJx
                clear hJx hkf HR4 hy
                gi_wp2
                refine bodyPost_ret (results_none rfl _ _ _) rfl ?_
                exact ⟨⟨_, rfl⟩, .inr HJX.out⟩
        · obtain rfl : q = kk := by omega
          have HTK : Hid ((ts.map Ld.T.id).take q = ts.map Ld.T.id) := List.take_of_length_le (by rw [List.length_map, HS.out.now.2.2.at_.kl]; exact Nat.le_refl _)
          gi_wp2
          go_roundw
          case measure => simp [intOf]; omega
          case rel => exact ⟨k + 1, by omega, by first | rfl | go_num, by rw [HLN.out, ← HTK.out]; have := HJj.out; rw [HTK.out] at this ⊢; exact this, HKj.out⟩
    · obtain rfl : k = um := by omega
      have HTK : Hid (us.take k = us) := List.take_of_length_le (by rw [HS.out.now.2.1.ul]; exact Nat.le_refl _)
      gi_wp2
      go_end0
      exact ⟨⟨_, rfl⟩, .inl ⟨by have := HJk.out; rw [HTK.out] at this; exact this, HK.out⟩⟩
end Go.Proofs.YtgjmlnpfkmpfgaaGreat
