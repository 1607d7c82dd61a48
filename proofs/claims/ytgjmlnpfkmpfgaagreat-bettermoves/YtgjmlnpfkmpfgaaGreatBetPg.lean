/- Package better: the iterator of the swaps of two routes' last stops. -/
import Derived.Test.YtgjmlnpfkmpfgaaGreatBetPf
namespace Go.Proofs.YtgjmlnpfkmpfgaaGreat
open Go.RowKit Go.Shelf
set_option linter.unusedVariables false
set_option maxRecDepth 100000
attribute [local go_sem] Oper.semAt_some

theorem back_piece (A : Option Addr) (n c k : Nat) (hnc : n ≤ c) (hk : k ≤ n) : ∃ A' q c', q = n - k ∧
    (∀ W : World, (Instr.slice 30 (.slice A n c) (some (.int .i64 (k : Int))) none none).run Tryz.prog W = .ok (.slice A' q c') W) ∧ ∀ (W : World) (l : List Int), IntsAt W A l → l.length = n → IntsAt W A' (l.drop k) := by
  refine ⟨if c = k then A else A.map (·.add k), n - k, c - k, rfl, fun W => ?_, fun W l h hl => ?_⟩
  · rw [run_slice_l W 30 A n c (by kernel_rfl) .i64 _ (by omega) (by omega), sizeInts2 W]
    simp [sliced, Result.andThen]
  · intro j z hz
    rw [List.getElem?_drop] at hz
    have hlt := (List.getElem?_eq_some_iff.1 hz).1
    rw [if_neg (by omega)]
    obtain ⟨ad, rfl, hc⟩ := h (k + j) z hz
    exact ⟨ad.add k, rfl, by rw [add_plus]; exact hc⟩
theorem front_piece (A : Option Addr) (n c k : Nat) (hnc : n ≤ c) (hk : k ≤ n) :
    ∀ W : World, (Instr.slice 30 (.slice A n c) none (some (.int .i64 (k : Int))) none).run Tryz.prog W = .ok (.slice A k c) W := by
  intro W
  rw [run_slice_h W 30 A n c (by kernel_rfl) .i64 _ (by omega) (by omega), sizeInts2 W]
  simp [sliced, Result.andThen]
  intro _
  cases A <;> rfl
theorem ints_front {W : World} {A : Option Addr} {l : List Int} (h : IntsAt W A l) (k : Nat) : IntsAt W A (l.take k) := by
  intro j z hz
  refine h j z ?_
  by_cases hj : j < k
  · rwa [List.getElem?_take_of_lt hj] at hz
  · rw [List.getElem?_eq_none (by rw [List.length_take]; omega)] at hz; cases hz

set_option maxHeartbeats 8000000 in
theorem swp1_b (sb b1 b2 b3 : Nat) (A : Option Addr) (m c a b : Nat) (l : List Rd) (w : World) (r1 r2 : Rd) (h1 : l[a]? = some r1) (h2 : l[b]? = some r2) (hab : a ≠ b) (hc1 : r1.sm ≤ r1.sc) (hc2 : r2.sm ≤ r2.sc)
    (hs : Stay sb w fun U => Box U b1 #[.slice A m c] 29 ∧ Box U b2 #[.int .i64 (a : Int)] 3 ∧ Box U b3 #[.int .i64 (b : Int)] 3 ∧ RtsAt 14 U A m l) :
    Gives sb Tryz.prog 117 #[.pointer (some ⟨b1, 0, none⟩), .pointer (some ⟨b2, 0, none⟩), .pointer (some ⟨b3, 0, none⟩)] RV (Bt.swp2 (ros l) a b (r1.sm + 1)) w := by
  intro l0 J Jx W hW hJ hJx hM hY h0
  have HS := Lib.hid (hs.step hW)
  have HY := Lib.hid hY
  have HM := Lib.hid hM
  have HJ := Lib.hid hJ
  have H0 := Lib.hid h0
  have hm10 := HS.out.now.2.2.2.mx
  have HR1 := Lib.hid h1
  have HR2 := Lib.hid h2
  have HAB := Lib.hid hab
  obtain ⟨ad, rfl, c0, k1⟩ := HS.out.now.2.2.2.rows a r1 h1
  obtain ⟨ad', e, c1, k2⟩ := HS.out.now.2.2.2.rows b r2 h2
  obtain rfl := Option.some.inj e
  obtain ⟨ha1, hs1⟩ := HS.out.now.2.2.2.ra r1 (List.mem_of_getElem? h1)
  obtain ⟨ha2, hs2⟩ := HS.out.now.2.2.2.ra r2 (List.mem_of_getElem? h2)
  have HL1 : Hid (r1.st.length = r1.sm) := ha1.sl
  have HL2 : Hid (r2.st.length = r2.sm) := ha2.sl
  have x0 := ints_row HS.out.now.1
  have x1 := ints_row HS.out.now.2.1
  have x2 := ints_row HS.out.now.2.2.1
  have i0 : (0 : Int) ≤ (a : Int) := by omega
  have i1 : (a : Int) < (m : Int) := by have := (List.getElem?_eq_some_iff.1 h1).1; have := HS.out.now.2.2.2.len; omega
  have i2 : (0 : Int) ≤ (b : Int) := by omega
  have i3 : (b : Int) < (m : Int) := by have := (List.getElem?_eq_some_iff.1 h2).1; have := HS.out.now.2.2.2.len; omega
  have wr1 : IntKind.i64.wrap ((r1.sm : Int) + 1) = (r1.sm : Int) + 1 := IntWalk.i64_in _ (by omega)
  have wr2 : IntKind.i64.wrap ((r2.sm : Int) + 1) = (r2.sm : Int) + 1 := IntWalk.i64_in _ (by omega)
  have HB0 : Hid (∀ q, Below W.heap.size W (W.drewN q)) := fun q => ⟨rfl, rfl, rfl, Nat.le_refl _, fun _ _ => rfl⟩
  clear hs hW hJ hJx hM hY h0 h1 h2 hab ha1 ha2 e
  refine callsIn_of_wp Tryz.func117 rfl trivial ?_ rfl
  simp only [Tryz.ntmps117, List.size_toArray, List.length_cons, List.length_nil, Nat.reduceAdd, Nat.reduceSub, Array.replicate_succ, Array.replicate_zero, List.push_toArray, List.append_toArray, List.nil_append, List.cons_append]
  gi_wp2
  refine wpIn_wide.2 ?_
  go_quiet (fail)
  gi_wp2
  clear c0 c1 k1 k2 x0 x1 x2
  gi_loopw [23] (fun s23 U => ∃ (i : Nat), i ≤ r1.sm + 1 ∧ s23 = .int .i64 (i : Int) ∧ Hid (J (Bt.swp2 (ros l) a b i).length U) ∧ Hid (KM sb W U)) (fun s23 U => r1.sm + 1 - (intOf s23).toNat)
  case atStart => exact ⟨0, by omega, rfl, own_below HJ.out H0.out (HB0.out _), KM.below (HM.out _ _ H0.out) (HB0.out _)⟩
  case round =>
    obtain ⟨i, hi, rfl, HJi, HK⟩ := hrel
    clear H0
    have hst1 : Bt.stAt (ros l) a = r1.st := Bt.stAt_at (ros_at HR1.out)
    have hst2 : Bt.stAt (ros l) b = r2.st := Bt.stAt_at (ros_at HR2.out)
    have HLN : Hid ((Bt.swp2 (ros l) a b (i + 1)).length = (Bt.swp2 (ros l) a b i).length + (r2.sm + 1)) := by
      unfold Hid Bt.swp2
      rw [Bt.flat_range, List.length_append, Bt.swp1_len, hst2, HL2.out]
    have HAT : Hid (∀ j, i < r1.sm + 1 → j < r2.sm + 1 → (Bt.swp2 (ros l) a b (r1.sm + 1))[(Bt.swp2 (ros l) a b i).length + j]? = some (Bt.setSt (Bt.setSt (ros l) a (r1.st.take i ++ r2.st.drop j)) b (r2.st.take j ++ r1.st.drop i))) := fun j hi hj => by
      have := flat_at (fun i => Bt.swp1 (ros l) a b i ((Bt.stAt (ros l) b).length + 1)) (m := r1.sm + 1) hi (j := j) (by rw [Bt.swp1_len, hst2, HL2.out]; exact hj)
      unfold Bt.swp2
      rw [this]
      unfold Bt.swp1
      rw [List.getElem?_map, hst2, HL2.out, List.getElem?_range (by omega), hst1]; rfl
    clear hst1 hst2
    by_cases hil : i < r1.sm + 1
    · have d1 : decide ((i : Int) < (r1.sm : Int) + 1) = true := decide_eq_true (by omega)
      gi_wp2
      gi_loopw [29] (fun s29 U => ∃ (j : Nat), j ≤ r2.sm + 1 ∧ s29 = .int .i64 (j : Int) ∧ Hid (J ((Bt.swp2 (ros l) a b i).length + j) U) ∧ Hid (KM sb W U)) (fun s29 U => r2.sm + 1 - (intOf s29).toNat)
      case atStart => exact ⟨0, by omega, rfl, HJi.out, HK.out⟩
      case round =>
        obtain ⟨j, hj, rfl, HJj, HKj⟩ := hrel
        clear HJi HK
        by_cases hjl : j < r2.sm + 1
        · have d2 : decide ((j : Int) < (r2.sm : Int) + 1) = true := decide_eq_true (by omega)
          have HSN := Lib.hid (HS.out.step HKj.out).now
          have HKA : Hid (MnOk sb wr) := HM.out _ _ HJj.out
          obtain ⟨A1, q1, e1c, hq1, sl1, hp1⟩ := back_piece r1.sA r1.sm r1.sc i hc1 (by omega)
          obtain ⟨A2, q2, e2c, hq2, sl2, hp2⟩ := back_piece r2.sA r2.sm r2.sc j hc2 (by omega)
          have sf1 := front_piece r1.sA r1.sm r1.sc i hc1 (by omega)
          have sf2 := front_piece r2.sA r2.sm r2.sc j hc2 (by omega)
          have HI1 : Hid (IntsAt wr r1.sA r1.st) := (HSN.out.2.2.2.ra r1 (List.mem_of_getElem? HR1.out)).1.st
          have HI2 : Hid (IntsAt wr r2.sA r2.st) := (HSN.out.2.2.2.ra r2 (List.mem_of_getElem? HR2.out)).1.st
          have HT1 : Hid ((r1.st.take i).length = i ∧ (r1.st.drop i).length = q1) := ⟨by rw [List.length_take, HL1.out]; omega, by rw [List.length_drop, HL1.out]; omega⟩
          have HT2 : Hid ((r2.st.take j).length = j ∧ (r2.st.drop j).length = q2) := ⟨by rw [List.length_take, HL2.out]; omega, by rw [List.length_drop, HL2.out]; omega⟩
          have hq1b : q1 ≤ 14 := by omega
          have hq2b : q2 ≤ 14 := by omega
          have HP1 := Lib.hid (hp1 wr r1.st HI1.out HL1.out)
          have HP2 := Lib.hid (hp2 wr r2.st HI2.out HL2.out)
          clear hq1 hq2 hp1 hp2
          have z1 := ints_row HSN.out.1
          have z2 := ints_row HSN.out.2.1
          have HSY : Hid (∀ U, Below wr.heap.size wr U → U.cell? ⟨b1, 0, none⟩ = some (.slice (some ad) m c) ∧ U.cell? ⟨b2, 0, none⟩ = some (.int .i64 (a : Int)) ∧ Below wr.heap.size wr U) := fun U hU =>
            ⟨ints_row (HSN.out.1.below hU), ints_row (HSN.out.2.1.below hU), hU⟩
          have HBd : Hid (Below wr.heap.size wr wr.drew) := ⟨rfl, rfl, rfl, Nat.le_refl _, fun _ _ => rfl⟩
          have HBA : Hid (Below wr.heap.size wr (wr.alloc (.cells #[.slice r1.sA i r1.sc, .slice A2 q2 e2c] 30)).drew) := (below_alloc wr (.cells #[.slice r1.sA i r1.sc, .slice A2 q2 e2c] 30)).drew
          have HCO : Hid (Calls Tryz.prog 118 #[.slice (some ⟨wr.heap.size, 0, none⟩) 2 2] (wr.alloc (.cells #[.slice r1.sA i r1.sc, .slice A2 q2 e2c] 30)).drew fun e w' => ∃ A c', e = .returned (.slice A (i + q2) c') ∧ Hid (OwnI w' wr.heap.size (.slice A (i + q2) c') (r1.st.take i ++ r2.st.drop j) ∧ Below wr.heap.size wr w')) := by
            have hbx : Box (wr.alloc (.cells #[.slice r1.sA i r1.sc, .slice A2 q2 e2c] 30)).drew wr.heap.size #[.slice r1.sA i r1.sc, .slice A2 q2 e2c] 30 := Box.new wr _ _
            refine (concat_b ⟨wr.heap.size, 0, none⟩ 2 r1.sA i r1.sc (r1.st.take i) A2 q2 e2c (r2.st.drop j) _ (hbx.cell 0 _ rfl) (hbx.cell 1 _ rfl) ⟨HT1.out.1, (ints_front HI1.out i).below HBA.out⟩ ⟨HT2.out.2, HP2.out.below HBA.out⟩ (by omega) (by omega)).mono ?_
            rintro e w' ⟨A', c', e1, h1⟩
            exact ⟨A', c', e1, h1.out.1.mono HBA.out.size, below_next HBA.out h1.out.2⟩
          have HCH : Hid (∀ (U : World) (X : Option Addr) (xc : Nat), OwnI U wr.heap.size (.slice X (i + q2) xc) (r1.st.take i ++ r2.st.drop j) → Below wr.heap.size wr U → Calls Tryz.prog 73 #[.slice (some ad) m c, .int .i64 (a : Int), .slice X (i + q2) xc] U fun e w' => ∃ A' c', e = .returned (.slice A' m c') ∧ Hid (∃ l', l' = l.set a ⟨r1.tr, X, i + q2, xc, r1.st.take i ++ r2.st.drop j⟩ ∧ OwnQ w' wr.heap.size (.slice A' m c') l' ∧ RAt w' ⟨r1.tr, X, i + q2, xc, r1.st.take i ++ r2.st.drop j⟩ ∧ Below wr.heap.size wr w')) := fun U X xc ho hU =>
            (changed_b (some ad) m c a l r1 X (i + q2) xc (r1.st.take i ++ r2.st.drop j) U HSN.out.2.2.2.len (by omega) (HSN.out.2.2.2.rows.below hU) HR1.out).mono fun e w' hp => by
              obtain ⟨A', c', e1, h1⟩ := hp
              exact ⟨A', c', e1, _, rfl, h1.out.1.mono hU.size, (rat_own ho (by omega) r1.tr).below h1.out.2, below_next hU h1.out.2⟩
          gi_wp2
          refine wpIn_wide.2 ?_
          go_cut [9] (fun s9 Wc => ∃ (A3 X : Option Addr) (c3 xc : Nat) (V3 : World) (l' : List Rd), V3 = Wc ∧ s9 = .slice A3 m c3 ∧ Hid (l' = l.set a ⟨r1.tr, X, i + q2, xc, r1.st.take i ++ r2.st.drop j⟩) ∧ Hid (OwnQ V3 wr.heap.size (.slice A3 m c3) l' ∧ RAt V3 ⟨r1.tr, X, i + q2, xc, r1.st.take i ++ r2.st.drop j⟩ ∧ Below wr.heap.size wr V3))
          case first => as_aux_lemma =>
            go_region_held3 (fun U : World => U.cell? ⟨b1, 0, none⟩ = some (.slice (some ad) m c) ∧ U.cell? ⟨b2, 0, none⟩ = some (.int .i64 (a : Int)) ∧ Below wr.heap.size wr U) (first | exact HSY.out _ HBd.out | exact HSY.out _ HBA.out | exact HSY.out _ hb2 | exact HSY.out _ HF.out.2.2.2 | exact HSY.out _ hb3 | assumption) (first
              | (go_at_call 118; with_reducible refine HCO.out.mono ?_; rintro e w2 ⟨X, xc, rfl, h2⟩
                 have hb2 := h2.out.2
                 have HC2 := Lib.hid (HCH.out w2 X xc h2.out.1 hb2))
              | (go_at_call 73; with_reducible refine HC2.out.mono ?_; rintro e w3 ⟨A3, c3, rfl, HF⟩
                 have hb3 : Below wr.heap.size wr w3 := by obtain ⟨_, _, _, _, h⟩ := HF.out; exact h))
            all_goals
              go_wp2
              go_meet
              case rel =>
                obtain ⟨l', e, h⟩ := HF.out
                exact ⟨A3, X, c3, xc, _, l', rfl, rfl, e, h⟩
          case rest =>
            obtain ⟨A3, X, c3, xc, V3, l', rfl, rfl, HLE, HF⟩ := hcut
            have hne : a ≠ b := HAB.out
            have HLB : Hid (l'[b]? = some r2) := by unfold Hid; rw [HLE.out, List.getElem?_set_ne hne]; exact HR2.out
            have hll : l'.length = m := by rw [HLE.out, List.length_set]; exact HSN.out.2.2.2.len
            have HB3 := Lib.hid HF.out.2.2
            have HJ3 : Hid (J ((Bt.swp2 (ros l) a b i).length + j) V3) := own_below HJ.out HJj.out HB3.out
            have HK3 : Hid (KM sb W V3) := HKj.out.trans (KM.below HKA.out HB3.out)
            have HS3 := Lib.hid (HS.out.step HK3.out).now
            have z3 := ints_row HS3.out.2.2.1
            have HSZ : Hid (∀ U, Below V3.heap.size V3 U → U.cell? ⟨b3, 0, none⟩ = some (.int .i64 (b : Int)) ∧ Below V3.heap.size V3 U) := fun U hU => ⟨ints_row (HS3.out.2.2.1.below hU), hU⟩
            have HBe : Hid (Below V3.heap.size V3 V3.drew) := ⟨rfl, rfl, rfl, Nat.le_refl _, fun _ _ => rfl⟩
            have HBB : Hid (Below V3.heap.size V3 (V3.alloc (.cells #[.slice r2.sA j r2.sc, .slice A1 q1 e1c] 30)).drew) := (below_alloc V3 (.cells #[.slice r2.sA j r2.sc, .slice A1 q1 e1c] 30)).drew
            have HCO2 : Hid (Calls Tryz.prog 118 #[.slice (some ⟨V3.heap.size, 0, none⟩) 2 2] (V3.alloc (.cells #[.slice r2.sA j r2.sc, .slice A1 q1 e1c] 30)).drew fun e w' => ∃ A c', e = .returned (.slice A (j + q1) c') ∧ Hid (OwnI w' V3.heap.size (.slice A (j + q1) c') (r2.st.take j ++ r1.st.drop i) ∧ Below V3.heap.size V3 w')) := by
              have hbx : Box (V3.alloc (.cells #[.slice r2.sA j r2.sc, .slice A1 q1 e1c] 30)).drew V3.heap.size #[.slice r2.sA j r2.sc, .slice A1 q1 e1c] 30 := Box.new V3 _ _
              refine (concat_b ⟨V3.heap.size, 0, none⟩ 2 r2.sA j r2.sc (r2.st.take j) A1 q1 e1c (r1.st.drop i) _ (hbx.cell 0 _ rfl) (hbx.cell 1 _ rfl) ⟨HT2.out.1, ((ints_front HI2.out j).below HB3.out).below HBB.out⟩ ⟨HT1.out.2, (HP1.out.below HB3.out).below HBB.out⟩ (by omega) (by omega)).mono ?_
              rintro e w' ⟨A', c', e1, h1⟩
              exact ⟨A', c', e1, h1.out.1.mono HBB.out.size, below_next HBB.out h1.out.2⟩
            have HCH2 : Hid (∀ (U : World) (Y : Option Addr) (yc : Nat), OwnI U V3.heap.size (.slice Y (j + q1) yc) (r2.st.take j ++ r1.st.drop i) → Below V3.heap.size V3 U → Calls Tryz.prog 73 #[.slice A3 m c3, .int .i64 (b : Int), .slice Y (j + q1) yc] U fun e w' => ∃ A' c', e = .returned (.slice A' m c') ∧ Hid (Below V3.heap.size V3 w' ∧ KM sb V3 w') ∧ Hid (YieldAt Fence.wide 0 Tryz.prog l0 #[.slice A' m c'] w' fun e W' => (e = .returned (.bool true) ∧ J ((Bt.swp2 (ros l) a b i).length + j + 1) W' ∧ KM sb w' W') ∨ (e = .returned (.bool false) ∧ Jx W' ∧ KeepsFrom W.heap.size w' W'))) := fun U Y yc ho hU =>
              (changed_b A3 m c3 b l' r2 Y (j + q1) yc (r2.st.take j ++ r1.st.drop i) U hll (by omega) (HF.out.1.len.2.2.1.below hU) HLB.out).mono fun e w' hp => by
                obtain ⟨A', c', e1, h1⟩ := hp
                have hb := below_next hU h1.out.2
                have hk := HM.out _ _ HJ3.out
                have hrt : RtsAt 30 w' A' m (l'.set b ⟨r2.tr, Y, j + q1, yc, r2.st.take j ++ r1.st.drop i⟩) := ⟨by rw [List.length_set]; exact hll, hm10, h1.out.1.len.2.2.1, fun s hs => by
                  rcases List.mem_or_eq_of_mem_set hs with h | rfl
                  · rw [HLE.out] at h
                    rcases List.mem_or_eq_of_mem_set h with h | rfl
                    · have := HS3.out.2.2.2.ra s h
                      exact ⟨this.1.below hb, by omega⟩
                    · exact ⟨HF.out.2.1.below hb, by show i + q2 ≤ 30; omega⟩
                  · exact ⟨(rat_own ho (by omega) r2.tr).below h1.out.2, by show j + q1 ≤ 30; omega⟩⟩
                have hro : ros (l'.set b ⟨r2.tr, Y, j + q1, yc, r2.st.take j ++ r1.st.drop i⟩) = Bt.setSt (Bt.setSt (ros l) a (r1.st.take i ++ r2.st.drop j)) b (r2.st.take j ++ r1.st.drop i) := by
                  rw [ros_set HLB.out, HLE.out, ros_set HR1.out]
                have hy := HY.out _ _ (.slice A' m c') w' (HAT.out j hil hjl) (own_below HJ.out HJ3.out hb) (HK3.out.trans (KM.below hk hb)) ⟨A', m, c', _, rfl, hrt, hro⟩
                exact ⟨A', c', e1, ⟨hb, KM.below hk hb⟩, hy⟩
            clear HSY HBd HBA HCO HCH z1 z2 HJj HKj HKA HSN
            gi_wp2
            refine region_tail (by first | exact .inl rfl | exact .inr ⟨_, rfl⟩) 12 (by kernel_rfl) (by kernel_rfl) ?_
            simp only [List.take_succ_cons, List.take_zero, List.drop_succ_cons, List.drop_zero]
            refine head_start (S := (fun U : World => U.cell? ⟨b3, 0, none⟩ = some (.int .i64 (b : Int)) ∧ Below V3.heap.size V3 U)) (by (try dsimp only); (first | exact HSZ.out _ HBe.out | exact HSZ.out _ HBB.out | exact HSZ.out _ hb2 | exact HSZ.out _ HK4.out.1 | assumption)) (fun hHeld => ?_)
            refine wpAnyH_take (i := 0) (v := ?_) (by simp only [List.getElem?_toArray, List.getElem?_cons_zero]; exact rfl) (by kernel_rfl) (by kernel_rfl) (by kernel_rfl) (fun _ _ _ h => h) (Or.inl ⟨by rfl, ?_⟩) (by assumption) ?_
            rotate_left
            · intro w hSw; (try dsimp only at hSw); go_simp <;> with_reducible rfl
            try simp only [Act.put, List.setIfInBounds_toArray, List.set_cons_zero, List.set_cons_succ]
            refine wpAnyH_take (i := 1) (v := ?_) (by simp only [List.getElem?_toArray, List.getElem?_cons_succ, List.getElem?_cons_zero]; exact rfl) (by kernel_rfl) (by kernel_rfl) (by kernel_rfl) (fun _ _ _ h => h) (Or.inl ⟨by rfl, ?_⟩) (by assumption) ?_
            rotate_left
            · intro w hSw; (try dsimp only at hSw); go_simp <;> with_reducible rfl
            try simp only [Act.put, List.setIfInBounds_toArray, List.set_cons_zero, List.set_cons_succ]
            refine wpAnyH_take (i := 2) (v := ?_) (by simp only [List.getElem?_toArray, List.getElem?_cons_succ, List.getElem?_cons_zero]; exact rfl) (by kernel_rfl) (by kernel_rfl) (by kernel_rfl) (fun _ _ _ h => h) (Or.inl ⟨by rfl, ?_⟩) (by assumption) ?_
            rotate_left
            · intro w hSw; (try dsimp only at hSw); go_simp <;> with_reducible rfl
            try simp only [Act.put, List.setIfInBounds_toArray, List.set_cons_zero, List.set_cons_succ]
            refine wpAnyH_take (i := 3) (v := ?_) (by simp only [List.getElem?_toArray, List.getElem?_cons_succ, List.getElem?_cons_zero]; exact rfl) (by kernel_rfl) (by kernel_rfl) (by kernel_rfl) (fun _ _ _ h => h) (Or.inl ⟨by rfl, ?_⟩) (by assumption) ?_
            rotate_left
            · intro w hSw; (try dsimp only at hSw); go_simp <;> with_reducible rfl
            try simp only [Act.put, List.setIfInBounds_toArray, List.set_cons_zero, List.set_cons_succ]
            refine wpAnyH_take (i := 4) (v := ?_) (by simp only [List.getElem?_toArray, List.getElem?_cons_succ, List.getElem?_cons_zero]; exact rfl) (by kernel_rfl) (by kernel_rfl) (by kernel_rfl) (fun _ _ _ h => h) (Or.inl ⟨by rfl, ?_⟩) (by assumption) ?_
            rotate_left
            · intro w hSw; (try dsimp only at hSw); go_simp <;> with_reducible rfl
            try simp only [Act.put, List.setIfInBounds_toArray, List.set_cons_zero, List.set_cons_succ]
            refine wpAnyH_take (i := 5) (v := ?_) (by simp only [List.getElem?_toArray, List.getElem?_cons_succ, List.getElem?_cons_zero]; exact rfl) (by kernel_rfl) (by kernel_rfl) (by kernel_rfl) (fun _ _ _ h => h) (Or.inl ⟨by rfl, ?_⟩) (by assumption) ?_
            rotate_left
            · intro w hSw; (try dsimp only at hSw); go_simp <;> with_reducible rfl
            try simp only [Act.put, List.setIfInBounds_toArray, List.set_cons_zero, List.set_cons_succ]
            refine wpAnyH_take (i := 6) (v := ?_) (by simp only [List.getElem?_toArray, List.getElem?_cons_succ, List.getElem?_cons_zero]; exact rfl) (by kernel_rfl) (by kernel_rfl) (by kernel_rfl) (fun _ _ _ h => h) (Or.inl ⟨by rfl, ?_⟩) (by assumption) ?_
            rotate_left
            · intro w hSw; (try dsimp only at hSw); go_simp <;> with_reducible rfl
            try simp only [Act.put, List.setIfInBounds_toArray, List.set_cons_zero, List.set_cons_succ]
            refine wpAnyH_take (i := 7) (v := ?_) (by simp only [List.getElem?_toArray, List.getElem?_cons_succ, List.getElem?_cons_zero]; exact rfl) (by kernel_rfl) (by kernel_rfl) (by kernel_rfl) (fun _ _ _ h => h) (Or.inl ⟨by rfl, ?_⟩) (by assumption) ?_
            rotate_left
            · intro w hSw; (try dsimp only at hSw); go_simp <;> with_reducible rfl
            try simp only [Act.put, List.setIfInBounds_toArray, List.set_cons_zero, List.set_cons_succ]
            refine wpAnyH_take (i := 8) (v := ?_) (by simp only [List.getElem?_toArray, List.getElem?_cons_succ, List.getElem?_cons_zero]; exact rfl) (by kernel_rfl) (by kernel_rfl) (by kernel_rfl) (fun _ _ _ h => h) (Or.inl ⟨by rfl, ?_⟩) (by assumption) ?_
            rotate_left
            · intro w hSw; (try dsimp only at hSw); go_simp <;> with_reducible rfl
            try simp only [Act.put, List.setIfInBounds_toArray, List.set_cons_zero, List.set_cons_succ]
            refine wpAnyH_ready (rs := [9]) (by kernel_rfl) (by simp) ?_
            refine AllReadyH.cons (by simp only [List.getElem?_toArray, List.getElem?_cons_succ, List.getElem?_cons_zero]; exact rfl) (fun K hK => ?_) AllReadyH.nil
            go_simp
            clear hHeld
            refine hK.out _ _ ?_ (fun hHeld => ?_)
            · (try dsimp only); (first | exact HSZ.out _ HBe.out | exact HSZ.out _ HBB.out | exact HSZ.out _ hb2 | exact HSZ.out _ HK4.out.1 | assumption)
            clear hK K
            try simp only [Act.put, List.setIfInBounds_toArray, List.set_cons_zero, List.set_cons_succ]
            refine wpAnyH_ready (rs := [10]) (by kernel_rfl) (by simp) ?_
            refine AllReadyH.cons (by simp only [List.getElem?_toArray, List.getElem?_cons_succ, List.getElem?_cons_zero]; exact rfl) (fun K hK => ?_) AllReadyH.nil
            go_simp
            go_at_call 118
            with_reducible refine HCO2.out.mono ?_
            rintro e w2 ⟨X2, xc2, rfl, h2⟩
            have hb2 := h2.out.2
            have HC2 := Lib.hid (HCH2.out w2 X2 xc2 h2.out.1 hb2)
            go_wp2_with fail
            clear hHeld
            refine hK.out _ _ ?_ (fun hHeld => ?_)
            · (try dsimp only); (first | exact HSZ.out _ HBe.out | exact HSZ.out _ HBB.out | exact HSZ.out _ hb2 | exact HSZ.out _ HK4.out.1 | assumption)
            clear hK K
            try simp only [Act.put, List.setIfInBounds_toArray, List.set_cons_zero, List.set_cons_succ]
            refine wpAnyH_ready (rs := [11]) (by kernel_rfl) (by simp) ?_
            refine AllReadyH.cons (by simp only [List.getElem?_toArray, List.getElem?_cons_succ, List.getElem?_cons_zero]; exact rfl) (fun K hK => ?_) AllReadyH.nil
            go_simp
            go_at_call 73
            with_reducible refine HC2.out.mono ?_
            rintro e w4 ⟨A4, c4, rfl, HK4, HY4⟩
            go_wp2_with fail
            clear hHeld
            refine hK.out _ _ ?_ (fun hHeld => ?_)
            · (try dsimp only); (first | exact HSZ.out _ HBe.out | exact HSZ.out _ HBB.out | exact HSZ.out _ hb2 | exact HSZ.out _ HK4.out.1 | assumption)
            clear hK K
            try simp only [Act.put, List.setIfInBounds_toArray, List.set_cons_zero, List.set_cons_succ]
            refine wpAnyH_done (by kernel_rfl) ?_ _
            simp only [HeadQ]
            obtain ⟨fn, tmps, assign, body, hy, hR⟩ := HY4.out
            have HR4 := Lib.hid hR
            clear hR HC2 HCO2 HCH2 z3 HSZ HBe HBB HY4 h2 hb2
            gi_wp2
            refine ⟨rfl, HR4.out.mono ?_⟩
            rintro en w5 (⟨rfl, hJ4, hk4⟩ | ⟨rfl, hJx, hkf⟩)
            · have HJ5 := Lib.hid hJ4
              have HK5 := Lib.hid (HK3.out.trans (HK4.out.2.trans hk4))
              clear hJ4 hk4 HR4 hy
              gi_wp2
              go_roundw
              case rel => exact ⟨j + 1, by omega, by first | rfl | go_num, HJ5.out, HK5.out⟩
              case measure => simp [intOf]; omega
            · have HJX := Lib.hid hJx
              clear hJx hkf HR4 hy
              gi_wp2
              refine bodyPost_ret (results_none rfl _ _ _) rfl ?_
              exact ⟨⟨_, rfl⟩, .inr HJX.out⟩
        · have d2 : decide ((j : Int) < (r2.sm : Int) + 1) = false := decide_eq_false (by omega)
          have hjs : j = r2.sm + 1 := by omega
          subst hjs
          gi_wp2
          go_roundw
          case measure => simp [intOf]; omega
          case rel => exact ⟨i + 1, by omega, by first | rfl | go_num, by rw [HLN.out]; exact HJj.out, HKj.out⟩
    · have d1 : decide ((i : Int) < (r1.sm : Int) + 1) = false := decide_eq_false (by omega)
      have his : i = r1.sm + 1 := by omega
      subst his
      gi_wp2
      go_end0
      exact ⟨⟨_, rfl⟩, .inl ⟨by have := HJi.out; exact this, HK.out⟩⟩
end Go.Proofs.YtgjmlnpfkmpfgaaGreat
