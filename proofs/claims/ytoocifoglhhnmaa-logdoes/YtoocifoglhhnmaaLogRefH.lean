/- The document's log: Open of a disk that has no half yet. -/
import Derived.Test.YtoocifoglhhnmaaLogRefG
namespace Go.Proofs.Ytoocifoglhhnmaa
open Go.RowKit
set_option linter.unusedVariables false

theorem openEnd_no (n : Nat) (d : Dk.D) (c : Int) (a b : Nat) (hc : c ≠ 0) : openEnd n (d, c, a, b) = (d, c, raw 0 0) := by
  unfold openEnd
  exact if_neg hc

set_option maxHeartbeats 2000000 in
set_option maxRecDepth 100000 in
theorem ropen_none (G : Nat → Prop) (g s n z : Nat) (d : Dk.D) (w : World) (hG : ∀ i, G i → i < w.heap.size) (h : RDiskAt w g s n d) (hz : n / 2 = z) (hn : 4 ≤ n) (hw : d.writes ≤ 800000) (hga : Lg.genOf d.b 0 = 0) (hgb : Lg.genOf d.b z = 0) (q : Dk.D × Int × Lg.L) (hq : openQ n d = q) :
    Calls Try.prog 11 #[.pointer (some ⟨g, 0, none⟩)] w fun e w' => ROpen w G g s n q e w' := by
  have HG := Lib.hid hG
  clear hG
  have hn1 := h.n1
  have c0 := h.c0
  have HZ := Lib.hid hz
  have HD := Lib.hid h
  obtain ⟨L, hL⟩ : ∃ L, 32 * n = L := ⟨_, rfl⟩
  rw [hL] at c0
  have hd1 : (L : Int) / 32 = (n : Int) := by omega
  have d1 : decide ((n : Int) < 4) = false := decide_eq_false (by omega)
  have h4 : L ≤ 200000 := by omega
  have hz2 : 2 ≤ z := by omega
  have hz4 : z ≤ 2048 := by omega
  have hzn : z + z ≤ n := by omega
  have HG0 : Hid (Calls Try.prog 34 #[.pointer (some ⟨g, 0, none⟩), .int .i64 0] w fun e w' => e = .returned (.int .i64 0) ∧ Below w.heap.size w w') := by
    have := rgen_any g s n z 0 d w h hz (by omega)
    rw [start_zero, hga] at this
    exact this
  have HG1 : Hid (∀ w1, Below w.heap.size w w1 → Calls Try.prog 34 #[.pointer (some ⟨g, 0, none⟩), .int .i64 1] w1 fun e w' => e = .returned (.int .i64 0) ∧ Below w.heap.size w w') := fun w1 hb1 => by
    have := rgen_any g s n z 1 d w1 (h.below hb1) hz (by omega)
    rw [start_one, hz, hgb] at this
    exact this.mono fun _ _ ⟨e1, e2⟩ => ⟨e1, hb1.trans (e2.mono hb1.size)⟩
  have HQ : Hid (openEnd n (if isNewB d.b 0 z = false then (d, 8, 0, 0) else ((Lg.wr n d 0 (Lg.head 1)).1, (Lg.wr n d 0 (Lg.head 1)).2, 1, 0)) = q) := by
    unfold Hid
    rw [← hq]
    unfold openQ chooseQ
    rw [hz, hga, hgb, if_neg (Nat.lt_irrefl 0), if_neg (Nat.lt_irrefl 0)]
  have HNW := Lib.hid (new_iff d.b n z h.good.len (by omega) (by omega))
  have HCL := Lib.hid (Lg.cut_len (b := d.b) (a := 0) (k := z) h.good.len (by omega))
  have HCF := Lib.hid (cut_first d.b 0 z (by omega))
  have hsl := Dk.sec_len h.good.len (show 0 < n by omega)
  obtain ⟨y31, hy31⟩ := some_at (Dk.sec d.b 0) 31 (by rw [hsl]; omega)
  have HY31 := Lib.hid hy31
  have HYD : Hid ((Dk.sec d.b 0).getD 31 0 = y31) := by unfold Hid; rw [List.getD_eq_getElem?_getD, hy31]; rfl
  clear h hz hL hga hgb hq hn hsl hy31
  go_enter Try.func11, Try.ntmps11
  go_wp2_with fail
  refine HG0.out.mono ?_
  rintro e w1 ⟨rfl, hb1⟩
  have HGX := Lib.hid (HG1.out w1 hb1)
  clear hb1 HG0 HG1
  go_wp2_with fail
  refine HGX.out.mono ?_
  rintro e w2 ⟨rfl, hb2⟩
  have HB2 := Lib.hid hb2
  clear hb2 HGX
  have HT1 : Hid (RTop (w2.alloc (.cells (rcells g 0 0 (.slice none 0 0) 0 false) 75)) w2.heap.size g 0 0 (.slice none 0 0) 0 false) := heap_alloc_new w2 _
  have HK1 : Hid (Kept (Two g s) w (w2.alloc (.cells (rcells g 0 0 (.slice none 0 0) 0 false) 75))) := (Kept.of_below HB2.out).alloc _
  have HD1 : Hid (RDiskAt (w2.alloc (.cells (rcells g 0 0 (.slice none 0 0) 0 false) 75)) g s n d) := HD.out.keep (F := No) ((Kept.of_below HB2.out).alloc _) id id
  have HLB : Hid (w.heap.size ≤ w2.heap.size) := HB2.out.size
  unfold rcells at HT1 HK1 HD1
  go_wp2_with fail
  generalize w2.alloc (.cells #[.pointer (some ⟨g, 0, none⟩), .int .i64 0, .int .i64 0, .slice none 0 0, .int .i64 0, .bool false] 75) = W0 at *
  generalize w2.heap.size = lb at *
  have HHF : Hid (Calls Try.prog 35 #[.pointer (some ⟨g, 0, none⟩), .int .i64 0] W0 fun e w' => HalfR g s n d 0 z W0 e w') := rhalf_any g s n z 0 d W0 HD1.out HZ.out (by omega)
  refine HHF.out.mono ?_
  rintro e w' ⟨A', c', rfl, HC, HBY, rfl⟩
  have hc1 := HC.out.1
  have hc2 := HC.out.2
  have HBY0 : Hid (∀ W, RDiskAt W g s n d → BytesIn No W A' (Lg.cut d.b 0 z)) := fun W hd => by
    have := HBY.out No W hd id
    rw [start_zero] at this
    exact this
  obtain ⟨Z, hZ⟩ : ∃ Z, 32 * z = Z := ⟨_, rfl⟩
  rw [hZ] at hc1 ⊢
  have HZZ := Lib.hid hZ
  have hZ1 : 64 ≤ Z := by omega
  obtain ⟨A2, c2, hs32, hsb⟩ := slice_back A' Z c' 32 hc1 (by omega)
  rw [show ((32 : Nat) : Int) = 32 from rfl] at hs32
  obtain ⟨T, hT⟩ : ∃ T, decide ((Lg.cut d.b 0 z).drop 32 = Lg.zeros (Z - 32)) = T := ⟨_, rfl⟩
  have HZR : Hid (Calls Try.prog 36 #[.slice A2 (Z - 32) c2] W0 fun e w' => e = .returned (.bool T) ∧ Below W0.heap.size W0 w') := by
    have hl : (Lg.cut d.b 0 z).length = Z := by rw [HCL.out, hZ]
    have := rzero_any A2 (Z - 32) c2 ((Lg.cut d.b 0 z).drop 32) W0 (by rw [List.length_drop, hl]) (by omega) (hsb No W0 _ hl (HBY0.out W0 HD1.out))
    rw [hT] at this
    exact this
  have HNW2 : Hid (isNewB d.b 0 z = (T && decide (y31 = 0))) := by
    have h1 := HNW.out
    rw [hZ, HYD.out] at h1
    unfold Hid
    cases hb : isNewB d.b 0 z with
    | true =>
      have := h1.1 (isNewB_true.1 hb)
      rw [← hT, decide_eq_true this.1, decide_eq_true this.2]
      rfl
    | false =>
      have hn := isNewB_false.1 hb
      by_cases hx : (Lg.cut d.b 0 z).drop 32 = Lg.zeros (Z - 32)
      · rw [← hT, decide_eq_true hx, decide_eq_false (fun e => hn (h1.2 ⟨hx, e⟩))]
        rfl
      · rw [← hT, decide_eq_false hx]
        rfl
  obtain ⟨ad, hA', _, _, hcell⟩ := BytesIn.at_ (bytes_take (HBY0.out W0 HD1.out) 32) (k := 31) (b := y31) (by rw [HCF.out]; exact HY31.out)
  subst hA'
  have HCE : Hid (∀ W, RDiskAt W g s n d → W.cell? ⟨ad.block, ad.off + 31, none⟩ = some (.int .u8 (y31.toNat : Int))) := fun W hd => by
    obtain ⟨ad', e, _, _, hc⟩ := BytesIn.at_ (bytes_take (HBY0.out W hd) 32) (k := 31) (b := y31) (by rw [HCF.out]; exact HY31.out)
    obtain rfl := Option.some.inj e
    exact hc
  clear hT hZ hsb HBY HC HNW HCL HCF HHF hcell HY31 HYD HBY0
  cases T with
  | false =>
    have HQ' : Hid (q = (d, 8, raw 0 0)) := by
      have := HQ.out
      rw [HNW2.out, if_pos (by rfl)] at this
      rw [← this]
      exact openEnd_no n d 8 0 0 (by decide)
    clear HQ HNW2
    go_wp2_with fail
    refine HZR.out.mono ?_
    rintro e w3 ⟨rfl, hb3⟩
    have HD3 := Lib.hid (HD1.out.below hb3)
    have HK3 := Lib.hid (HK1.out.trans (Kept.of_below hb3))
    clear hb3 HZR HT1 HD1 HK1
    go_wp2
    go_ret2
    exact .inr ⟨by rw [HQ'.out]; simp, by rw [HQ'.out]; rfl, by rw [HQ'.out]; exact HD3.out, HK3.out⟩
  | true =>
    by_cases hy : y31 = 0
    case neg =>
      have HQ' : Hid (q = (d, 8, raw 0 0)) := by
        have := HQ.out
        rw [HNW2.out, decide_eq_false hy, if_pos (by rfl)] at this
        rw [← this]
        exact openEnd_no n d 8 0 0 (by decide)
      have hyn : (((y31.toNat : Nat) : Int) != 0) = true := by
        rw [bne_iff_ne]
        intro e
        exact hy (UInt8.toNat_inj.1 (by have : (0 : UInt8).toNat = 0 := rfl; omega))
      clear HQ HNW2 hy
      go_wp2_with fail
      refine HZR.out.mono ?_
      rintro e w3 ⟨rfl, hb3⟩
      have HD3 := Lib.hid (HD1.out.below hb3)
      have HK3 := Lib.hid (HK1.out.trans (Kept.of_below hb3))
      have hce := HCE.out w3 HD3.out
      have hyl := y31.toNat_lt
      clear hb3 HZR HT1 HD1 HK1
      generalize y31.toNat = yn at *
      go_wp2
      go_ret2
      exact .inr ⟨by rw [HQ'.out]; simp, by rw [HQ'.out]; rfl, by rw [HQ'.out]; exact HD3.out, HK3.out⟩
    subst hy
    have HQ2 : Hid (openEnd n ((Lg.wr n d 0 (Lg.head 1)).1, (Lg.wr n d 0 (Lg.head 1)).2, 1, 0) = q) := by
      have := HQ.out
      rw [HNW2.out, if_neg (by decide)] at this
      exact this
    have HWW := Lib.hid (Lg.wr_writes (n := n) d 0 (Lg.head 1))
    obtain ⟨p, hp⟩ : ∃ p, Lg.wr n d 0 (Lg.head 1) = p := ⟨_, rfl⟩
    rw [hp] at HQ2 HWW
    have HP := Lib.hid hp
    clear HQ HNW2 hp
    go_wp2_with fail
    refine HZR.out.mono ?_
    rintro e w3 ⟨rfl, hb3⟩
    have HD3 := Lib.hid (HD1.out.below hb3)
    have HK3 := Lib.hid (HK1.out.trans (Kept.of_below hb3))
    have HT3 := Lib.hid (HT1.out.below hb3)
    have hce : w3.cell? ⟨ad.block, ad.off + 31, none⟩ = some (.int .u8 0) := HCE.out w3 HD3.out
    clear hb3 HZR HT1 HD1 HK1 HCE
    have HHD : Hid (Calls Try.prog 38 #[.int .i64 1] w3 fun e w' => ∃ A' c', e = .returned (.slice A' 32 c') ∧ OwnB w' w3.heap.size (.slice A' 32 c') (Lg.head 1) ∧ Below w3.heap.size w3 w') := rhead_any 1 (by omega) w3
    go_wp2_with fail
    refine HHD.out.mono ?_
    rintro e w4 ⟨A4, c4, rfl, ho4, hb4⟩
    have HD4 := Lib.hid (HD3.out.below hb4)
    have HK4 := Lib.hid (HK3.out.trans (Kept.of_below hb4))
    have HT4 := Lib.hid (HT3.out.below hb4)
    have HNG := Lib.hid (HT4.out.ng HD4.out)
    have HWR : Hid (Calls Try.prog 37 #[.pointer (some ⟨g, 0, none⟩), .int .i64 0, .slice A4 32 c4] w4 fun e w' => e = .returned (.int .i64 p.2) ∧ RDiskAt w' g s n p.1 ∧ Kept (Two g s) w4 w') := by
      have h1 := HD3.out.ltg
      have h2 := HD3.out.lts
      obtain ⟨Ax, cx, e, _, _, hby⟩ := ho4.slice
      injection e with e1 e2 e3
      subst e1
      exact rwr_any g s n d 0 0 rfl A4 32 c4 (Lg.head 1) w4 HD4.out (by omega) (Lg.head_len 1) (by omega) (hby _ (fun i hi => by rcases hi with e | e <;> omega)) p HP.out
    clear ho4 hb4 HHD HT3 HD3 HK3 hce
    go_wp2_with fail
    refine HWR.out.mono ?_
    rintro e w5 ⟨rfl, hd5, hk5⟩
    have HD5 := Lib.hid hd5
    have HK5 := Lib.hid (HK4.out.trans hk5)
    have HT5 := Lib.hid (HT4.out.keep hk5 HNG.out)
    clear hd5 hk5 HWR HD4 HK4 HT4
    by_cases hp2 : p.2 = 0
    case neg =>
      have HQ' : Hid (q = (p.1, p.2, raw 0 0)) := by
        have := HQ2.out
        rw [← this]
        exact openEnd_no n p.1 p.2 1 0 hp2
      have d5 : (p.2 != 0) = true := bne_iff_ne.2 hp2
      clear HQ2
      go_wp2
      go_ret2
      exact .inr ⟨by rw [HQ'.out]; exact hp2, by rw [HQ'.out]; rfl, by rw [HQ'.out]; exact HD5.out, HK5.out⟩
    have d5 : (p.2 != 0) = false := by rw [hp2]; rfl
    have HQ' : Hid (openEnd n (p.1, 0, 1, 0) = q) := by have := HQ2.out; rw [hp2] at this; exact this
    have u2 := HT5.out.cell 2 (.int .i64 0) rfl
    have f2 := HT5.out.fz 2
    have HT1 : Hid (RTop (w5.setCell ⟨lb, 2, none⟩ (.int .i64 1)) lb g 0 1 (.slice none 0 0) 0 false) := HT5.out.set 2 (.int .i64 1) rfl
    have HK1 : Hid (Kept (Two g s) w (w5.setCell ⟨lb, 2, none⟩ (.int .i64 1))) := HK5.out.setCell (p := ⟨lb, 2, none⟩) (.inr HLB.out) _
    have HD1 : Hid (RDiskAt (w5.setCell ⟨lb, 2, none⟩ (.int .i64 1)) g s n p.1) := HD5.out.keep (F := fun i => i = lb) ((Kept.refl (fun i => i = lb) w5).setCell (p := ⟨lb, 2, none⟩) (.inl rfl) _) (fun e => HNG.out (.inl e.symm)) (fun e => HNG.out (.inr e.symm))
    have hw' : p.1.writes ≤ 800001 := by have := HWW.out; omega
    clear HQ2 HP HWW HD5 HK5 HT5 hw HNG
    go_wp2_with fail
    generalize w5.setCell ⟨lb, 2, none⟩ (.int .i64 1) = W1 at *
    clear u2 f2 hp2 d5

    have HD1' := Lib.hid (HD1.out.keep (F := No) (Kept.refl No _).drew id id)
    obtain ⟨rs, hrs⟩ : ∃ rs, (Lg.scan p.1.b (Lg.start n 0) z 1 z 1 0).1 = rs := ⟨_, rfl⟩
    obtain ⟨fin, hfin⟩ : ∃ fin, (Lg.scan p.1.b (Lg.start n 0) z 1 z 1 0).2 = fin := ⟨_, rfl⟩
    have HGOOD := Lib.hid (good_scan HD1.out.good HZ.out (by omega : 0 ≤ 1) (by omega) (by omega : 1 ≤ 1) (by omega) hrs hfin)
    have hfz : fin ≤ z := by have := HGOOD.out.fin; rw [HZ.out] at this; exact this
    obtain ⟨k, hk⟩ : ∃ k, rs.length = k := ⟨_, rfl⟩
    have HK := Lib.hid hk
    have hlbs := HT1.out.lt
    have HHF : Hid (Calls Try.prog 35 #[.pointer (some ⟨g, 0, none⟩), .int .i64 0] W1.drew fun e w' => HalfR g s n p.1 0 z W1.drew e w') := rhalf_any g s n z 0 p.1 W1.drew HD1'.out HZ.out (by omega)
    have HSC : Hid (∀ A' c', Hid (32 * z ≤ c' ∧ c' ≤ 200000) → Hid (∀ (F : Nat → Prop) (W : World), RDiskAt W g s n p.1 → ¬ F s → BytesIn F W A' (Lg.cut p.1.b (Lg.start n 0) z)) → Calls Try.prog 39 #[.slice A' (32 * z) c', .int .i64 1] W1.drew fun e w' => ∃ A4 c4, e = .returned (.tuple #[.slice A4 k c4, .int .i64 (fin : Nat)]) ∧ (w'.cell? ⟨lb, 1, none⟩ = some (.int .i64 0) ∧ w'.cell? ⟨lb, 2, none⟩ = some (.int .i64 1)) ∧ (w'.cell? ⟨lb, 3, none⟩ = some (.slice none 0 0) ∧ w'.frozen? ⟨lb, 3, none⟩ = false ∧ w'.cell? ⟨lb, 4, none⟩ = some (.int .i64 0) ∧ w'.frozen? ⟨lb, 4, none⟩ = false) ∧ Hid (∀ u, (w'.setCell ⟨lb, 3, none⟩ u).cell? ⟨lb, 1, none⟩ = some (.int .i64 0) ∧ (w'.setCell ⟨lb, 3, none⟩ u).cell? ⟨lb, 2, none⟩ = some (.int .i64 1)) ∧ Hid (∀ u (r : Int), ((w'.setCell ⟨lb, 3, none⟩ u).setCell ⟨lb, 4, none⟩ (.int .i64 r)).cell? ⟨lb, 1, none⟩ = some (.int .i64 0) ∧ ((w'.setCell ⟨lb, 3, none⟩ u).setCell ⟨lb, 4, none⟩ (.int .i64 r)).cell? ⟨lb, 2, none⟩ = some (.int .i64 1)) ∧ Hid (RowIn (fun i => i < W1.heap.size) w' A4 rs ∧ Below W1.heap.size W1 w')) := fun A' c' hc hby => by
      refine (rscan_any A' (32 * z) c' (Lg.start n 0) z 1 n p.1.b W1.drew HD1.out.good.len (by have := Lg.start_le (n := n) (half := 0) (by omega); rw [HZ.out] at this; exact this) rfl hc.out.1 hc.out.2 (by omega) (by omega) (hby.out No _ HD1'.out id) rs fin hrs hfin).mono fun e w' ⟨A4, c4, e1, e2, e3⟩ => ?_
      have hb' : Below W1.heap.size W1 w' := ⟨e3.os, e3.tape, e3.output, e3.size, e3.block⟩
      have ht := HT1.out.below hb'
      exact ⟨A4, c4, by rw [e1, HK.out], ⟨ht.cell 1 _ rfl, ht.cell 2 _ rfl⟩, ⟨ht.cell 3 _ rfl, ht.fz 3, ht.cell 4 _ rfl, ht.fz 4⟩, fun u => ⟨(ht.set 3 u (v' := u) rfl).cell 1 _ rfl, (ht.set 3 u (v' := u) rfl).cell 2 _ rfl⟩, fun u r => ⟨((ht.set 3 u (v' := u) rfl).set 4 (.int .i64 r) (fin' := r) rfl).cell 1 _ rfl, ((ht.set 3 u (v' := u) rfl).set 4 (.int .i64 r) (fin' := r) rfl).cell 2 _ rfl⟩, e2, hb'⟩
    have x1 := HT1.out.cell 1 (.int .i64 0) rfl
    have x2 := HT1.out.cell 2 (.int .i64 1) rfl
    have HE : Hid (q = ((Lg.wipeS n (Lg.start n 0) fin z p.1).1, (Lg.wipeS n (Lg.start n 0) fin z p.1).2, ⟨0, 1, rs, fin, false⟩)) := by
      unfold Hid
      rw [← HQ'.out]
      unfold openEnd
      rw [if_pos rfl]
      simp only
      rw [HZ.out, hrs, hfin]
    obtain ⟨y, hy⟩ : ∃ y, Lg.wipeS n (Lg.start n 0) fin z p.1 = y := ⟨_, rfl⟩
    rw [hy] at HE
    have HWI : Hid (∀ W5, RDiskAt W5 g s n p.1 → Calls Try.prog 40 #[.pointer (some ⟨g, 0, none⟩), .int .i64 0, .int .i64 (fin : Nat)] W5 fun e w' => e = .returned (.int .i64 y.2) ∧ RDiskAt w' g s n y.1 ∧ Kept (Two g s) W5 w') := fun W5 hd5 => by
      have := rwipe_any g s n z 0 fin p.1 W5 hd5 HZ.out (by omega) hfz (by omega)
      rw [hy] at this
      exact this
    clear hrs hfin hk hy HQ' hz2 hzn HB2
    go_region_held3 (fun w' => w'.cell? ⟨lb, 1, none⟩ = some (.int .i64 0) ∧ w'.cell? ⟨lb, 2, none⟩ = some (.int .i64 1)) (first | exact HS6.out _ _ | exact HS5.out _ | exact hs4 | exact ⟨x1, x2⟩)
      (first
        | (go_at_call 39; refine (HSC.out A' c' HC' HBY').mono ?_; rintro e w4 ⟨A4, c4, rfl, hs4, ⟨y3, f3, y4, f4⟩, HS5, HS6, HR4⟩)
        | (go_at_call 35; refine HHF.out.mono ?_; rintro e w3 ⟨A', c', rfl, HC', HBY', rfl⟩))
    have HT5 : Hid (RTop ((w4.setCell ⟨lb, 3, none⟩ (.slice A4 k c4)).setCell ⟨lb, 4, none⟩ (.int .i64 (fin : Int))) lb g 0 1 (.slice A4 k c4) fin false) := ((HT1.out.below HR4.out.2).set 3 (.slice A4 k c4) rfl).set 4 (.int .i64 (fin : Int)) rfl
    have HK5 : Hid (Kept (Two g s) w ((w4.setCell ⟨lb, 3, none⟩ (.slice A4 k c4)).setCell ⟨lb, 4, none⟩ (.int .i64 (fin : Int)))) := ((HK1.out.trans (Kept.of_below HR4.out.2)).setCell (p := ⟨lb, 3, none⟩) (.inr HLB.out) _).setCell (p := ⟨lb, 4, none⟩) (.inr HLB.out) _
    have HNG := Lib.hid (HT1.out.ng HD1.out)
    have HD5 : Hid (RDiskAt ((w4.setCell ⟨lb, 3, none⟩ (.slice A4 k c4)).setCell ⟨lb, 4, none⟩ (.int .i64 (fin : Int))) g s n p.1) := (HD1.out.below HR4.out.2).keep (F := fun i => i = lb) (((Kept.refl (fun i => i = lb) w4).setCell (p := ⟨lb, 3, none⟩) (.inl rfl) _).setCell (p := ⟨lb, 4, none⟩) (.inl rfl) _) (fun e => HNG.out (.inl e.symm)) (fun e => HNG.out (.inr e.symm))
    have HRW5 : Hid (RowIn (fun i => Lb lb g s i ∨ G i) ((w4.setCell ⟨lb, 3, none⟩ (.slice A4 k c4)).setCell ⟨lb, 4, none⟩ (.int .i64 (fin : Int))) A4 rs) := by
      have h1 := HD1.out.ltg
      have h2 := HD1.out.lts
      have h3 := HT1.out.lt
      refine (HR4.out.1.less (fun i _ hi => ?_)).keep (((Kept.refl (fun i => Lb lb g s i ∨ G i) w4).setCell (p := ⟨lb, 3, none⟩) (.inl (.inl (.inr rfl))) _).setCell (p := ⟨lb, 4, none⟩) (.inl (.inl (.inr rfl))) _)
      rcases hi with ((e | e) | e) | e
      · omega
      · omega
      · omega
      · have h4 := HG.out i e
        have h5 := HK1.out.size
        omega
    clear HR4 HT1 HK1 HD1 HD1' HSC HHF HS5 HS6 y3 f3 y4 f4 hs4 x1 x2 hlbs HC' HBY'
    generalize (w4.setCell ⟨lb, 3, none⟩ (.slice A4 k c4)).setCell ⟨lb, 4, none⟩ (.int .i64 (fin : Int)) = W5 at *
    have x1 := HT5.out.cell 1 (.int .i64 0) rfl
    have x4 := HT5.out.cell 4 (.int .i64 (fin : Int)) rfl
    have HWX : Hid (Calls Try.prog 40 #[.pointer (some ⟨g, 0, none⟩), .int .i64 0, .int .i64 (fin : Int)] W5.drew fun e w' => e = .returned (.int .i64 y.2) ∧ (w'.cell? ⟨lb, 1, none⟩ = some (.int .i64 0) ∧ w'.cell? ⟨lb, 4, none⟩ = some (.int .i64 (fin : Int))) ∧ Hid (RDiskAt w' g s n y.1 ∧ Kept (Two g s) W5 w')) := by
      refine (HWI.out W5.drew (HD5.out.keep (F := No) (Kept.refl No _).drew id id)).mono fun e w' ⟨e1, e2, e3⟩ => ?_
      have hk : Kept (Two g s) W5 w' := ⟨e3.os, e3.tape, e3.output, e3.size, e3.block⟩
      exact ⟨e1, ⟨(HT5.out.keep hk HNG.out).cell 1 (.int .i64 0) rfl, (HT5.out.keep hk HNG.out).cell 4 (.int .i64 (fin : Int)) rfl⟩, e2, hk⟩
    clear HWI
    go_wp2_with fail
    go_region_held3 (fun w' => w'.cell? ⟨lb, 1, none⟩ = some (.int .i64 0) ∧ w'.cell? ⟨lb, 4, none⟩ = some (.int .i64 (fin : Int))) (first | exact hs6 | exact ⟨x1, x4⟩)
      (first | (go_at_call 40; refine HWX.out.mono ?_; rintro e w6 ⟨rfl, hs6, HR6⟩))
    have HD6 := Lib.hid HR6.out.1
    have HK6 := Lib.hid HR6.out.2
    clear HR6 hs6 HWX x1 x4
    by_cases hy0 : y.2 = 0
    · have d5 : (y.2 != 0) = false := by rw [hy0]; rfl
      go_wp2
      go_ret2
      refine .inl ⟨by rw [HE.out]; exact hy0, lb, rfl, ⟨⟨A4, c4, ?_, ?_⟩, by rw [HE.out]; exact HD6.out, by rw [HE.out]; exact HGOOD.out⟩, HLB.out, HK5.out.trans HK6.out⟩
      · rw [HE.out]
        simp only
        rw [HK.out]
        exact HT5.out.keep HK6.out HNG.out
      · rw [HE.out]
        exact HRW5.out.keep (HK6.out.wide (fun i _ e => .inl (.inl e)))
    · have d5 : (y.2 != 0) = true := bne_iff_ne.2 hy0
      go_wp2
      go_ret2
      exact .inr ⟨by rw [HE.out]; exact hy0, by rw [HE.out]; rfl, by rw [HE.out]; exact HD6.out, HK5.out.trans HK6.out⟩

theorem ropen_any (G : Nat → Prop) (g s n z : Nat) (d : Dk.D) (w : World) (hG : ∀ i, G i → i < w.heap.size) (h : RDiskAt w g s n d) (hz : n / 2 = z) (hn : 4 ≤ n) (hw : d.writes ≤ 800000) (q : Dk.D × Int × Lg.L) (hq : openQ n d = q) :
    Calls Try.prog 11 #[.pointer (some ⟨g, 0, none⟩)] w fun e w' => ROpen w G g s n q e w' := by
  by_cases hf : Lg.genOf d.b 0 < Lg.genOf d.b z ∨ 0 < Lg.genOf d.b 0
  · exact ropen_found G g s n z d w hG h hz hn hw hf q hq
  · exact ropen_none G g s n z d w hG h hz hn hw (by omega) (by omega) q hq
end Go.Proofs.Ytoocifoglhhnmaa
