/- The document's log: Only. -/
import Derived.Test.YtoocifoglhhnmaaLogRefI
namespace Go.Proofs.Ytoocifoglhhnmaa
open Go.RowKit
set_option linter.unusedVariables false

/-- what is left of an Only: running, or ended by an error -/
def onlyG (n st gn : Nat) (rs : List Dk.Bs) (a p : Nat) (dc : Dk.D) (ec : Int) : Dk.D × Int := if ec = 0 then Lg.fillR n st gn rs a p dc else (dc, ec)
theorem onlyG_step (n st gn : Nat) (r : Dk.Bs) (rs : List Dk.Bs) (a p K : Nat) (hK : Lg.secs r.length = K) (dc : Dk.D) (y : Dk.D × Int) (hy : Lg.layS n (st + a) (Lg.recd r gn p) (K - 1) 1 dc = y) : onlyG n st gn (r :: rs) a p dc 0 = onlyG n st gn rs (a + K) (p + 1) y.1 y.2 := by
  subst hK hy
  unfold onlyG
  rw [if_pos rfl]
  rfl
theorem fillS_G (n st z gn : Nat) (rs : List Dk.Bs) (d : Dk.D) (y : Dk.D × Int) (hy : Lg.wipeS n st 0 z d = y) : Lg.fillS n st z gn rs d = onlyG n st gn rs 1 0 y.1 y.2 := by
  subst hy
  unfold Lg.fillS onlyG
  rfl

set_option maxHeartbeats 4000000 in
set_option maxRecDepth 100000 in
theorem ronly_any (G : Nat → Prop) (lb g s n z : Nat) (x : Lg.L) (d : Dk.D) (A : Option Addr) (m c : Nat) (rs : List Dk.Bs) (w : World) (hG : ∀ i, G i → i < w.heap.size) (h : RLog w G lb g s n x d) (hz : n / 2 = z) (hn4 : 4 ≤ n) (hw : d.writes ≤ 900000) (hm : rs.length = m) (hmx : m ≤ 1000) (hb : RowIn (Lb lb g s) w A rs) (q : Dk.D × Int × Lg.L) (hq : Lg.onlyS n d x rs = q) :
    Calls Try.prog 20 #[.pointer (some ⟨lb, 0, none⟩), .slice A m c] w fun e w' => e = .returned (.int .i64 q.2.1) ∧ RLog w' G lb g s n q.2.2 q.1 ∧ Kept (Lb lb g s) w w' := by
  obtain ⟨hf, gg, recs, fin, bro⟩ := x
  have HG := Lib.hid hG
  clear hG
  have HL := Lib.hid h
  obtain ⟨⟨A0, c0, ht, hrow⟩, hdk, hgood⟩ := h
  have HD := Lib.hid hdk
  have HNG := Lib.hid (ht.ng hdk)
  have hn1 := hdk.n1
  have hhf := hgood.half
  have hg1 := hgood.g1
  have hg0 := hgood.g0
  have hfn := hgood.fin
  have hcnt := hgood.cnt
  simp only at ht hrow hhf hg0 hg1 hfn hcnt
  rw [hz] at hfn
  have HZ := Lib.hid hz
  have HT := Lib.hid ht
  have HROW := Lib.hid hrow
  have HM := Lib.hid hm
  have HB := Lib.hid hb
  have HQ := Lib.hid hq
  obtain ⟨k, hk⟩ : ∃ k, recs.length = k := ⟨_, rfl⟩
  rw [hk] at hcnt HT
  have HK := Lib.hid hk
  have hz4 : z ≤ 2048 := by omega
  have hz2 : 2 ≤ z := by omega
  have HFL : Hid (∀ i, Lb lb g s i → i < w.heap.size) := fun i hi => by
    have h1 := HD.out.ltg
    have h2 := HD.out.lts
    have h3 := HT.out.lt
    rcases hi with (e | e) | e <;> omega
  clear hgood hdk ht hrow hz hm hb hq hk
  cases bro with
  | true =>
    have HE : Hid (q = (d, 7, ⟨hf, gg, recs, fin, true⟩)) := by rw [← HQ.out]; unfold Lg.onlyS; rw [if_pos rfl]; rfl
    have x5 := HT.out.cell 5 (.bool true) rfl
    go_enter Try.func20, Try.ntmps20
    go_wp2
    go_ret
    exact ⟨by rw [HE.out]; rfl, by rw [HE.out]; exact HL.out, Kept.refl _ _⟩
  | false =>
  have x5 := HT.out.cell 5 (.bool false) rfl
  obtain ⟨T, hT⟩ : ∃ T, 1 + Lg.sumSecs rs = T := ⟨_, rfl⟩
  have HTT := Lib.hid hT
  obtain ⟨gn, hgn⟩ : ∃ gn, gg + 1 = gn := ⟨_, rfl⟩
  have HGN := Lib.hid hgn
  have hwg : IntKind.i64.wrap ((gg : Int) + 1) = (gn : Int) := by rw [IntKind.wrap_i64]; omega
  have hgi : (gg : Int) + 1 = (gn : Int) := by omega
  have hwgn : IntKind.i64.wrap (gn : Int) = (gn : Int) := by rw [IntKind.wrap_i64]; omega
  have hgn4 : gn ≤ 4294967295 := by omega
  have HRLB : Hid (∀ W, Below w.heap.size w W → RLog W G lb g s n ⟨hf, gg, recs, fin, false⟩ d) := fun W hb => ⟨⟨A0, c0, by simp only; rw [HK.out]; exact HT.out.below hb, HROW.out.keep (Kept.of_below hb)⟩, HD.out.below hb, HL.out.good⟩
  clear hT hgn
  go_enter Try.func20, Try.ntmps20
  go_wp2_with fail
  clear x5
  go_loopg [4, 5, 6] m (fun gk s4 s5 s6 W => ∃ (i E : Nat), i + gk = m ∧ s4 = .int .i64 0 ∧ s5 = .int .i64 E ∧ s6 = .int .i64 i ∧ E ≤ 1 + 7 * i ∧ Hid (E + Lg.sumSecs (rs.drop i) = T) ∧ Hid (∀ (j : Nat) (r : Dk.Bs), j < i → rs[j]? = some r → r.length ≤ 200) ∧ Hid (Below w.heap.size w W))
  case atStart => exact ⟨0, 1, by omega, rfl, rfl, rfl, by omega, HTT.out, fun j r hj => by omega, Below.refl _ _⟩
  case round =>
    obtain ⟨i, E, hik, rfl, rfl, rfl, hE, HE0, HSM, HBE⟩ := hrel
    cases gk with
    | succ gk =>
      obtain ⟨r, hr⟩ := some_at rs i (by rw [HM.out]; omega)
      obtain ⟨ad, v, rfl, hadl, hadn, hc, B, cc, rfl, hcc, hcm, hby⟩ := (HB.out.keep (Kept.of_below HBE.out)) i r hr
      obtain ⟨mr, hmr⟩ : ∃ mr, r.length = mr := ⟨_, rfl⟩
      rw [hmr] at hc hcc
      have HR := Lib.hid hr
      have HMR := Lib.hid hmr
      have HBYR := Lib.hid hby
      have d1 : decide ((i : Int) < (m : Int)) = true := decide_eq_true (by omega)
      have d2 : decide (i < m) = true := decide_eq_true (by omega)
      by_cases h200 : 200 < mr
      · have HE : Hid (q = (d, 1, ⟨hf, gg, recs, fin, false⟩)) := by rw [← HQ.out]; unfold Lg.onlyS; rw [if_neg (by simp), if_pos (bigB_of (List.mem_of_getElem? hr) (by omega))]; rfl
        have d3 : decide ((200 : Int) < (mr : Int)) = true := decide_eq_true (by omega)
        clear hr hmr hby
        go_wp2
        go_ret
        exact ⟨by rw [HE.out]; rfl, by rw [HE.out]; exact HRLB.out _ HBE.out, Kept.of_below HBE.out⟩
      have d3 : decide ((200 : Int) < (mr : Int)) = false := decide_eq_false (by omega)
      obtain ⟨K, hK⟩ : ∃ K, Lg.secs mr = K := ⟨_, rfl⟩
      obtain ⟨LG, hLG⟩ : ∃ LG, 32 * K = LG := ⟨_, rfl⟩
      have hK7 : K ≤ 7 := by rw [← hK]; exact Lg.secs_le mr (by omega)
      have hdiv : (LG : Int) / 32 = (K : Int) := by omega
      have hLG3 : LG ≤ 300 := by omega
      have hwK : IntKind.i64.wrap (K : Int) = (K : Int) := by rw [IntKind.wrap_i64]; omega
      have hwE : IntKind.i64.wrap ((E : Int) + (K : Int)) = (E : Int) + (K : Int) := by rw [IntKind.wrap_i64]; omega
      have hi0 : (0 : Int) ≤ (i : Int) := by omega
      have hi1 : (i : Int) < (m : Int) := by omega
      have HTB := Lib.hid (HT.out.below HBE.out)
      have x2 := HTB.out.cell 2 (.int .i64 (gg : Int)) rfl
      have HLA : Hid (Calls Try.prog 28 #[.slice B mr cc, .int .i64 gn, .int .i64 i] wr.drew fun e w' => ∃ A1 c1, e = .returned (.slice A1 LG c1) ∧ (w'.cell? (ad.add i) = some (.slice B mr cc) ∧ w'.cell? ⟨lb, 2, none⟩ = some (.int .i64 (gg : Int))) ∧ Hid (Below w.heap.size w w')) := by
        have := rlaid_any B mr cc r gn i wr.drew hmr (by omega) hcc hcm (by omega) (by omega) (CellsIn.less (CellsIn.keep hby (Kept.of_below (below_drew wr))) (fun _ _ => False.elim))
        rw [hK, hLG] at this
        refine this.mono fun e w' ⟨A1, c1, e1, e2, e3⟩ => ?_
        have hb' : Below wr.heap.size wr w' := ⟨e3.os, e3.tape, e3.output, e3.size, e3.block⟩
        exact ⟨A1, c1, e1, ⟨((Kept.of_below (F := No) hb').cell (by rw [block_add]; exact hadl) id).trans hc, (HTB.out.below hb').cell 2 _ rfl⟩, HBE.out.trans (hb'.mono HBE.out.size)⟩
      have HSD : Hid (E + K + Lg.sumSecs (rs.drop (i + 1)) = T) := by
        have := HE0.out
        rw [drop_at hr] at this
        unfold Lg.sumSecs at this
        rw [hmr, hK] at this
        unfold Hid
        omega
      have HSM2 : Hid (∀ (j : Nat) (r : Dk.Bs), j < i + 1 → rs[j]? = some r → r.length ≤ 200) := fun j r' hj hr' => by
        by_cases hji : j < i
        · exact HSM.out j r' hji hr'
        · obtain rfl : j = i := by omega
          rw [hr] at hr'
          obtain rfl := Option.some.inj hr'
          omega
      clear hr hmr hby hK hLG h200 hadl hadn
      go_wp2_with fail
      go_region_held3 (fun w' => w'.cell? (ad.add i) = some (.slice B mr cc) ∧ w'.cell? ⟨lb, 2, none⟩ = some (.int .i64 (gg : Int))) (first | exact hs1 | exact ⟨hc, x2⟩)
        (first | (go_at_call 28; refine HLA.out.mono ?_; rintro e w1 ⟨A1, c1, rfl, hs1, HB1⟩))
      clear hs1 HLA
      go_wp2
      go_roundg gk
      case measure => omega
      case rel => exact ⟨i + 1, E + K, by omega, rfl, by first | rfl | go_num, by first | rfl | go_num, by omega, HSD.out, HSM2.out, HB1.out⟩
    | zero =>
      obtain rfl : i = m := by omega
      obtain rfl : E = T := by
        have := HE0.out
        rw [List.drop_eq_nil_of_le (by rw [HM.out]; exact Nat.le_refl _)] at this
        unfold Lg.sumSecs at this
        omega
      have HBIG : Hid (bigB rs = false) := bigB_not (fun j r hr => HSM.out j r (by have := (List.getElem?_eq_some_iff.1 hr).1; rw [HM.out] at this; exact this) hr)
      have d1 : decide ((i : Int) < (i : Int)) = false := decide_eq_false (by omega)
      have HTB := Lib.hid (HT.out.below HBE.out)
      have HDB := Lib.hid (HD.out.below HBE.out)
      have x0 := HTB.out.cell 0 (.pointer (some ⟨g, 0, none⟩)) rfl
      have x1 := HTB.out.cell 1 (.int .i64 (hf : Int)) rfl
      have x2 := HTB.out.cell 2 (.int .i64 (gg : Int)) rfl
      have HPE := Lib.hid (rper_any g s n z d wr HDB.out HZ.out)
      clear HE0 HSM
      by_cases hfull : z < E
      · have HE : Hid (q = (d, 4, ⟨hf, gg, recs, fin, false⟩)) := by rw [← HQ.out]; unfold Lg.onlyS; rw [if_neg (by simp), HBIG.out, if_neg (by simp), HZ.out, HTT.out, if_pos hfull]; rfl
        have d3 : decide ((z : Int) < (E : Int)) = true := decide_eq_true (by omega)
        have d4 : decide (z < E) = true := decide_eq_true hfull
        go_wp2_with fail
        refine HPE.out.mono ?_
        rintro e w' ⟨rfl, rfl⟩
        go_wp2
        go_ret
        exact ⟨by rw [HE.out]; rfl, by rw [HE.out]; exact HRLB.out _ HBE.out, Kept.of_below HBE.out⟩
      have d3 : decide ((z : Int) < (E : Int)) = false := decide_eq_false (by omega)
      have d4 : decide (z < E) = false := decide_eq_false hfull
      by_cases hgm : gg = 2147483647
      · have HE : Hid (q = (d, 4, ⟨hf, gg, recs, fin, false⟩)) := by rw [← HQ.out]; unfold Lg.onlyS; rw [if_neg (by simp), HBIG.out, if_neg (by simp), HZ.out, HTT.out, if_neg hfull, if_pos hgm]; rfl
        have d5 : ((gg : Int) == 2147483647) = true := by rw [beq_iff_eq]; omega
        clear hgm
        go_wp2_with fail
        refine HPE.out.mono ?_
        rintro e w' ⟨rfl, rfl⟩
        go_wp2
        go_ret
        exact ⟨by rw [HE.out]; rfl, by rw [HE.out]; exact HRLB.out _ HBE.out, Kept.of_below HBE.out⟩
      have d5 : ((gg : Int) == 2147483647) = false := by rw [beq_eq_false_iff_ne]; omega
      obtain ⟨ho, hho⟩ : ∃ ho, 1 - hf = ho := ⟨_, rfl⟩
      have hhi : (1 : Int) - (hf : Int) = (ho : Int) := by omega
      have hho1 : ho ≤ 1 := by omega
      have HHO := Lib.hid hho
      obtain ⟨st, hst⟩ : ∃ st, Lg.start n ho = st := ⟨_, rfl⟩
      have HST := Lib.hid hst
      have hsl := Lg.start_le (n := n) hho1
      rw [hst, HZ.out] at hsl
      have hmul : (ho : Int) * (z : Int) = (st : Int) := by rw [start_mul n z ho HZ.out, hst]
      obtain ⟨y0, hy0⟩ : ∃ y0, Lg.wipeS n st 0 z d = y0 := ⟨_, rfl⟩
      obtain ⟨R, hR⟩ : ∃ R, onlyG n st gn rs 1 0 y0.1 y0.2 = R := ⟨_, rfl⟩
      have HER : Hid (q = Lg.onlyEnd ⟨hf, gg, recs, fin, false⟩ rs R) := by
        unfold Hid
        rw [← HQ.out]
        unfold Lg.onlyS
        rw [if_neg (by simp), HBIG.out, if_neg (by simp), HZ.out, HTT.out, if_neg hfull, if_neg hgm]
        simp only
        rw [hho, HGN.out, hst, fillS_G n st z gn rs d y0 hy0, hR]
      have HY0 : Hid (y0.1.writes ≤ d.writes + z) := by rw [← hy0]; exact Lg.wipeS_writes n st 0 z d
      have HWI : Hid (Calls Try.prog 40 #[.pointer (some ⟨g, 0, none⟩), .int .i64 ho, .int .i64 0] wr fun e w' => e = .returned (.int .i64 y0.2) ∧ Hid (RDiskAt w' g s n y0.1 ∧ Kept (Two g s) wr w')) := by
        have := rwipe_any g s n z ho 0 d wr HDB.out HZ.out hho1 (by omega) (by omega)
        rw [hst, hy0] at this
        exact this.mono fun _ _ ⟨e1, e2, e3⟩ => ⟨e1, e2, e3⟩
      have HR0 := Lib.hid hR
      have HGX : Hid (1 ≤ gn ∧ gn ≤ 2147483647) := by have := HGN.out; unfold Hid; omega
      clear hR hy0 hst hho hgm
      go_wp2_with fail
      refine HPE.out.mono ?_
      rintro e w' ⟨rfl, rfl⟩
      clear HPE
      go_wp2_with fail
      refine HWI.out.mono ?_
      rintro e w2 ⟨rfl, HR2⟩
      have HT2 := Lib.hid (HTB.out.keep HR2.out.2 HNG.out)
      have HK2 : Hid (Kept (Lb lb g s) w w2) := (Kept.of_below HBE.out).trans (HR2.out.2.wide (fun i _ e => .inl e))
      have HD2 := Lib.hid HR2.out.1
      clear HR2 HWI HTB HDB x0 x1 x2 d1 d3 d4 d5 HBE HQ
      have hwm : IntKind.i64.wrap ((ho : Int) * (z : Int)) = (st : Int) := by rw [hmul, IntKind.wrap_i64]; omega
      have hws : IntKind.i64.wrap (st : Int) = (st : Int) := by rw [IntKind.wrap_i64]; omega
      go_wp2_with fail
      go_loopg [8, 9, 10, 11, 12] i (fun gk s8 s9 s10 s11 s12 W => ∃ (j a : Nat) (dc : Dk.D) (ec : Int), j + gk = i ∧ s8 = .int .i64 ec ∧ s9 = .int .i64 a ∧ s11 = .int .i64 j ∧ Hid (a + Lg.sumSecs (rs.drop j) = E) ∧ dc.writes + (Lg.sumSecs (rs.drop j) : Nat) ≤ 960000 ∧ Hid (onlyG n st gn (rs.drop j) a j dc ec = R) ∧ Hid (RDiskAt W g s n dc) ∧ Hid (RTop W lb g hf gg (.slice A0 k c0) fin false) ∧ Hid (RowsAt W w.heap.size (fun i => i < w.heap.size ∨ s10.ownBlock = some i) s10 (rs.take j)) ∧ Hid (Kept (Lb lb g s) w W))
      case atStart =>
        have h1 := HY0.out
        have h2 := HTT.out
        have hws2 := HK2.out.size
        refine ⟨0, 1, y0.1, y0.2, by omega, rfl, rfl, rfl, HTT.out, by simp only [List.drop_zero]; omega, HR0.out, HD2.out.alloc _, HT2.out.below (below_alloc _ _), ?_, HK2.out.alloc _⟩
        exact ⟨[], own_empty w2 w.heap.size hws2 38 1, fun i hi => .inr hi, fun i r hr => by simp at hr⟩
      case round =>
        clear HY0 HR0 HT2 HK2 HD2
        obtain ⟨j, a, dc, ec, hjk, rfl, rfl, rfl, HA, hdw, HRR, HDC, HTC, HRW, HKW⟩ := hrel
        obtain ⟨Au, cu, eu, _, _, _⟩ := HRW.out.slice
        have HTL : Hid ((rs.take j).length = j) := by unfold Hid; rw [List.length_take, HM.out]; omega
        rw [HTL.out] at eu
        subst eu
        have HFG : Hid (∀ i, Two g s i → i < w.heap.size) := fun i hi => HFL.out i (.inl hi)
        by_cases hec : ec = 0
        case neg =>
          have HE : Hid (q = (dc, ec, ⟨hf, gg, recs, fin, true⟩)) := by
            have := HRR.out
            unfold onlyG at this
            rw [if_neg hec] at this
            rw [HER.out, ← this]
            unfold Lg.onlyEnd
            rw [if_neg hec]
            rfl
          have d6 : (ec == 0) = false := beq_eq_false_iff_ne.2 hec
          have d7 : (ec != 0) = true := bne_iff_ne.2 hec
          have z5 := HTC.out.cell 5 (.bool false) rfl
          have f5 := HTC.out.fz 5
          have HT4 : Hid (RTop (wr.setCell ⟨lb, 5, none⟩ (.bool true)) lb g hf gg (.slice A0 k c0) fin true) := HTC.out.set 5 (.bool true) rfl
          have HK4 : Hid (Kept (Lb lb g s) w (wr.setCell ⟨lb, 5, none⟩ (.bool true))) := HKW.out.setCell (p := ⟨lb, 5, none⟩) (.inl (.inr rfl)) _
          have HD4 : Hid (RDiskAt (wr.setCell ⟨lb, 5, none⟩ (.bool true)) g s n dc) := HDC.out.keep (F := fun i => i = lb) ((Kept.refl (fun i => i = lb) wr).setCell (p := ⟨lb, 5, none⟩) (.inl rfl) _) (fun e => HNG.out (.inl e.symm)) (fun e => HNG.out (.inr e.symm))
          have hjd : (decide ((j : Int) < (i : Int)) = true ∧ decide (j < i) = true) ∨ (decide ((j : Int) < (i : Int)) = false ∧ decide (j < i) = false) := by
            by_cases hj : j < i
            · exact .inl ⟨decide_eq_true (by omega), decide_eq_true hj⟩
            · exact .inr ⟨decide_eq_false (by omega), decide_eq_false hj⟩
          clear HRR HA hdw hec
          rcases hjd with ⟨d1, d2⟩ | ⟨d1, d2⟩
          all_goals
            go_wp2
            go_ret
            exact ⟨by rw [HE.out]; rfl, by rw [HE.out]; exact ⟨⟨A0, c0, by simp only; rw [HK.out]; exact HT4.out, HROW.out.keep (HK4.out.wide (fun i _ => .inl))⟩, HD4.out, good_bro HL.out.good⟩, HK4.out⟩
        subst hec
        cases gk with
        | zero =>
          obtain rfl : j = i := by omega
          have HWH : Hid (Lg.wr n dc st (Lg.head gn) = R) := by
            have := HRR.out
            rw [List.drop_eq_nil_of_le (by rw [HM.out]; exact Nat.le_refl _)] at this
            exact this
          have HTK : Hid (rs.take j = rs) := List.take_of_length_le (by rw [HM.out]; exact Nat.le_refl _)
          have d1 : decide ((j : Int) < (j : Int)) = false := decide_eq_false (by omega)
          have x0 := HTC.out.cell 0 (.pointer (some ⟨g, 0, none⟩)) rfl
          have x2 := HTC.out.cell 2 (.int .i64 (gg : Int)) rfl
          have HDD := Lib.hid (HDC.out.below (below_drew wr))
          have HPE : Hid (Calls Try.prog 46 #[.pointer (some ⟨g, 0, none⟩)] wr.drew fun e w' => e = .returned (.int .i64 (z : Nat)) ∧ (w'.cell? ⟨lb, 0, none⟩ = some (.pointer (some ⟨g, 0, none⟩)) ∧ w'.cell? ⟨lb, 2, none⟩ = some (.int .i64 (gg : Int))) ∧ wr.drew = w') := (rper_any g s n z dc wr.drew HDD.out HZ.out).mono fun e w' ⟨e1, e2⟩ => ⟨e1, by subst e2; exact ⟨x0, x2⟩, e2⟩
          have HHD : Hid (Calls Try.prog 38 #[.int .i64 gn] wr.drew fun e w' => ∃ A5 c5, e = .returned (.slice A5 32 c5) ∧ (w'.cell? ⟨lb, 0, none⟩ = some (.pointer (some ⟨g, 0, none⟩)) ∧ w'.cell? ⟨lb, 2, none⟩ = some (.int .i64 (gg : Int))) ∧ Hid (OwnB w' wr.heap.size (.slice A5 32 c5) (Lg.head gn) ∧ Below wr.heap.size wr w')) := by
            refine (rhead_any gn hgn4 wr.drew).mono fun e w' ⟨A5, c5, e1, e2, e3⟩ => ?_
            have hb' : Below wr.heap.size wr w' := ⟨e3.os, e3.tape, e3.output, e3.size, e3.block⟩
            have ht := HTC.out.below hb'
            exact ⟨A5, c5, e1, ⟨ht.cell 0 _ rfl, ht.cell 2 _ rfl⟩, e2, hb'⟩
          have HWR : Hid (∀ w5 A5 c5, Hid (OwnB w5 wr.heap.size (.slice A5 32 c5) (Lg.head gn) ∧ Below wr.heap.size wr w5) → Calls Try.prog 37 #[.pointer (some ⟨g, 0, none⟩), .int .i64 st, .slice A5 32 c5] w5 fun e w' => e = .returned (.int .i64 R.2) ∧ (w'.cell? ⟨lb, 0, none⟩ = some (.pointer (some ⟨g, 0, none⟩)) ∧ w'.cell? ⟨lb, 2, none⟩ = some (.int .i64 (gg : Int))) ∧ Hid (RDiskAt w' g s n R.1 ∧ RTop w' lb g hf gg (.slice A0 k c0) fin false ∧ Kept (Two g s) wr w')) := fun w5 A5 c5 h5 => by
            obtain ⟨Ax, cx, e, _, _, hby⟩ := h5.out.1.slice
            injection e with e1 e2 e3
            subst e1
            have h1 := HDC.out.ltg
            have h2 := HDC.out.lts
            refine (rwr_any g s n dc st (st : Int) rfl A5 32 c5 (Lg.head gn) w5 (HDC.out.below h5.out.2) (by omega) (Lg.head_len gn) (by omega) (hby _ (fun i hi => by rcases hi with e | e <;> omega)) R HWH.out).mono fun e w' ⟨e1, e2, e3⟩ => ?_
            have ht := (HTC.out.below h5.out.2).keep e3 HNG.out
            exact ⟨e1, ⟨ht.cell 0 _ rfl, ht.cell 2 _ rfl⟩, e2, ht, (Kept.of_below h5.out.2).trans e3⟩
          clear HRR HWH HA hdw
          go_wp2_with fail
          go_region_held3 (fun w' => w'.cell? ⟨lb, 0, none⟩ = some (.pointer (some ⟨g, 0, none⟩)) ∧ w'.cell? ⟨lb, 2, none⟩ = some (.int .i64 (gg : Int))) (first | exact hs6 | exact hs5 | exact hs4 | exact ⟨x0, x2⟩)
            (first
              | (go_at_call 37; refine (HWR.out w5 A5 c5 HR5).mono ?_; rintro e w6 ⟨rfl, hs6, HR6⟩)
              | (go_at_call 38; refine HHD.out.mono ?_; rintro e w5 ⟨A5, c5, rfl, hs5, HR5⟩)
              | (go_at_call 46; refine HPE.out.mono ?_; rintro e w4 ⟨rfl, hs4, rfl⟩))
          clear HPE HHD HWR hs4 hs5 hs6 HR5 x0 x2
          have HD6 := Lib.hid HR6.out.1
          have HT6 := Lib.hid HR6.out.2.1
          have HK6 : Hid (Kept (Lb lb g s) w w6) := HKW.out.trans (HR6.out.2.2.wide (fun i _ e => .inl e))
          have HRW6 : Hid (RowIn (fun i => Lb lb g s i ∨ G i) w6 Au rs) := by
            have hr := HRW.out.keep (G := Two g s) HR6.out.2.2 (fun i _ hi => .inl (HFG.out i hi)) (fun i hi e => by
              have h1 := HFG.out i e
              have h2 := (HRW.out.choose_spec.1.lt i hi).1
              omega)
            obtain ⟨Az, cz, ez, _, _, hrow⟩ := hr.slice
            injection ez with ez1 ez2 ez3
            subst ez1
            have hFG : ∀ i, (Lb lb g s i ∨ G i) → i < w.heap.size := fun i hi => by
              rcases hi with hi | hi
              · exact HFL.out i hi
              · exact HG.out i hi
            have := hrow (fun i => Lb lb g s i ∨ G i) (fun i _ hi => .inl (hFG i hi)) (fun i hi e => by
              have h1 := hFG i e
              have h2 := (HRW.out.choose_spec.1.lt i hi).1
              omega)
            rw [HTK.out] at this
            exact this
          clear HR6 HRW HTC HDC HKW HDD
          by_cases hR2 : R.2 = 0
          case neg =>
            have HE : Hid (q = (R.1, R.2, ⟨hf, gg, recs, fin, true⟩)) := by rw [HER.out]; unfold Lg.onlyEnd; rw [if_neg hR2]; rfl
            have d7 : (R.2 != 0) = true := bne_iff_ne.2 hR2
            have z5 := HT6.out.cell 5 (.bool false) rfl
            have f5 := HT6.out.fz 5
            have HT4 : Hid (RTop (w6.setCell ⟨lb, 5, none⟩ (.bool true)) lb g hf gg (.slice A0 k c0) fin true) := HT6.out.set 5 (.bool true) rfl
            have HK4 : Hid (Kept (Lb lb g s) w (w6.setCell ⟨lb, 5, none⟩ (.bool true))) := HK6.out.setCell (p := ⟨lb, 5, none⟩) (.inl (.inr rfl)) _
            have HD4 : Hid (RDiskAt (w6.setCell ⟨lb, 5, none⟩ (.bool true)) g s n R.1) := HD6.out.keep (F := fun i => i = lb) ((Kept.refl (fun i => i = lb) w6).setCell (p := ⟨lb, 5, none⟩) (.inl rfl) _) (fun e => HNG.out (.inl e.symm)) (fun e => HNG.out (.inr e.symm))
            go_wp2
            go_ret
            exact ⟨by rw [HE.out]; rfl, by rw [HE.out]; exact ⟨⟨A0, c0, by simp only; rw [HK.out]; exact HT4.out, HROW.out.keep (HK4.out.wide (fun i _ => .inl))⟩, HD4.out, good_bro HL.out.good⟩, HK4.out⟩
          have HE : Hid (q = (R.1, 0, ⟨ho, gn, rs, E, false⟩)) := by rw [HER.out]; unfold Lg.onlyEnd; rw [if_pos hR2]; simp only; rw [HHO.out, HGN.out, HTT.out]; rfl
          have d7 : (R.2 != 0) = false := by rw [hR2]; rfl
          have z1 := HT6.out.cell 1 (.int .i64 (hf : Int)) rfl
          have z2 := HT6.out.cell 2 (.int .i64 (gg : Int)) rfl
          have z3 := HT6.out.cell 3 (.slice A0 k c0) rfl
          have z4 := HT6.out.cell 4 (.int .i64 (fin : Int)) rfl
          have f1 := HT6.out.fz 1
          have f2 := HT6.out.fz 2
          have f3 := HT6.out.fz 3
          have f4 := HT6.out.fz 4
          have HT7 : Hid (RTop ((((w6.setCell ⟨lb, 1, none⟩ (.int .i64 (ho : Int))).setCell ⟨lb, 2, none⟩ (.int .i64 (gn : Int))).setCell ⟨lb, 3, none⟩ (.slice Au j cu)).setCell ⟨lb, 4, none⟩ (.int .i64 (E : Int))) lb g ho gn (.slice Au j cu) E false) := (((HT6.out.set 1 (.int .i64 (ho : Int)) rfl).set 2 (.int .i64 (gn : Int)) rfl).set 3 (.slice Au j cu) rfl).set 4 (.int .i64 (E : Int)) rfl
          have hk7 : ∀ F : Nat → Prop, F lb → Kept F w6 ((((w6.setCell ⟨lb, 1, none⟩ (.int .i64 (ho : Int))).setCell ⟨lb, 2, none⟩ (.int .i64 (gn : Int))).setCell ⟨lb, 3, none⟩ (.slice Au j cu)).setCell ⟨lb, 4, none⟩ (.int .i64 (E : Int))) := fun F hF => ((((Kept.refl F w6).setCell (p := ⟨lb, 1, none⟩) (.inl hF) _).setCell (p := ⟨lb, 2, none⟩) (.inl hF) _).setCell (p := ⟨lb, 3, none⟩) (.inl hF) _).setCell (p := ⟨lb, 4, none⟩) (.inl hF) _
          have HK7 := Lib.hid hk7
          clear hk7
          go_wp2
          go_ret
          have hgd := HL.out.good
          have hlb := HK7.out (Lb lb g s) (.inr rfl)
          refine ⟨by rw [HE.out]; rfl, ?_, HK6.out.trans hlb⟩
          rw [HE.out]
          refine ⟨⟨Au, cu, by simp only; rw [HM.out]; exact HT7.out, HRW6.out.keep (hlb.wide (fun i _ => .inl))⟩, HD6.out.keep (HK7.out (fun i => i = lb) rfl) (fun e => HNG.out (.inl e.symm)) (fun e => HNG.out (.inr e.symm)), ⟨hho1, HGX.out.1, HGX.out.2, by simp only; rw [HZ.out]; omega, ?_, bigB_false HBIG.out⟩⟩
          have h1 := Lg.sumSecs_len rs
          have h2 := HTT.out
          simp only
          omega
        | succ gk =>
          obtain ⟨r, hr⟩ := some_at rs j (by rw [HM.out]; omega)
          obtain ⟨ad, v, rfl, hadl, hadn, hc, B, cc, rfl, hcc, hcm, hby⟩ := (HB.out.keep HKW.out) j r hr
          obtain ⟨mr, hmr⟩ : ∃ mr, r.length = mr := ⟨_, rfl⟩
          rw [hmr] at hc hcc
          have HMR := Lib.hid hmr
          have HBYR := Lib.hid hby
          have d1 : decide ((j : Int) < (i : Int)) = true := decide_eq_true (by omega)
          have d2 : decide (j < i) = true := decide_eq_true (by omega)
          have h200 : mr ≤ 200 := by rw [← hmr]; exact bigB_false HBIG.out r (List.mem_of_getElem? hr)
          obtain ⟨K, hK⟩ : ∃ K, Lg.secs mr = K := ⟨_, rfl⟩
          obtain ⟨LG, hLG⟩ : ∃ LG, 32 * K = LG := ⟨_, rfl⟩
          have hK7 : K ≤ 7 := by rw [← hK]; exact Lg.secs_le mr (by omega)
          have hK1 : 1 ≤ K := by rw [← hK]; exact Lg.secs_pos mr
          have hdiv : (LG : Int) / 32 = (K : Int) := by omega
          have hLG3 : LG ≤ 300 := by omega
          have hi0 : (0 : Int) ≤ (j : Int) := by omega
          have hi1 : (j : Int) < (i : Int) := by omega
          have x2 := HTC.out.cell 2 (.int .i64 (gg : Int)) rfl
          have HDR := Lib.hid (drop_at hr)
          obtain ⟨S2, hS2⟩ : ∃ S2, Lg.sumSecs (rs.drop (j + 1)) = S2 := ⟨_, rfl⟩
          have hSS : Lg.sumSecs (rs.drop j) = K + S2 := by
            rw [HDR.out, ← hS2]
            show Lg.secs r.length + _ = _
            rw [hmr, hK]
          have hA := HA.out
          rw [hSS] at hA hdw
          have haz : a ≤ 3000 := by omega
          have HA' : Hid (a + K + Lg.sumSecs (rs.drop (j + 1)) = E) := by unfold Hid; omega
          have hsum : a + K ≤ z := by omega
          obtain ⟨y, hy⟩ : ∃ y, Lg.layS n (st + a) (Lg.recd r gn j) (K - 1) 1 dc = y := ⟨_, rfl⟩
          have HYW : Hid (y.1.writes ≤ dc.writes + K) := by
            have := Lg.layS_writes n (st + a) (Lg.recd r gn j) (K - 1) 1 dc
            rw [hy] at this
            unfold Hid
            omega
          have HRR' : Hid (onlyG n st gn (rs.drop (j + 1)) (a + K) (j + 1) y.1 y.2 = R) := by
            have := HRR.out
            rw [HDR.out, onlyG_step n st gn r (rs.drop (j + 1)) a j K (by rw [hmr, hK]) dc y hy] at this
            exact this
          have HLN : Hid ((Lg.recd r gn j).length = LG) := by unfold Hid; rw [Lg.recd_len, hmr, hK, hLG]
          have HLA : Hid (Calls Try.prog 28 #[.slice B mr cc, .int .i64 gn, .int .i64 j] wr.drew fun e w' => ∃ A1 c1, e = .returned (.slice A1 LG c1) ∧ (w'.cell? (ad.add j) = some (.slice B mr cc) ∧ w'.cell? ⟨lb, 2, none⟩ = some (.int .i64 (gg : Int))) ∧ w'.cell? ⟨lb, 0, none⟩ = some (.pointer (some ⟨g, 0, none⟩)) ∧ Hid (OwnB w' wr.heap.size (.slice A1 LG c1) (Lg.recd r gn j) ∧ Below wr.heap.size wr w')) := by
            have := rlaid_any B mr cc r gn j wr.drew hmr (by omega) hcc hcm (by omega) (by omega) (CellsIn.less (CellsIn.keep hby (Kept.of_below (below_drew wr))) (fun _ _ => False.elim))
            rw [hK, hLG] at this
            refine this.mono fun e w' ⟨A1, c1, e1, e2, e3⟩ => ?_
            have hb' : Below wr.heap.size wr w' := ⟨e3.os, e3.tape, e3.output, e3.size, e3.block⟩
            have ht := HTC.out.below hb'
            exact ⟨A1, c1, e1, ⟨((Kept.of_below (F := No) hb').cell (by rw [block_add]; exact hadl) id).trans hc, ht.cell 2 _ rfl⟩, ht.cell 0 _ rfl, e2, hb'⟩
          have HLY : Hid (∀ w1 A1 c1, Hid (OwnB w1 wr.heap.size (.slice A1 LG c1) (Lg.recd r gn j) ∧ Below wr.heap.size wr w1) → Calls Try.prog 47 #[.pointer (some ⟨g, 0, none⟩), .int .i64 ho, .int .i64 a, .slice A1 LG c1] w1 fun e w' => e = .returned (.int .i64 y.2) ∧ (w'.alloc (.cells #[] 5)).cell? (ad.add j) = some (.slice B mr cc) ∧ Hid (RDiskAt w' g s n y.1 ∧ RTop w' lb g hf gg (.slice A0 k c0) fin false ∧ Kept (Two g s) wr w')) := fun w1 A1 c1 h5 => by
            have h1 := HDC.out.ltg
            have h2 := HDC.out.lts
            obtain ⟨Ax, cx, ex, hc1, _, hby1⟩ := h5.out.1.slice
            injection ex with e1 e2 e3
            subst e1 e3
            have := rlay_any g s n z ho a K dc A1 LG c1 (Lg.recd r gn j) w1 (HDC.out.below h5.out.2) HZ.out hho1 hK1 (by rw [HST.out]; omega) (by omega) HLN.out hLG.symm (by rw [HLN.out] at hc1; exact hc1) (hby1 _ (fun i hi => by rcases hi with e | e <;> omega))
            rw [HST.out, hy] at this
            refine this.mono fun e w' ⟨e1, e2, e3⟩ => ?_
            have hk : Kept (Two g s) wr w' := (Kept.of_below h5.out.2).trans e3
            exact ⟨e1, ((hk.alloc _).cell (by rw [block_add]; exact hadl) (by rw [block_add]; exact fun e => hadn (.inl e))).trans hc, e2, HTC.out.keep hk HNG.out, hk⟩
          have HTK : Hid (rs.take (j + 1) = rs.take j ++ [r]) := by unfold Hid; rw [List.take_add_one, hr]; rfl
          have HA2 : Hid (∀ w3, Hid (RDiskAt w3 g s n y.1 ∧ RTop w3 lb g hf gg (.slice A0 k c0) fin false ∧ Kept (Two g s) wr w3) → ∃ v' w', (Builtin.append_ #[38, 38] 38 #[.slice (some ⟨w3.heap.size, 0, none⟩) 0 0, .slice B mr cc]).run Try.prog (w3.alloc (.cells #[] 5)) = .ok v' w' ∧ RowR w3 r mr v' w') := fun w3 h3 => by
            have ho' : RowO w3 (w3.alloc (.cells #[] 5)) (.slice (some ⟨w3.heap.size, 0, none⟩) 0 0) [] := ⟨own_empty w3 w3.heap.size (Nat.le_refl _) 5 1, below_alloc _ _⟩
            exact ho'.app No B mr cc r HMR.out (CellsIn.less (CellsIn.keep HBYR.out ((h3.out.2.2.alloc _).wide (fun i _ e => .inl e))) (fun _ _ => False.elim)) mr (by simp) (by omega)
          have HA3 : Hid (∀ w3 w5 A5 c5, Hid (RDiskAt w3 g s n y.1 ∧ RTop w3 lb g hf gg (.slice A0 k c0) fin false ∧ Kept (Two g s) wr w3) → Hid (RowO w3 w5 (.slice A5 mr c5) r) → ∃ v' w', (Builtin.append_ #[45, 45] 45 #[.slice Au j cu, .slice (some ⟨w5.heap.size, 0, none⟩) 1 1]).run Try.prog (w5.alloc (.cells #[.slice A5 mr c5] 38)) = .ok v' w' ∧ Hid (RDiskAt w' g s n y.1 ∧ RTop w' lb g hf gg (.slice A0 k c0) fin false ∧ RowsAt w' w.heap.size (fun i => i < w.heap.size ∨ v'.ownBlock = some i) v' (rs.take (j + 1)) ∧ Kept (Lb lb g s) w w')) := fun w3 w5 A5 c5 h3 h5 => by
            obtain ⟨Ay, cy, ey, hm3, hc3, hby3⟩ := h5.out.own.slice
            injection ey with ey1 ey2 ey3
            subst ey1 ey3
            have hws := HKW.out.size
            have hws3 := h3.out.2.2.size
            have hws5 := h5.out.bel.size
            have hr3 := HRW.out.keep (G := Two g s) h3.out.2.2 (fun i _ hi => .inl (HFG.out i hi)) (fun i hi e => by
              have h1 := HFG.out i e
              have h2 := (HRW.out.choose_spec.1.lt i hi).1
              omega)
            have hr5 := hr3.keep (G := No) (Kept.of_below h5.out.bel) (fun _ _ => False.elim) (fun _ _ => id)
            obtain ⟨v', w', e0, a1, a2, a3, a4, _⟩ := rows_app w5 w.heap.size _ _ (rs.take j) hr5 (by omega) (by rw [HTL.out]; omega) (.slice A5 mr c5) r ⟨A5, c5, by rw [HMR.out], hm3, hc3, hby3 _ (fun i hi => by
              rcases hi with hi | hi
              · omega
              · have := (HRW.out.choose_spec.1.lt i hi).2
                omega)⟩
            have hnl : ∀ i, i < w.heap.size → ¬ (Value.slice Au j cu).ownBlock = some i := fun i hi e => by
              have := (HRW.out.choose_spec.1.lt i e).1
              omega
            have hk5 : Kept (Lb lb g s) w w5 := (HKW.out.trans (h3.out.2.2.wide (fun i _ e => .inl e))).trans (Kept.of_below h5.out.bel)
            refine ⟨v', w', e0, (h3.out.1.below h5.out.bel).keep a2 (hnl _ (HFG.out g (.inl rfl))) (hnl _ (HFG.out s (.inr rfl))), (h3.out.2.1.below h5.out.bel).keep a2 (hnl _ (HFL.out lb (.inr rfl))), ?_, hk5.step a2 (fun i hi e => absurd e (hnl i hi))⟩
            rw [HTK.out]
            refine RowsAt.wide a1 (fun i _ hi => ?_) (fun i hi => .inr hi)
            rcases hi with hi | hi
            · exact .inl (.inl hi)
            · exact .inr hi
          have hwK : IntKind.i64.wrap (K : Int) = (K : Int) := by rw [IntKind.wrap_i64]; omega
          have HS2 := Lib.hid hS2
          clear hr hmr hby hK hLG hadl hadn hy hS2 hSS hA HA HRR HDR hsum
          go_wp2_with fail
          go_region_held3 (fun w' => w'.cell? (ad.add j) = some (.slice B mr cc) ∧ w'.cell? ⟨lb, 2, none⟩ = some (.int .i64 (gg : Int))) (first | exact hs1 | exact ⟨hc, x2⟩)
            (first | (go_at_call 28; refine HLA.out.mono ?_; rintro e w1 ⟨A1, c1, rfl, hs1, x0, HR1⟩))
          clear hs1 HLA hc x2
          go_wp2_with fail
          refine (HLY.out w1 A1 c1 HR1).mono ?_
          rintro e w3 ⟨rfl, hc3, HR3⟩
          clear HLY x0 HR1
          go_wp2_with (at_builtin; first
            | (refine wpList_append_any rfl (.tmp 104) (.tmp 111) 45 45 rfl _ _ rfl rfl _ (HA3.out w3 w5 A5 c5 HR3 HR5) ?_; intro v6 w6 HR6)
            | (refine wpList_append_any rfl (.tmp 105) (.tmp 109) 38 38 rfl _ _ rfl rfl _ (HA2.out w3 HR3) ?_; intro v5 w5 hap; obtain ⟨A5, c5, rfl, HR5⟩ := hap))
          go_roundg gk
          case measure => omega
          case rel =>
            refine ⟨j + 1, a + K, y.1, y.2, by omega, rfl, by first | rfl | go_num, by first | rfl | go_num, HA'.out, ?_, HRR'.out, HR6.out.1, HR6.out.2.1, HR6.out.2.2.1, HR6.out.2.2.2⟩
            have h1 := HYW.out
            have h2 := HS2.out
            omega
end Go.Proofs.Ytoocifoglhhnmaa
