/- The document's log: Scan. -/
import Derived.Test.YtoocifoglhhnmaaLogRefE
namespace Go.Proofs.Ytoocifoglhhnmaa
open Go.RowKit
set_option linter.unusedVariables false

theorem rscan_stop (b : Dk.Bs) (s size g f a p : Nat) (h : Lg.recAt b s size g a p = none) : Lg.scan b s size g f a p = ([], a) := by
  cases f with
  | zero => rfl
  | succ f => unfold Lg.scan; rw [h]
theorem rscan_go (b : Dk.Bs) (s size g f a p : Nat) (r : Dk.Bs) (h : Lg.recAt b s size g a p = some r) : Lg.scan b s size g (f + 1) a p = (r :: (Lg.scan b s size g f (a + Lg.secs r.length) (p + 1)).1, (Lg.scan b s size g f (a + Lg.secs r.length) (p + 1)).2) := by
  rw [show Lg.scan b s size g (f + 1) a p = (match Lg.recAt b s size g a p with
    | none => ([], a)
    | some r => (r :: (Lg.scan b s size g f (a + Lg.secs r.length) (p + 1)).1, (Lg.scan b s size g f (a + Lg.secs r.length) (p + 1)).2)) from rfl, h]

/-- what Scan answers -/
def ScanR (w : World) (rs : List Dk.Bs) (fin : Nat) (e : Ending) (w' : World) : Prop :=
  ∃ A' c', e = .returned (.tuple #[.slice A' rs.length c', .int .i64 fin]) ∧ RowIn (fun i => i < w.heap.size) w' A' rs ∧ Below w.heap.size w w'
theorem scanR_of {w W : World} {v : Value} {done rs : List Dk.Bs} {a fin : Nat} (h : RowsAt W w.heap.size (fun i => i < w.heap.size ∨ v.ownBlock = some i) v done) (hb : Below w.heap.size w W) (h1 : done = rs) (h2 : a = fin) : ScanR w rs fin (.returned (.tuple #[v, .int .i64 (a : Int)])) W := by
  subst h1 h2
  obtain ⟨A, c, e, _, _, hrow⟩ := h.slice
  refine ⟨A, c, by rw [e], hrow _ (fun i _ hi => .inl hi) (fun i hi hlt => ?_), hb⟩
  obtain ⟨vs, ho, _⟩ := h
  have := (ho.lt i hi).1
  omega

set_option maxHeartbeats 2000000 in
set_option maxRecDepth 100000 in
theorem rscan_any (A : Option Addr) (N c st size g n : Nat) (b : Dk.Bs) (w : World) (hlen : b.length = 32 * n) (hst : st + size ≤ n) (hN : 32 * size = N) (hNc : N ≤ c) (hc : c ≤ 200000) (hs1 : 1 ≤ size) (hg : g ≤ 4294967295) (hb : BytesIn No w A (Lg.cut b st size)) (rs : List Dk.Bs) (fin : Nat) (hr1 : (Lg.scan b st size g size 1 0).1 = rs) (hr2 : (Lg.scan b st size g size 1 0).2 = fin) :
    Calls Try.prog 39 #[.slice A N c, .int .i64 g] w fun e w' => ScanR w rs fin e w' := by
  have HBY : Hid (∀ W, Below w.heap.size w W → BytesIn No W A (Lg.cut b st size)) := fun W hb' => CellsIn.keep hb (Kept.of_below hb')
  have HN := Lib.hid hN
  have HCL : Hid ((Lg.cut b st size).length = N) := by unfold Hid; rw [Lg.cut_len hlen hst, hN]
  have HLEN := Lib.hid hlen
  have HR1 := Lib.hid hr1
  have HR2 := Lib.hid hr2
  have hN2 : N ≤ 200000 := by omega
  have hN32 : 32 ≤ N := by omega
  clear hb hN hlen hr1 hr2
  go_enter Try.func39, Try.ntmps39
  go_wp2_with fail
  go_loopg [6, 7, 8, 9, 10] size (fun gk s6 s7 s8 s9 s10 W => ∃ (a t p : Nat) (done : List Dk.Bs), s7 = .int .i64 t ∧ a ≤ size ∧ 1 ≤ a ∧ size + 1 ≤ a + gk ∧ p < a ∧ t ≤ N ∧ Hid (t = 32 * a) ∧ Hid (done.length = p) ∧ Hid (done ++ (Lg.scan b st size g gk a p).1 = rs ∧ (Lg.scan b st size g gk a p).2 = fin) ∧ Hid (RowsAt W w.heap.size (fun i => i < w.heap.size ∨ s6.ownBlock = some i) s6 done) ∧ Hid (Below w.heap.size w W))
  case atStart =>
    refine ⟨1, 32, 0, [], rfl, hs1, Nat.le_refl _, by omega, by omega, by omega, rfl, rfl, ⟨by rw [List.nil_append]; exact HR1.out, HR2.out⟩, ?_, below_alloc _ _⟩
    exact ⟨[], own_empty w w.heap.size (Nat.le_refl _) 38 1, fun i hi => .inr hi, fun i r hr => by simp at hr⟩
  case round =>
    clear HR1 HR2
    obtain ⟨a, t, p, done, rfl, ha1, ha2, hgk, hpa, ht1, HT, HP, HS, HRW, HBE⟩ := hrel
    have ht := HT.out
    have hNs := HN.out
    have hdt : (t : Int) / 32 = (a : Int) := by omega
    by_cases hfull : size ≤ a
    · have HE := HS.out
      rw [rscan_stop b st size g gk a p (by unfold Lg.recAt; rw [if_pos hfull])] at HE
      have HX : Hid (done = rs) := by have := HE.1; rw [List.append_nil] at this; exact this
      have HY := Lib.hid HE.2
      have d1 : decide ((t : Int) + 32 ≤ (N : Int)) = false := decide_eq_false (by omega)
      have d2 : decide (t + 32 ≤ N) = false := decide_eq_false (by omega)
      clear HE HS ht hNs
      go_wp2
      go_ret2
      exact scanR_of HRW.out HBE.out HX.out HY.out
    obtain ⟨f, rfl⟩ : ∃ f, gk = f + 1 := ⟨gk - 1, by omega⟩
    have d1 : decide ((t : Int) + 32 ≤ (N : Int)) = true := decide_eq_true (by omega)
    have d2 : decide (t + 32 ≤ N) = true := decide_eq_true (by omega)
    obtain ⟨An, hsn, hsnb⟩ := slice_any A N c t (t + 2) 2 (t : Int) ((t : Int) + 2) rfl (by omega) rfl (by omega) hNc
    have HTK : Hid (((Lg.cut b st size).drop t).take 2 = (Dk.sec b (st + a)).take 2) := by
      unfold Hid
      rw [← cut_sec b st size a (by omega), ht, List.take_take]
      rfl
    obtain ⟨m, hm⟩ : ∃ m, Lg.num ((Dk.sec b (st + a)).take 2) = m := ⟨_, rfl⟩
    have HNU : Hid (Calls Try.prog 66 #[.slice An 2 (c - t)] wr fun e w' => e = .returned (.int .i64 (m : Nat)) ∧ wr = w') := by
      have hby := hsnb No wr _ HCL.out (HBY.out wr HBE.out)
      rw [HTK.out] at hby
      have := rnumber_any No An 2 (c - t) _ wr (by rw [List.length_take, Dk.sec_len HLEN.out (by omega)]; rfl) (by omega) hby
      rw [hm] at this
      exact this
    have hm65 : m < 65536 := by
      have h1 := Lg.num_lt ((Dk.sec b (st + a)).take 2)
      rw [List.length_take, Dk.sec_len HLEN.out (by omega), hm, show (256 : Nat) ^ min 2 32 = 65536 from by decide] at h1
      exact h1
    have HMN := Lib.hid hm
    clear hsnb HTK ht hNs hm
    go_wp2_with fail
    refine HNU.out.mono ?_
    rintro e w' ⟨rfl, rfl⟩
    clear HNU hsn
    have ht := HT.out
    have hNs := HN.out
    have hm := HMN.out
    have hwa : st + a < n := by omega
    by_cases h200 : 200 < m
    · have HE := HS.out
      rw [rscan_stop b st size g (f + 1) a p (by unfold Lg.recAt; rw [if_neg hfull, hm, if_pos h200])] at HE
      have HX : Hid (done = rs) := by have := HE.1; rw [List.append_nil] at this; exact this
      have HY := Lib.hid HE.2
      have d3 : decide ((200 : Int) < (m : Int)) = true := decide_eq_true (by omega)
      clear HE HS ht hNs hm
      go_wp2
      go_ret2
      exact scanR_of HRW.out HBE.out HX.out HY.out
    have d3 : decide ((200 : Int) < (m : Int)) = false := decide_eq_false (by omega)
    obtain ⟨K, hK⟩ : ∃ K, Lg.secs m = K := ⟨_, rfl⟩
    obtain ⟨LG, hLG⟩ : ∃ LG, 32 * K = LG := ⟨_, rfl⟩
    have hKm : K = 1 + (m - 17 + 31) / 32 := by rw [← hK]; rfl
    have hK7 : K ≤ 7 := by omega
    by_cases h17 : m ≤ 17
    · have d17 : decide ((17 : Int) < (m : Int)) = false := decide_eq_false (by omega)
      obtain rfl : K = 1 := by omega
      obtain rfl : LG = 32 := by omega
      by_cases hroom : size < a + 1
      · have HE := HS.out
        rw [rscan_stop b st size g (f + 1) a p (by unfold Lg.recAt; rw [if_neg hfull, hm, if_neg h200, hK, if_pos hroom])] at HE
        have HX : Hid (done = rs) := by have := HE.1; rw [List.append_nil] at this; exact this
        have HY := Lib.hid HE.2
        have d4 : decide ((N : Int) < (t : Int) + 32) = true := decide_eq_true (by omega)
        have d5 : decide (N < t + 32) = true := decide_eq_true (by omega)
        clear HE HS ht hNs hm hK hKm hLG 
        go_wp2
        go_ret2
        exact scanR_of HRW.out HBE.out HX.out HY.out
      have d4 : decide ((N : Int) < (t : Int) + 32) = false := decide_eq_false (by omega)
      have d5 : decide (N < t + 32) = false := decide_eq_false (by omega)
      obtain ⟨Al, hsl, hslb⟩ := slice_any A N c t (t + 32) 32 (t : Int) ((t : Int) + 32) rfl (by omega) rfl (by omega) hNc
      have HCC : Hid (((Lg.cut b st size).drop t).take 32 = Lg.cut b (st + a) 1) := by
        unfold Hid
        rw [← cut_cut b st size a 1 (by omega), ht, Nat.mul_one]
      have HCKL : Hid ((Lg.cut b (st + a) 1).length = 32) := by unfold Hid; rw [Lg.cut_len HLEN.out (by omega), Nat.mul_one]
      have hmin : min (m : Int) 17 = (m : Int) := by omega
      obtain ⟨A1, hs1', hs1b⟩ := slice_any A N c (t + 14) (t + 14 + m) m ((t : Int) + 14) ((t : Int) + 14 + (m : Int)) (by omega) (by omega) rfl (by omega) hNc
      obtain ⟨r, hr⟩ : ∃ r, Lg.own (Lg.cut b (st + a) 1) m = r := ⟨_, rfl⟩
      have HP1 : Hid (((Lg.cut b st size).drop (t + 14)).take m = r) := by
        unfold Hid
        rw [← hr, ← HCC.out]
        unfold Lg.own
        rw [show min m 17 = m by omega, show m - 17 = 0 by omega, List.take_zero, List.append_nil, List.drop_take, List.drop_drop, List.take_take, show min m (32 - 14) = m by omega]
      have HRL : Hid (r.length = m) := by unfold Hid; rw [← hr, Lg.own_len _ m (by rw [HCKL.out, hK, Nat.mul_one])]
      have HRA : Hid (Lg.cut b (st + a) 1 = Lg.recd r g p ∧ Lg.recAt b st size g a p = some r ∨ Lg.cut b (st + a) 1 ≠ Lg.recd r g p ∧ Lg.recAt b st size g a p = none) := by
        unfold Hid Lg.recAt
        rw [if_neg hfull, hm, if_neg h200, hK, if_neg hroom, hr]
        by_cases h : Lg.cut b (st + a) 1 = Lg.recd r g p
        · exact .inl ⟨h, if_pos h⟩
        · exact .inr ⟨h, if_neg h⟩
      have HKK := Lib.hid hK
      have HLG7 : Hid (32 ≤ 300) := by unfold Hid; omega
      clear ht hNs hm hKm hr hK hLG
      have HA1 : Hid (∃ v' w', (Builtin.append_ #[38, 38] 38 #[.slice (some ⟨wr.heap.size, 0, none⟩) 0 0, .slice A1 m (c - (t + 14))]).run Try.prog (wr.alloc (.cells #[] 5)) = .ok v' w' ∧ RowR wr r m v' w') := by
        have ho : RowO wr (wr.alloc (.cells #[] 5)) (.slice (some ⟨wr.heap.size, 0, none⟩) 0 0) [] := ⟨own_empty wr wr.heap.size (Nat.le_refl _) 5 1, below_alloc _ _⟩
        have hby := hs1b No (wr.alloc (.cells #[] 5)) _ HCL.out (HBY.out _ (HBE.out.trans ((below_alloc wr _).mono HBE.out.size)))
        rw [HP1.out] at hby
        exact ho.app No A1 m _ r HRL.out hby m (by simp) (by omega)
      clear hs1b
      go_wp2_with (at_builtin; refine wpList_append_any rfl (.tmp 39) (.tmp 48) 38 38 rfl _ _ rfl rfl _ HA1.out ?_; intro v2 w2 hap; obtain ⟨A2, c2, rfl, HT2⟩ := hap)
      clear HA1 HP1 hs1' hmin
      have HOWN := Lib.hid HT2.out.own
      obtain ⟨Ay, cy, ey, hmc2, hcx2, hby2⟩ := HT2.out.own.slice
      injection ey with ey1 ey2 ey3
      subst ey1 ey3
      clear ey2
      rw [HRL.out] at hmc2
      have HBW2 : Hid (Below w.heap.size w w2) := HBE.out.trans (HT2.out.bel.mono HBE.out.size)
      have HBWD : Hid (Below w.heap.size w w2.drew) := ⟨HBW2.out.os, HBW2.out.tape, HBW2.out.output, HBW2.out.size, HBW2.out.block⟩
      have HRB : Hid (∀ W, Below w2.heap.size w2 W → OwnB W wr.heap.size (.slice A2 m c2) r) := fun W hb => HT2.out.own.below hb
      have HG1 : Hid (Calls Try.prog 28 #[.slice A2 m c2, .int .i64 g, .int .i64 p] w2.drew fun e w' => ∃ A' c', e = .returned (.slice A' 32 c') ∧ OwnB w' w2.drew.heap.size (.slice A' 32 c') (Lg.recd r g p) ∧ Below w2.drew.heap.size w2.drew w') := by
        have := rlaid_any A2 m c2 r g p w2.drew HRL.out (by omega) hmc2 hcx2 hg (by omega) (CellsIn.keep (hby2 No (fun _ h => h.elim)) (Kept.of_below (below_drew w2)))
        rw [HKK.out, show 32 * 1 = 32 from rfl] at this
        exact this
      obtain ⟨T, hT⟩ : ∃ T, decide (Lg.cut b (st + a) 1 = Lg.recd r g p) = T := ⟨_, rfl⟩
      have HG2 : Hid (∀ w3 A3 c3, OwnB w3 w2.drew.heap.size (.slice A3 32 c3) (Lg.recd r g p) → Below w2.drew.heap.size w2.drew w3 → Calls Try.prog 53 #[.slice Al 32 (c - t), .slice A3 32 c3] w3 fun e w' => e = .returned (.bool T) ∧ Hid (Below w2.heap.size w2 w')) := fun w3 A3 c3 ho hb => by
        have hb' : Below w2.heap.size w2 w3 := ⟨hb.os, hb.tape, hb.output, hb.size, hb.block⟩
        obtain ⟨Ax, cx, e, _, _, hby⟩ := ho.slice
        injection e with e1 e2 e3
        subst e1
        have hbl := hslb No w3 _ HCL.out (HBY.out w3 (HBW2.out.trans (hb'.mono HBW2.out.size)))
        rw [HCC.out] at hbl
        refine (bsame_b Al A3 (c - t) c3 (Lg.cut b (st + a) 1) (Lg.recd r g p) 32 w3 HCKL.out (by rw [Lg.recd_len, HRL.out, HKK.out, show 32 * 1 = 32 from rfl]) (by have := HLG7.out; omega) hbl (hby No (fun _ h => h.elim))).mono fun _ _ ⟨e1, e2⟩ => ⟨by rw [e1, hT], hb'.trans (e2.mono hb'.size)⟩
      have hcase : T = true ∧ Lg.recAt b st size g a p = some r ∨ T = false ∧ Lg.recAt b st size g a p = none := by
        rcases HRA.out with ⟨h1, h2⟩ | ⟨h1, h2⟩
        · exact .inl ⟨by rw [← hT]; exact decide_eq_true h1, h2⟩
        · exact .inr ⟨by rw [← hT]; exact decide_eq_false h1, h2⟩
      have hw1 : IntKind.i64.wrap ((t : Int) + 32) = (t : Int) + 32 := by rw [IntKind.wrap_i64]; omega
      have hlenp := HP.out
      obtain ⟨Ad, cd, ed, _, _, _⟩ := HRW.out.slice
      rw [hlenp] at ed
      have HBND : Hid (a ≤ size ∧ 1 ≤ a ∧ size + 1 ≤ a + (f + 1) ∧ p < a ∧ t ≤ N ∧ ¬ size < a + 1 ∧ N ≤ 200000 ∧ 1 ≤ 1) := ⟨ha1, ha2, hgk, hpa, ht1, hroom, hN2, by have h1 := HKK.out; have h2 := Lg.secs_pos m; omega⟩
      clear hT HRA hslb HCC hby2 hmc2 hcx2 hlenp
      subst ed
      clear hst hs1 ha1 ha2 hgk hpa ht1 hfull hroom hwa h200 h17 hK7 hm65 hg hNc hc hN2 hN32 d1 d2 d3 d4 d5 d17 
      rcases hcase with ⟨rfl, hc⟩ | ⟨rfl, hc⟩
      · have HC := Lib.hid hc
        clear hc
        go_wp2_with fail
        go_region_held3 (fun _ => True) (exact trivial) (first
          | (go_at_call 53; refine (HG2.out w3 A3 c3 ho3 hb3).mono ?_; rintro e w4 ⟨rfl, HB4⟩)
          | (go_at_call 28; refine HG1.out.mono ?_; rintro e w3 ⟨A3, c3, rfl, ho3, hb3⟩))
        clear HG1 HG2 ho3 hb3
        have HBE4 := Lib.hid (HBW2.out.trans (HB4.out.mono HBW2.out.size))
        have HAR : Hid (∃ v' w', (Builtin.append_ #[45, 45] 45 #[.slice Ad p cd, .slice (some ⟨w4.heap.size, 0, none⟩) 1 1]).run Try.prog (w4.alloc (.cells #[.slice A2 m c2] 38)) = .ok v' w' ∧ AppRow w4 w.heap.size (fun i => i < w.heap.size ∨ (Value.slice Ad p cd).ownBlock = some i) (.slice Ad p cd) done r v' w') := by
          have hown := HRB.out w4 HB4.out
          obtain ⟨Ay, cy, ey, hm3, hc3, hby3⟩ := hown.slice
          injection ey with ey1 ey2 ey3
          subst ey1 ey3
          have hws := HBE.out.size
          refine rows_app w4 w.heap.size _ _ done (HRW.out.keep (G := No) ((Kept.of_below (F := No) HT2.out.bel).trans (Kept.of_below HB4.out)) (fun _ _ => False.elim) (fun _ _ => id)) HBE4.out.size (by have := HBND.out; have := HN.out; rw [HP.out]; omega) _ r ⟨A2, c2, by rw [HRL.out], hm3, hc3, hby3 _ (fun i hi => ?_)⟩
          rcases hi with hi | hi
          · omega
          · exact (HRW.out.choose_spec.1.lt i hi).2
        clear HT2 HOWN HRB
        go_wp2_with (at_builtin; refine wpList_append_any rfl (.tmp 76) (.tmp 78) 45 45 rfl _ _ rfl rfl _ HAR.out ?_; intro v5 w5 hap; have HAP := Lib.hid hap; clear hap)
        go_roundg f
        case measure => omega
        case rel =>
          have hsc := HS.out
          rw [rscan_go b st size g f a p r HC.out, HRL.out, HKK.out] at hsc
          have hl : 32 * 1 = 32 := rfl
          have htt := HT.out
          have hnn := HN.out
          have hbnd := HBND.out
          refine ⟨a + 1, t + 32, p + 1, done ++ [r], by first | rfl | go_num, by omega, by omega, by omega, by omega, by omega, by unfold Hid; omega, by unfold Hid; rw [List.length_append, HP.out]; rfl, ⟨by rw [List.append_assoc]; exact hsc.1, hsc.2⟩, ?_, ?_⟩
          · refine RowsAt.wide HAP.out.1 (fun i _ hi => ?_) (fun i hi => .inr hi)
            rcases hi with hi | hi
            · exact .inl (.inl hi)
            · exact .inr hi
          · refine HAP.out.2.1.below HBE4.out HBE4.out.size (fun i hi e => ?_)
            have := (HRW.out.choose_spec.1.lt i e).1
            omega
      · have HE := HS.out
        rw [rscan_stop b st size g (f + 1) a p hc] at HE
        have HX : Hid (done = rs) := by have := HE.1; rw [List.append_nil] at this; exact this
        have HY := Lib.hid HE.2
        have ha5 : a ≤ 200000 := by have := HBND.out; have := HN.out; omega
        clear HE HS hc
        go_wp2_with fail
        go_region_held3 (fun _ => True) (exact trivial) (first
          | (go_at_call 53; refine (HG2.out w3 A3 c3 ho3 hb3).mono ?_; rintro e w4 ⟨rfl, HB4⟩)
          | (go_at_call 28; refine HG1.out.mono ?_; rintro e w3 ⟨A3, c3, rfl, ho3, hb3⟩))
        have HBE4 := Lib.hid (HBW2.out.trans (HB4.out.mono HBW2.out.size))
        have HRW4 := Lib.hid (HRW.out.keep (G := No) ((Kept.of_below (F := No) HT2.out.bel).trans (Kept.of_below HB4.out)) (fun _ _ => False.elim) (fun _ _ => id))
        clear HG1 HG2 ho3 hb3 HT2 HOWN HRB HRW HB4
        go_wp2
        go_ret2
        exact scanR_of HRW4.out HBE4.out HX.out HY.out
    · have d17 : decide ((17 : Int) < (m : Int)) = true := decide_eq_true (by omega)
      have hlong : (32 : Int) + ((m : Int) - 17 + 31) / 32 * 32 = (LG : Int) := by omega
      obtain ⟨e17, he17⟩ : ∃ e17, m - 17 = e17 := ⟨_, rfl⟩
      have hme : m = 17 + e17 := by omega
      by_cases hroom : size < a + K
      · have HE := HS.out
        rw [rscan_stop b st size g (f + 1) a p (by unfold Lg.recAt; rw [if_neg hfull, hm, if_neg h200, hK, if_pos hroom])] at HE
        have HX : Hid (done = rs) := by have := HE.1; rw [List.append_nil] at this; exact this
        have HY := Lib.hid HE.2
        have d4 : decide ((N : Int) < (t : Int) + (LG : Int)) = true := decide_eq_true (by omega)
        have d5 : decide (N < t + LG) = true := decide_eq_true (by omega)
        clear HE HS ht hNs hm hK hKm hLG he17 hme
        go_wp2
        go_ret2
        exact scanR_of HRW.out HBE.out HX.out HY.out
      have d4 : decide ((N : Int) < (t : Int) + (LG : Int)) = false := decide_eq_false (by omega)
      have d5 : decide (N < t + LG) = false := decide_eq_false (by omega)
      obtain ⟨Al, hsl, hslb⟩ := slice_any A N c t (t + LG) LG (t : Int) ((t : Int) + (LG : Int)) rfl (by omega) rfl (by omega) hNc
      have HCC : Hid (((Lg.cut b st size).drop t).take LG = Lg.cut b (st + a) K) := by
        unfold Hid
        rw [← cut_cut b st size a K (by omega), ht, hLG]
      have HCKL : Hid ((Lg.cut b (st + a) K).length = LG) := by unfold Hid; rw [Lg.cut_len HLEN.out (by omega), hLG]
      have hmin : min (m : Int) 17 = 17 := by omega
      obtain ⟨A1, hs1', hs1b⟩ := slice_any A N c (t + 14) (t + 14 + 17) 17 ((t : Int) + 14) ((t : Int) + 14 + 17) (by omega) (by omega) rfl (by omega) hNc
      obtain ⟨A1e, hs2', hs2b⟩ := slice_any A N c (t + 32) (t + 32 + e17) e17 ((t : Int) + 32) ((t : Int) + 32 + (m : Int) - 17) (by omega) (by omega) rfl (by omega) hNc
      obtain ⟨r, hr⟩ : ∃ r, Lg.own (Lg.cut b (st + a) K) m = r := ⟨_, rfl⟩
      have HP1 : Hid (((Lg.cut b st size).drop (t + 14)).take 17 ++ ((Lg.cut b st size).drop (t + 32)).take e17 = r) := by
        unfold Hid
        rw [← hr, ← HCC.out]
        unfold Lg.own
        rw [show min m 17 = 17 by omega, he17, List.drop_take, List.drop_drop, List.take_take, List.drop_take, List.drop_drop, List.take_take, show min 17 (LG - 14) = 17 by omega, show min e17 (LG - 32) = e17 by omega]
      have HL1 : Hid ((((Lg.cut b st size).drop (t + 14)).take 17).length = 17) := by unfold Hid; rw [List.length_take, List.length_drop, HCL.out]; omega
      have HL2 : Hid ((((Lg.cut b st size).drop (t + 32)).take e17).length = e17) := by unfold Hid; rw [List.length_take, List.length_drop, HCL.out]; omega
      have HME : Hid (17 + e17 = m) := by unfold Hid; omega
      have HRL : Hid (r.length = m) := by unfold Hid; rw [← hr, Lg.own_len _ m (by rw [HCKL.out, hK, hLG])]
      have HRA : Hid (Lg.cut b (st + a) K = Lg.recd r g p ∧ Lg.recAt b st size g a p = some r ∨ Lg.cut b (st + a) K ≠ Lg.recd r g p ∧ Lg.recAt b st size g a p = none) := by
        unfold Hid Lg.recAt
        rw [if_neg hfull, hm, if_neg h200, hK, if_neg hroom, hr]
        by_cases h : Lg.cut b (st + a) K = Lg.recd r g p
        · exact .inl ⟨h, if_pos h⟩
        · exact .inr ⟨h, if_neg h⟩
      have HKK := Lib.hid hK
      have HLG7 : Hid (LG ≤ 300) := by unfold Hid; omega
      have HLGG : Hid (32 * K = LG) := hLG
      clear ht hNs hm hKm hr hK hLG he17 hme
      have HA1 : Hid (∃ v' w', (Builtin.append_ #[38, 38] 38 #[.slice (some ⟨wr.heap.size, 0, none⟩) 0 0, .slice A1 17 (c - (t + 14))]).run Try.prog (wr.alloc (.cells #[] 5)) = .ok v' w' ∧ RowR wr (((Lg.cut b st size).drop (t + 14)).take 17) 17 v' w') := by
        have ho : RowO wr (wr.alloc (.cells #[] 5)) (.slice (some ⟨wr.heap.size, 0, none⟩) 0 0) [] := ⟨own_empty wr wr.heap.size (Nat.le_refl _) 5 1, below_alloc _ _⟩
        have hby := hs1b No (wr.alloc (.cells #[] 5)) _ HCL.out (HBY.out _ (HBE.out.trans ((below_alloc wr _).mono HBE.out.size)))
        exact ho.app No A1 17 _ _ HL1.out hby 17 (by simp) (by omega)
      have HA2 : Hid (∀ w1 A1' c1', RowO wr w1 (.slice A1' 17 c1') (((Lg.cut b st size).drop (t + 14)).take 17) → ∃ v' w', (Builtin.append_ #[38, 38] 38 #[.slice A1' 17 c1', .slice A1e e17 (c - (t + 32))]).run Try.prog w1 = .ok v' w' ∧ RowR wr r m v' w') := fun w1 A1' c1' h1 => by
        have hby := hs2b No w1 _ HCL.out (HBY.out _ (HBE.out.trans (h1.bel.mono HBE.out.size)))
        have := h1.app No A1e e17 (c - (t + 32)) _ HL2.out hby m (by rw [HL1.out, HME.out]) (by omega)
        rw [HP1.out] at this
        exact this
      clear hs1b hs2b
      go_wp2_with (at_builtin; first
        | (refine wpList_append_any rfl (.tmp 52) (.tmp 61) 38 38 rfl _ _ rfl rfl _ (HA2.out w1 A1' c1' HT1.out) ?_; intro v2 w2 hap; obtain ⟨A2, c2, rfl, HT2⟩ := hap)
        | (refine wpList_append_any rfl (.tmp 39) (.tmp 48) 38 38 rfl _ _ rfl rfl _ HA1.out ?_; intro v1 w1 hap; obtain ⟨A1', c1', rfl, HT1⟩ := hap))
      clear HA1 HA2 HP1 hs1' hs2' hmin HL1 HL2 HT1
      have HOWN := Lib.hid HT2.out.own
      obtain ⟨Ay, cy, ey, hmc2, hcx2, hby2⟩ := HT2.out.own.slice
      injection ey with ey1 ey2 ey3
      subst ey1 ey3
      clear ey2
      rw [HRL.out] at hmc2
      have HBW2 : Hid (Below w.heap.size w w2) := HBE.out.trans (HT2.out.bel.mono HBE.out.size)
      have HBWD : Hid (Below w.heap.size w w2.drew) := ⟨HBW2.out.os, HBW2.out.tape, HBW2.out.output, HBW2.out.size, HBW2.out.block⟩
      have HRB : Hid (∀ W, Below w2.heap.size w2 W → OwnB W wr.heap.size (.slice A2 m c2) r) := fun W hb => HT2.out.own.below hb
      have HG1 : Hid (Calls Try.prog 28 #[.slice A2 m c2, .int .i64 g, .int .i64 p] w2.drew fun e w' => ∃ A' c', e = .returned (.slice A' LG c') ∧ OwnB w' w2.drew.heap.size (.slice A' LG c') (Lg.recd r g p) ∧ Below w2.drew.heap.size w2.drew w') := by
        have := rlaid_any A2 m c2 r g p w2.drew HRL.out (by omega) hmc2 hcx2 hg (by omega) (CellsIn.keep (hby2 No (fun _ h => h.elim)) (Kept.of_below (below_drew w2)))
        rw [HKK.out, HLGG.out] at this
        exact this
      obtain ⟨T, hT⟩ : ∃ T, decide (Lg.cut b (st + a) K = Lg.recd r g p) = T := ⟨_, rfl⟩
      have HG2 : Hid (∀ w3 A3 c3, OwnB w3 w2.drew.heap.size (.slice A3 LG c3) (Lg.recd r g p) → Below w2.drew.heap.size w2.drew w3 → Calls Try.prog 53 #[.slice Al LG (c - t), .slice A3 LG c3] w3 fun e w' => e = .returned (.bool T) ∧ Hid (Below w2.heap.size w2 w')) := fun w3 A3 c3 ho hb => by
        have hb' : Below w2.heap.size w2 w3 := ⟨hb.os, hb.tape, hb.output, hb.size, hb.block⟩
        obtain ⟨Ax, cx, e, _, _, hby⟩ := ho.slice
        injection e with e1 e2 e3
        subst e1
        have hbl := hslb No w3 _ HCL.out (HBY.out w3 (HBW2.out.trans (hb'.mono HBW2.out.size)))
        rw [HCC.out] at hbl
        refine (bsame_b Al A3 (c - t) c3 (Lg.cut b (st + a) K) (Lg.recd r g p) LG w3 HCKL.out (by rw [Lg.recd_len, HRL.out, HKK.out, HLGG.out]) (by have := HLG7.out; omega) hbl (hby No (fun _ h => h.elim))).mono fun _ _ ⟨e1, e2⟩ => ⟨by rw [e1, hT], hb'.trans (e2.mono hb'.size)⟩
      have hcase : T = true ∧ Lg.recAt b st size g a p = some r ∨ T = false ∧ Lg.recAt b st size g a p = none := by
        rcases HRA.out with ⟨h1, h2⟩ | ⟨h1, h2⟩
        · exact .inl ⟨by rw [← hT]; exact decide_eq_true h1, h2⟩
        · exact .inr ⟨by rw [← hT]; exact decide_eq_false h1, h2⟩
      have hw1 : IntKind.i64.wrap ((t : Int) + (LG : Int)) = (t : Int) + (LG : Int) := by rw [IntKind.wrap_i64]; omega
      have hlenp := HP.out
      obtain ⟨Ad, cd, ed, _, _, _⟩ := HRW.out.slice
      rw [hlenp] at ed
      have HBND : Hid (a ≤ size ∧ 1 ≤ a ∧ size + 1 ≤ a + (f + 1) ∧ p < a ∧ t ≤ N ∧ ¬ size < a + K ∧ N ≤ 200000 ∧ 1 ≤ K) := ⟨ha1, ha2, hgk, hpa, ht1, hroom, hN2, by have h1 := HKK.out; have h2 := Lg.secs_pos m; omega⟩
      clear hT HRA hslb HCC hby2 hmc2 hcx2 hlenp
      subst ed
      clear hst hs1 ha1 ha2 hgk hpa ht1 hfull hroom hwa h200 h17 hK7 hm65 hg hNc hc hN2 hN32 d1 d2 d3 d4 d5 d17 hlong
      rcases hcase with ⟨rfl, hc⟩ | ⟨rfl, hc⟩
      · have HC := Lib.hid hc
        clear hc
        go_wp2_with fail
        go_region_held3 (fun _ => True) (exact trivial) (first
          | (go_at_call 53; refine (HG2.out w3 A3 c3 ho3 hb3).mono ?_; rintro e w4 ⟨rfl, HB4⟩)
          | (go_at_call 28; refine HG1.out.mono ?_; rintro e w3 ⟨A3, c3, rfl, ho3, hb3⟩))
        clear HG1 HG2 ho3 hb3
        have HBE4 := Lib.hid (HBW2.out.trans (HB4.out.mono HBW2.out.size))
        have HAR : Hid (∃ v' w', (Builtin.append_ #[45, 45] 45 #[.slice Ad p cd, .slice (some ⟨w4.heap.size, 0, none⟩) 1 1]).run Try.prog (w4.alloc (.cells #[.slice A2 m c2] 38)) = .ok v' w' ∧ AppRow w4 w.heap.size (fun i => i < w.heap.size ∨ (Value.slice Ad p cd).ownBlock = some i) (.slice Ad p cd) done r v' w') := by
          have hown := HRB.out w4 HB4.out
          obtain ⟨Ay, cy, ey, hm3, hc3, hby3⟩ := hown.slice
          injection ey with ey1 ey2 ey3
          subst ey1 ey3
          have hws := HBE.out.size
          refine rows_app w4 w.heap.size _ _ done (HRW.out.keep (G := No) ((Kept.of_below (F := No) HT2.out.bel).trans (Kept.of_below HB4.out)) (fun _ _ => False.elim) (fun _ _ => id)) HBE4.out.size (by have := HBND.out; have := HN.out; rw [HP.out]; omega) _ r ⟨A2, c2, by rw [HRL.out], hm3, hc3, hby3 _ (fun i hi => ?_)⟩
          rcases hi with hi | hi
          · omega
          · exact (HRW.out.choose_spec.1.lt i hi).2
        clear HT2 HOWN HRB
        go_wp2_with (at_builtin; refine wpList_append_any rfl (.tmp 76) (.tmp 78) 45 45 rfl _ _ rfl rfl _ HAR.out ?_; intro v5 w5 hap; have HAP := Lib.hid hap; clear hap)
        go_roundg f
        case measure => omega
        case rel =>
          have hsc := HS.out
          rw [rscan_go b st size g f a p r HC.out, HRL.out, HKK.out] at hsc
          have hl := HLGG.out
          have htt := HT.out
          have hnn := HN.out
          have hbnd := HBND.out
          refine ⟨a + K, t + LG, p + 1, done ++ [r], by first | rfl | go_num, by omega, by omega, by omega, by omega, by omega, by unfold Hid; omega, by unfold Hid; rw [List.length_append, HP.out]; rfl, ⟨by rw [List.append_assoc]; exact hsc.1, hsc.2⟩, ?_, ?_⟩
          · refine RowsAt.wide HAP.out.1 (fun i _ hi => ?_) (fun i hi => .inr hi)
            rcases hi with hi | hi
            · exact .inl (.inl hi)
            · exact .inr hi
          · refine HAP.out.2.1.below HBE4.out HBE4.out.size (fun i hi e => ?_)
            have := (HRW.out.choose_spec.1.lt i e).1
            omega
      · have HE := HS.out
        rw [rscan_stop b st size g (f + 1) a p hc] at HE
        have HX : Hid (done = rs) := by have := HE.1; rw [List.append_nil] at this; exact this
        have HY := Lib.hid HE.2
        have ha5 : a ≤ 200000 := by have := HBND.out; have := HN.out; omega
        clear HE HS hc
        go_wp2_with fail
        go_region_held3 (fun _ => True) (exact trivial) (first
          | (go_at_call 53; refine (HG2.out w3 A3 c3 ho3 hb3).mono ?_; rintro e w4 ⟨rfl, HB4⟩)
          | (go_at_call 28; refine HG1.out.mono ?_; rintro e w3 ⟨A3, c3, rfl, ho3, hb3⟩))
        have HBE4 := Lib.hid (HBW2.out.trans (HB4.out.mono HBW2.out.size))
        have HRW4 := Lib.hid (HRW.out.keep (G := No) ((Kept.of_below (F := No) HT2.out.bel).trans (Kept.of_below HB4.out)) (fun _ _ => False.elim) (fun _ _ => id))
        clear HG1 HG2 ho3 hb3 HT2 HOWN HRB HRW HB4
        go_wp2
        go_ret2
        exact scanR_of HRW4.out HBE4.out HX.out HY.out
end Go.Proofs.Ytoocifoglhhnmaa
