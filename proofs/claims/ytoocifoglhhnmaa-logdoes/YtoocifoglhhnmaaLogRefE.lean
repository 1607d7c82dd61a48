/- The document's log: wipe, lay. -/
import Derived.Test.YtoocifoglhhnmaaLogRefD
namespace Go.Proofs.Ytoocifoglhhnmaa
open Go.RowKit
set_option linter.unusedVariables false

theorem rwr_any (g s n : Nat) (d : Dk.D) (k : Nat) (ki : Int) (hk : ki = (k : Int)) (A : Option Addr) (m c : Nat) (l : Dk.Bs) (w : World) (h : RDiskAt w g s n d) (hw : d.writes ≤ 1000000) (hm : l.length = m) (hmx : m ≤ 1000) (hb : BytesIn (Two g s) w A l) (q : Dk.D × Int) (hq : Lg.wr n d k l = q) :
    Calls Try.prog 37 #[.pointer (some ⟨g, 0, none⟩), .int .i64 ki, .slice A m c] w fun e w' => e = .returned (.int .i64 q.2) ∧ RDiskAt w' g s n q.1 ∧ Kept (Two g s) w w' := by
  subst hk hq
  exact rwrite_any g s n d (k : Int) A m c l w h hw hm (by unfold maxLen; omega) hb

theorem start_mul (n z hf : Nat) (hz : n / 2 = z) : (hf : Int) * (z : Int) = (Lg.start n hf : Int) := by unfold Lg.start; rw [hz]; simp

set_option maxHeartbeats 1000000 in
set_option maxRecDepth 100000 in
theorem rwipe_any (g s n z hf to : Nat) (d : Dk.D) (w : World) (h : RDiskAt w g s n d) (hz : n / 2 = z) (hh : hf ≤ 1) (hto : to ≤ z) (hw : d.writes + z ≤ 1000000) :
    Calls Try.prog 40 #[.pointer (some ⟨g, 0, none⟩), .int .i64 hf, .int .i64 to] w fun e w' => e = .returned (.int .i64 (Lg.wipeS n (Lg.start n hf) to z d).2) ∧ RDiskAt w' g s n (Lg.wipeS n (Lg.start n hf) to z d).1 ∧ Kept (Two g s) w w' := by
  have hn1 := h.n1
  have hst := Lg.start_le (n := n) hh
  rw [hz] at hst
  have hmul := start_mul n z hf hz
  have HZ := Lib.hid hz
  have HD := Lib.hid h
  have HPER := Lib.hid (rper_any g s n z d w h hz)
  obtain ⟨st, hst'⟩ : ∃ st, Lg.start n hf = st := ⟨_, rfl⟩
  have HST := Lib.hid hst'
  rw [hst'] at hst hmul ⊢
  obtain ⟨R, hR⟩ : ∃ R, Lg.wipeS n st to z d = R := ⟨_, rfl⟩
  have HR0 := Lib.hid hR
  rw [hR]
  clear hR h hz hst'
  have hz4 : z ≤ 2048 := by have := HZ.out; omega
  go_enter Try.func40, Try.ntmps40
  go_wp2_with fail
  refine HPER.out.mono ?_
  rintro e w' ⟨rfl, rfl⟩
  clear HPER
  go_wp2_with fail
  go_loopg [6, 7, 8, 9] z (fun gk s6 s7 s8 s9 W => ∃ dc : Dk.D, gk ≤ z ∧ s6 = .int .i64 0 ∧ s7 = .int .i64 ((gk : Int) - 1) ∧ dc.writes + gk ≤ 1000000 ∧ Hid (Lg.wipeS n st to gk dc = R) ∧ Hid (RDiskAt W g s n dc) ∧ Hid (Kept (Two g s) w W))
  case atStart => exact ⟨d, Nat.le_refl _, rfl, rfl, hw, HR0.out, HD.out, Kept.refl _ _⟩
  case round =>
    clear HD HR0 hw
    obtain ⟨dc, h1, rfl, rfl, h3, HR, HD, HB⟩ := hrel
    cases gk with
    | zero =>
      have HE : Hid ((dc, 0) = R) := HR.out
      clear HR
      have d1 : decide ((to : Int) ≤ ((0 : Nat) : Int) - 1) = false := decide_eq_false (by omega)
      go_wp2
      go_ret
      exact ⟨by rw [← HE.out]; rfl, by rw [← HE.out]; exact HD.out, HB.out⟩
    | succ m =>
      have e1 : ((m + 1 : Nat) : Int) - 1 = (m : Int) := by omega
      rw [e1]
      by_cases hlt : m < to
      · have HE : Hid ((dc, 0) = R) := by have := HR.out; unfold Lg.wipeS at this; rw [if_pos hlt] at this; exact this
        have d1 : decide ((to : Int) ≤ (m : Int)) = false := decide_eq_false (by omega)
        have d2 : decide (to ≤ m) = false := decide_eq_false (by omega)
        clear HR
        go_wp2
        go_ret
        exact ⟨by rw [← HE.out]; rfl, by rw [← HE.out]; exact HD.out, HB.out⟩
      · have d1 : decide ((to : Int) ≤ (m : Int)) = true := decide_eq_true (by omega)
        have d2 : decide (to ≤ m) = true := decide_eq_true (by omega)
        have HHF := Lib.hid (rhalf_any g s n z hf dc wr HD.out HZ.out hh)
        have HLA := Lib.hid (Dk.sec_len HD.out.good.len (show st + m < n by omega))
        have HLC := Lib.hid (Lg.cut_len HD.out.good.len (show st + z ≤ n by omega))
        have HCS := Lib.hid (cut_sec dc.b st z m (by omega))
        have HRE := Lib.hid (HR.out)
        have HWW := Lib.hid (Lg.wr_writes (n := n) dc (st + m) [])
        clear HR
        go_wp2_with fail
        refine HHF.out.mono ?_
        rintro e w' ⟨A', c', rfl, HC, HBY, rfl⟩
        have hc1 := HC.out.1
        have hc2 := HC.out.2
        obtain ⟨Z, hZ⟩ : ∃ Z, 32 * z = Z := ⟨_, rfl⟩
        rw [hZ] at hc1 ⊢
        have HLC' : Hid ((Lg.cut dc.b st z).length = Z) := by unfold Hid; rw [HLC.out, hZ]
        obtain ⟨A2, hsl, hsb⟩ := slice_any A' Z c' (32 * m) (32 * m + 32) 32 (32 * (m : Int)) (32 * (m : Int) + 32) (by omega) (by omega) rfl (by omega) hc1
        have HZR : Hid (Calls Try.prog 36 #[.slice A2 32 (c' - 32 * m)] wr fun e w' => e = .returned (.bool (decide (Dk.sec dc.b (st + m) = Lg.zeros 32))) ∧ Below wr.heap.size wr w') := by
          have hby := HBY.out No wr HD.out id
          rw [HST.out] at hby
          have := hsb No wr _ HLC'.out hby
          rw [HCS.out] at this
          exact rzero_any A2 32 (c' - 32 * m) _ wr HLA.out (by omega) this
        clear hsb HBY HLC HLC' HCS HHF HC hZ
        by_cases hz : Dk.sec dc.b (st + m) = Lg.zeros 32
        · have HE : Hid (Lg.wipeS n st to m dc = R) := by have := HRE.out; unfold Lg.wipeS at this; rw [if_neg hlt, if_pos hz] at this; exact this
          rw [decide_eq_true hz] at HZR
          clear hz HRE
          go_wp2_with fail
          refine HZR.out.mono ?_
          rintro e w1 ⟨rfl, hb1⟩
          have HD1 := Lib.hid (HD.out.below hb1)
          have HB1 := Lib.hid (HB.out.trans (Kept.of_below hb1))
          clear hb1
          go_wp2
          go_roundg m
          case measure => omega
          case rel => exact ⟨dc, by omega, rfl, by first | rfl | go_num, by omega, HE.out, HD1.out, HB1.out⟩
        · have HE : Hid ((if (Lg.wr n dc (st + m) []).2 = 0 then Lg.wipeS n st to m (Lg.wr n dc (st + m) []).1 else Lg.wr n dc (st + m) []) = R) := by have := HRE.out; unfold Lg.wipeS at this; rw [if_neg hlt, if_neg hz] at this; exact this
          rw [decide_eq_false hz] at HZR
          clear hz HRE
          go_wp2_with fail
          refine HZR.out.mono ?_
          rintro e w1 ⟨rfl, hb1⟩
          have HD1 := Lib.hid (HD.out.below hb1)
          have HB1 := Lib.hid (HB.out.trans (Kept.of_below hb1))
          have HPE := Lib.hid (rper_any g s n z dc w1 HD1.out HZ.out)
          clear hb1
          obtain ⟨q, hq⟩ : ∃ q, Lg.wr n dc (st + m) [] = q := ⟨_, rfl⟩
          rw [hq] at HE HWW
          have HWR := Lib.hid (rwr_any g s n dc (st + m) ((st : Int) + (m : Int)) (by omega) (some ⟨w1.heap.size, 0, none⟩) 0 0 [] (w1.alloc (.cells #[] 5)) (HD1.out.alloc _) (by omega) rfl (by omega) (CellsIn.nil _ _ _) q hq)
          clear hq
          go_wp2_with fail
          refine HPE.out.mono ?_
          rintro e w' ⟨rfl, rfl⟩
          go_wp2_with fail
          refine HWR.out.mono ?_
          rintro e w2 ⟨rfl, hd2, hk2⟩
          have HD2 := Lib.hid hd2
          have HB2 := Lib.hid ((HB1.out.alloc (.cells #[] 5)).trans hk2)
          clear hd2 hk2
          by_cases hq : q.2 = 0
          · have HE2 : Hid (Lg.wipeS n st to m q.1 = R) := by have := HE.out; rw [if_pos hq] at this; exact this
            have d3 : (q.2 != 0) = false := by rw [hq]; rfl
            clear HE
            go_wp2
            go_roundg m
            case measure => omega
            case rel => exact ⟨q.1, by omega, rfl, by first | rfl | go_num, by have := HWW.out; omega, HE2.out, HD2.out, HB2.out⟩
          · have HE2 : Hid (q = R) := by have := HE.out; rw [if_neg hq] at this; exact this
            have d3 : (q.2 != 0) = true := bne_iff_ne.2 hq
            clear HE
            go_wp2
            go_ret
            exact ⟨by rw [← HE2.out]; rfl, by rw [← HE2.out]; exact HD2.out, HB2.out⟩

/-- what is left of a record that is laid -/
def layG (n k0 : Nat) (l : Dk.Bs) (K : Nat) : Nat → Dk.D → Dk.D × Int
  | 0, d => (d, 0)
  | r + 1, d => Lg.layS n k0 l r (K - r) d
theorem layG_step (n k0 : Nat) (l : Dk.Bs) (K r : Nat) (d : Dk.D) (hr : r < K) (i kk : Nat) (hi : i + r = K) (hk : i % K = kk) :
    layG n k0 l K (r + 1) d = if (Lg.wr n d (k0 + kk) (Dk.sec l kk)).2 = 0 then layG n k0 l K r (Lg.wr n d (k0 + kk) (Dk.sec l kk)).1 else Lg.wr n d (k0 + kk) (Dk.sec l kk) := by
  cases r with
  | zero =>
    obtain rfl : i = K := by omega
    rw [Nat.mod_self] at hk
    subst hk
    show Lg.wr n d k0 (Dk.sec l 0) = if (Lg.wr n d k0 (Dk.sec l 0)).2 = 0 then ((Lg.wr n d k0 (Dk.sec l 0)).1, 0) else Lg.wr n d k0 (Dk.sec l 0)
    split
    · rename_i h
      exact Prod.ext rfl h
    · rfl
  | succ r =>
    rw [Nat.mod_eq_of_lt (by omega)] at hk
    subst hk
    show (if (Lg.wr n d (k0 + (K - (r + 1))) (Dk.sec l (K - (r + 1)))).2 = 0 then Lg.layS n k0 l r (K - (r + 1) + 1) (Lg.wr n d (k0 + (K - (r + 1))) (Dk.sec l (K - (r + 1)))).1 else Lg.wr n d (k0 + (K - (r + 1))) (Dk.sec l (K - (r + 1)))) = _
    rw [show K - (r + 1) = i by omega]
    have : layG n k0 l K (r + 1) (Lg.wr n d (k0 + i) (Dk.sec l i)).1 = Lg.layS n k0 l r (i + 1) (Lg.wr n d (k0 + i) (Dk.sec l i)).1 := by
      show Lg.layS n k0 l r (K - r) _ = _
      rw [show K - r = i + 1 by omega]
    rw [this]

set_option maxHeartbeats 1000000 in
set_option maxRecDepth 100000 in
theorem rlay_any (g s n z hf a K : Nat) (d : Dk.D) (A : Option Addr) (N c : Nat) (l : Dk.Bs) (w : World) (h : RDiskAt w g s n d) (hz : n / 2 = z) (hh : hf ≤ 1) (hK : 1 ≤ K) (ha : Lg.start n hf + a + K ≤ n) (hw : d.writes + K ≤ 1000000) (hN : l.length = N) (hNK : N = 32 * K) (hNc : N ≤ c) (hb : BytesIn (Two g s) w A l) :
    Calls Try.prog 47 #[.pointer (some ⟨g, 0, none⟩), .int .i64 hf, .int .i64 a, .slice A N c] w fun e w' => e = .returned (.int .i64 (Lg.layS n (Lg.start n hf + a) l (K - 1) 1 d).2) ∧ RDiskAt w' g s n (Lg.layS n (Lg.start n hf + a) l (K - 1) 1 d).1 ∧ Kept (Two g s) w w' := by
  have hn1 := h.n1
  have hmul := start_mul n z hf hz
  have HZ := Lib.hid hz
  have HD := Lib.hid h
  obtain ⟨st, hst'⟩ : ∃ st, Lg.start n hf = st := ⟨_, rfl⟩
  rw [hst'] at ha hmul ⊢
  obtain ⟨R, hR⟩ : ∃ R, Lg.layS n (st + a) l (K - 1) 1 d = R := ⟨_, rfl⟩
  have HR0 : Hid (layG n (st + a) l K K d = R) := by
    unfold Hid
    obtain ⟨K', rfl⟩ : ∃ K', K = K' + 1 := ⟨K - 1, by omega⟩
    show Lg.layS n (st + a) l K' (K' + 1 - K') d = R
    rw [show K' + 1 - K' = 1 by omega]
    exact hR
  rw [hR]
  have HN := Lib.hid hN
  have HB0 := Lib.hid hb
  have hdiv : (N : Int) / 32 = (K : Int) := by omega
  have hz4 : z ≤ 2048 := by omega
  have HNK := Lib.hid hNK
  clear hR h hz hst' hN hb hNK
  go_enter Try.func47, Try.ntmps47
  go_wp2_with fail
  go_loopg [8, 10, 11, 12] K (fun gk s8 s10 s11 s12 W => ∃ (dc : Dk.D) (i : Nat), i + gk = K + 1 ∧ 1 ≤ i ∧ s8 = .int .i64 0 ∧ s10 = .int .i64 i ∧ dc.writes + gk ≤ 1000000 ∧ Hid (layG n (st + a) l K gk dc = R) ∧ Hid (RDiskAt W g s n dc) ∧ Hid (Kept (Two g s) w W))
  case atStart => exact ⟨d, 1, by omega, by omega, rfl, rfl, hw, HR0.out, HD.out, Kept.refl _ _⟩
  case round =>
    clear HD HR0 hw
    obtain ⟨dc, i, hik, hi1, rfl, rfl, h3, HR, HD, HB⟩ := hrel
    cases gk with
    | zero =>
      have HE : Hid ((dc, 0) = R) := HR.out
      have d1 : decide ((i : Int) ≤ (K : Int)) = false := decide_eq_false (by omega)
      have d2 : decide (i ≤ K) = false := decide_eq_false (by omega)
      clear HR
      go_wp2
      go_ret
      exact ⟨by rw [← HE.out]; rfl, by rw [← HE.out]; exact HD.out, HB.out⟩
    | succ r =>
      have d1 : decide ((i : Int) ≤ (K : Int)) = true := decide_eq_true (by omega)
      have d2 : decide (i ≤ K) = true := decide_eq_true (by omega)
      obtain ⟨kk, hkk⟩ : ∃ kk, i % K = kk := ⟨_, rfl⟩
      have hkk2 : kk < K := by rw [← hkk]; exact Nat.mod_lt _ (by omega)
      have hrem : (i : Int) % (K : Int) = (kk : Int) := by rw [← hkk]; simp
      have HST : Hid ((if (Lg.wr n dc (st + a + kk) (Dk.sec l kk)).2 = 0 then layG n (st + a) l K r (Lg.wr n dc (st + a + kk) (Dk.sec l kk)).1 else Lg.wr n dc (st + a + kk) (Dk.sec l kk)) = R) := by
        unfold Hid
        rw [← layG_step n (st + a) l K r dc (by omega) i kk (by omega) hkk]
        exact HR.out
      have HWW := Lib.hid (Lg.wr_writes (n := n) dc (st + a + kk) (Dk.sec l kk))
      obtain ⟨q, hq⟩ : ∃ q, Lg.wr n dc (st + a + kk) (Dk.sec l kk) = q := ⟨_, rfl⟩
      rw [hq] at HST HWW
      have hNk : 32 * kk + 32 ≤ N := by have := HNK.out; omega
      obtain ⟨A2, hsl, hsb⟩ := slice_any A N c (32 * kk) (32 * kk + 32) 32 (32 * (kk : Int)) (32 * (kk : Int) + 32) (by omega) (by omega) rfl hNk hNc
      have HLA : Hid ((Dk.sec l kk).length = 32) := Dk.sec_len (n := K) (by rw [HN.out, HNK.out]) hkk2
      clear hNk
      have HPE := Lib.hid (rper_any g s n z dc wr.drew (HD.out.keep (F := No) (Kept.refl No _).drew id id) HZ.out)
      have HWR := Lib.hid (rwr_any g s n dc (st + a + kk) ((st : Int) + (a : Int) + (kk : Int)) (by omega) A2 32 (c - 32 * kk) (Dk.sec l kk) wr.drew (HD.out.keep (F := No) (Kept.refl No _).drew id id) (by omega) HLA.out (by omega) (hsb _ _ l HN.out (CellsIn.keep HB0.out HB.out.drew)) q hq)
      have hkk5 : kk ≤ 5000 := by omega
      have ha5 : st + a ≤ 5000 := by omega
      have hw1 : IntKind.i64.wrap (32 * (kk : Int)) = 32 * (kk : Int) := by rw [IntKind.wrap_i64]; omega
      have hw2 : IntKind.i64.wrap (32 * (kk : Int) + 32) = 32 * (kk : Int) + 32 := by rw [IntKind.wrap_i64]; omega
      have hw3 : IntKind.i64.wrap ((st : Int) + (a : Int)) = (st : Int) + (a : Int) := by rw [IntKind.wrap_i64]; omega
      have hw5 : IntKind.i64.wrap ((hf : Int) * (z : Int)) = (st : Int) := by rw [hmul, IntKind.wrap_i64]; omega
      have hw6 : IntKind.i64.wrap (st : Int) = (st : Int) := by rw [IntKind.wrap_i64]; omega
      have hw4 : IntKind.i64.wrap ((st : Int) + (a : Int) + (kk : Int)) = (st : Int) + (a : Int) + (kk : Int) := by rw [IntKind.wrap_i64]; omega
      clear hq HR hsb hkk hkk2 HLA
      go_wp2_with fail
      go_region_held3 (fun _ => True) (exact trivial) (first
        | (go_at_call 37; refine HWR.out.mono ?_; rintro e w2 ⟨rfl, hd2, hk2⟩)
        | (go_at_call 46; refine HPE.out.mono ?_; rintro e w1 ⟨rfl, rfl⟩))
      have HD2 := Lib.hid hd2
      have HB2 := Lib.hid (HB.out.drew.trans hk2)
      clear hd2 hk2 HWR HPE
      by_cases hq : q.2 = 0
      · have HE2 : Hid (layG n (st + a) l K r q.1 = R) := by have := HST.out; rw [if_pos hq] at this; exact this
        have d3 : (q.2 != 0) = false := by rw [hq]; rfl
        clear HST
        go_wp2
        go_roundg r
        case measure => omega
        case rel => exact ⟨q.1, i + 1, by omega, by omega, rfl, by first | rfl | go_num, by have := HWW.out; omega, HE2.out, HD2.out, HB2.out⟩
      · have HE2 : Hid (q = R) := by have := HST.out; rw [if_neg hq] at this; exact this
        have d3 : (q.2 != 0) = true := bne_iff_ne.2 hq
        clear HST
        go_wp2
        go_ret
        exact ⟨by rw [← HE2.out]; rfl, by rw [← HE2.out]; exact HD2.out, HB2.out⟩
end Go.Proofs.Ytoocifoglhhnmaa
