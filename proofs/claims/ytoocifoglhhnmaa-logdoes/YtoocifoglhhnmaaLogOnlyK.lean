/- Only, with what it turns apart from what the records keep clear of. -/
import Derived.Test.YtoocifoglhhnmaaLogOpsK
namespace Go.Proofs.Ytoocifoglhhnmaa
open Go.RowKit
set_option linter.unusedVariables false

set_option maxHeartbeats 4000000 in
set_option maxRecDepth 100000 in
theorem only_k (W : World) (base : Nat) (F K : Nat → Prop) (lb : Nat) (v : Value) (g s n : Nat) (x : Lg.L) (d : Dk.D) (A : Option Addr) (m c : Nat) (rs : List Dk.Bs) (h : Held W base F lb v g s n x d) (hw : d.writes ≤ 900000) (hn4 : 4 ≤ n) (hm : rs.length = m) (hmx : m ≤ 1000) (hb : RowIn F W A rs) (hKl : K lb) (hK2 : ∀ i, Two g s i → K i) (hKv : ∀ i, v.ownBlock = some i → K i) :
    Calls Try.prog 18 #[.pointer (some ⟨lb, 0, none⟩), .slice A m c] W fun e w' => e = .returned (.int .i64 (Lg.onlyS n d x rs).2.1) ∧ AfterK W base F K lb g s n (Lg.onlyS n d x rs) w' := by
  have c9 := h.log.c9
  have hn1 := h.disk.n1
  by_cases h1 : x.bro = true
  · have HE : Hid (Lg.onlyS n d x rs = (d, 7, x)) := by unfold Hid Lg.onlyS; rw [if_pos h1]
    have H := Lib.hid h
    rw [h1] at c9
    clear h h1 hb
    go_enter Try.func18, Try.ntmps18
    go_wp2
    go_ret
    exact ⟨by rw [HE.out]; rfl, by rw [HE.out]; exact AfterK.of H.out (Kept.refl _ _) hKv⟩
  rw [Bool.eq_false_iff.2 h1] at c9
  have HCO := contains_any F A m c rs W hm (by omega) hb
  by_cases h2 : bigB rs = true
  · have HE : Hid (Lg.onlyS n d x rs = (d, 1, x)) := by unfold Hid Lg.onlyS; rw [if_neg h1, if_pos h2]
    have H := Lib.hid h
    rw [h2] at HCO
    have HCO := Lib.hid HCO
    clear h h1 hb h2
    go_enter Try.func18, Try.ntmps18
    go_wp2_with (go_at_call 48; refine HCO.out.mono ?_; rintro e w' ⟨rfl, rfl⟩)
    go_ret
    exact ⟨by rw [HE.out]; rfl, by rw [HE.out]; exact AfterK.of H.out (Kept.refl _ _) hKv⟩
  rw [Bool.eq_false_iff.2 h2] at HCO
  have HCO := Lib.hid HCO
  have hl := bigB_false (Bool.eq_false_iff.2 h2)
  have HEO := Lib.hid (endOf_any F A m c rs W hm (by omega) hl hb)
  have c5 := h.log.c5
  have c6 := h.log.c6
  have hT : Lg.sumSecs rs ≤ 100000 := by
    have : ∀ l : List Dk.Bs, (∀ r ∈ l, r.length ≤ 200) → Lg.sumSecs l ≤ 7 * l.length := by
      intro l hl
      induction l with
      | nil => simp [Lg.sumSecs]
      | cons r l ih =>
        have h1 := Lg.secs_le r.length (hl r (by simp))
        have h2 := ih (fun r hr => hl r (by simp [hr]))
        simp [Lg.sumSecs]
        omega
    have := this rs hl
    omega
  by_cases h3 : n / 2 < 1 + Lg.sumSecs rs
  · have HE : Hid (Lg.onlyS n d x rs = (d, 4, x)) := by unfold Hid Lg.onlyS; rw [if_neg h1, if_neg h2, if_pos h3]
    have H := Lib.hid h
    have d1 : decide (((n / 2 : Nat) : Int) < ((1 + Lg.sumSecs rs : Nat) : Int)) = true := decide_eq_true (by omega)
    have d2 : decide (n / 2 < 1 + Lg.sumSecs rs) = true := decide_eq_true h3
    clear h h1 hb h2 h3 hl
    generalize 1 + Lg.sumSecs rs = T at *
    generalize n / 2 = h2 at *
    go_enter Try.func18, Try.ntmps18
    go_wp2_with (first | (go_at_call 48; refine HCO.out.mono ?_; rintro e w' ⟨rfl, rfl⟩) | (go_at_call 50; refine HEO.out.mono ?_; rintro e w' ⟨rfl, rfl⟩))
    go_ret
    exact ⟨by rw [HE.out]; rfl, by rw [HE.out]; exact AfterK.of H.out (Kept.refl _ _) hKv⟩
  have d1 : decide (((n / 2 : Nat) : Int) < ((1 + Lg.sumSecs rs : Nat) : Int)) = false := decide_eq_false (by omega)
  have d2 : decide (n / 2 < 1 + Lg.sumSecs rs) = false := decide_eq_false h3
  by_cases h4 : x.gen = 2147483647
  · have HE : Hid (Lg.onlyS n d x rs = (d, 4, x)) := by unfold Hid Lg.onlyS; rw [if_neg h1, if_neg h2, if_neg h3, if_pos h4]
    have H := Lib.hid h
    rw [h4] at c6
    clear h h1 hb h2 h3 hl h4
    generalize 1 + Lg.sumSecs rs = T at *
    generalize n / 2 = h2 at *
    go_enter Try.func18, Try.ntmps18
    go_wp2_with (first | (go_at_call 48; refine HCO.out.mono ?_; rintro e w' ⟨rfl, rfl⟩) | (go_at_call 50; refine HEO.out.mono ?_; rintro e w' ⟨rfl, rfl⟩))
    go_ret
    exact ⟨by rw [HE.out]; rfl, by rw [HE.out]; exact AfterK.of H.out (Kept.refl _ _) hKv⟩
  have HE : Hid (Lg.onlyS n d x rs = Lg.onlyEnd x rs (Lg.fillS n (Lg.start n (1 - x.half)) (n / 2) (x.gen + 1) rs d)) := by unfold Hid Lg.onlyS; rw [if_neg h1, if_neg h2, if_neg h3, if_neg h4]
  obtain ⟨g0, g1, half⟩ : 1 ≤ x.gen ∧ x.gen ≤ 2147483647 ∧ x.half ≤ 1 := ⟨h.log.good.g0, h.log.good.g1, h.log.good.half⟩
  have hst := Lg.start_le (n := n) (half := 1 - x.half) (by omega)
  have d3 : ((x.gen : Int) == 2147483647) = false := beq_eq_false_iff_ne.2 (by omega)
  have hw6 : IntKind.i64.wrap ((x.gen : Int) + 1) = (x.gen : Int) + 1 := by rw [IntKind.wrap_i64]; omega
  have y3 : W.drew.cell? ⟨lb, 3, none⟩ = some (.pointer (some ⟨g, 0, none⟩)) := h.log.c3
  have y4 : W.drew.cell? ⟨lb, 4, none⟩ = some (.int .i64 (Lg.start n (1 - x.half) : Nat)) := h.log.c4
  have y5 : W.drew.cell? ⟨lb, 5, none⟩ = some (.int .i64 (n / 2 : Nat)) := h.log.c5
  have y6 : W.drew.cell? ⟨lb, 6, none⟩ = some (.int .i64 (x.gen : Nat)) := h.log.c6
  have x3 := h.log.c3
  have x4 := h.log.c4
  have HFI : Hid (Calls Try.prog 51 #[.agg #[.pointer (some ⟨g, 0, none⟩), .int .i64 (Lg.start n (1 - x.half) : Nat), .int .i64 (n / 2 : Nat)], .slice A m c, .int .i64 ((x.gen : Int) + 1)] W.drew fun e w' => e = .returned (.int .i64 (Lg.fillS n (Lg.start n (1 - x.half)) (n / 2) (x.gen + 1) rs d).2) ∧ Hid (Held w' base F lb v g s n x (Lg.fillS n (Lg.start n (1 - x.half)) (n / 2) (x.gen + 1) rs d).1 ∧ Kept K W w' ∧ RowIn F w' A rs)) := by
    have := fill_any g s n (Lg.start n (1 - x.half)) (n / 2) (x.gen + 1) d A m c rs W.drew h.disk.drew hst (by omega) (by omega) (by omega) hm hl (by omega) (RowIn.less (F := F) hb (fun i _ => h.two i))
    rw [show ((x.gen + 1 : Nat) : Int) = (x.gen : Int) + 1 by omega] at this
    refine this.mono fun _ w' ⟨e1, e2, e3⟩ => ?_
    have e3' : Kept (Two g s) W w' := ⟨e3.os, e3.tape, e3.output, e3.size, e3.block⟩
    have hkF : Kept F W w' := e3'.wide (fun i _ => h.two i)
    exact ⟨e1, h.turn e2 e3', e3'.wide (fun i _ => hK2 i), hb.keep hkF⟩
  have hgood := h.log.good
  have hbro : x.bro = false := Bool.eq_false_iff.2 h1
  have HBRO := Lib.hid hbro
  have HM := Lib.hid hm
  have HL := Lib.hid hl
  clear h hb h1 h2 hl hm hbro
  generalize hz : Lg.fillS n (Lg.start n (1 - x.half)) (n / 2) (x.gen + 1) rs d = z at *
  clear hz
  go_enter Try.func18, Try.ntmps18
  go_wp2_with (first | (go_at_call 48; refine HCO.out.mono ?_; rintro e w' ⟨rfl, rfl⟩) | (go_at_call 50; refine HEO.out.mono ?_; rintro e w' ⟨rfl, rfl⟩))
  go_still_tail 10, (by kernel_rfl)
  go_wp2_with fail
  refine HFI.out.mono ?_
  rintro e w3 ⟨rfl, hr3⟩
  clear HFI HCO HEO c5 c6 c9 d1 d2 d3 x3 x4 y3 y4 y5 y6
  by_cases hz : z.2 = 0
  case neg =>
    have HE2 : Hid (Lg.onlyS n d x rs = (z.1, z.2, { x with bro := true })) := by have := HE.out; unfold Lg.onlyEnd at this; rw [if_neg hz] at this; exact this
    have d4 : (z.2 != 0) = true := bne_iff_ne.2 hz
    have c9 := hr3.out.1.log.c9
    have f9 := hr3.out.1.log.fz 9
    clear HE
    go_wp2
    go_ret
    refine ⟨by rw [HE2.out]; rfl, ?_⟩
    rw [HE2.out]
    exact AfterK.of (hr3.out.1.set 9 (.bool true) rfl hr3.out.1.log.rows (good_bro hgood) hr3.out.1.log.ne) (hr3.out.2.1.trans (kept_lb hKl)) hKv
  have d4 : (z.2 != 0) = false := by rw [hz]; rfl
  have y0 := hr3.out.1.log.c0
  have y1 := hr3.out.1.log.c1
  have y2 := hr3.out.1.log.c2
  have y3 := hr3.out.1.log.c3
  have y4 := hr3.out.1.log.c4
  have y5 := hr3.out.1.log.c5
  have f0 := hr3.out.1.log.fz 0
  have f1 := hr3.out.1.log.fz 1
  have f2 := hr3.out.1.log.fz 2
  have f3 := hr3.out.1.log.fz 3
  have f4 := hr3.out.1.log.fz 4
  have f5 := hr3.out.1.log.fz 5
  have HE2 : Hid (Lg.onlyS n d x rs = (z.1, 0, ⟨1 - x.half, x.gen + 1, rs, 1 + Lg.sumSecs rs, false⟩)) := by have := HE.out; unfold Lg.onlyEnd at this; rw [if_pos hz] at this; exact this
  obtain ⟨hsw1, hsw2⟩ := held_swap hr3.out.1
  have HSW : Hid (Held (swapW w3 lb g (Lg.start n (1 - x.half) : Nat) (Lg.start n x.half : Nat) ((n : Int) / 2)).drew base F lb v g s n { x with half := 1 - x.half } z.1 ∧ Kept K W (swapW w3 lb g (Lg.start n (1 - x.half) : Nat) (Lg.start n x.half : Nat) ((n : Int) / 2)).drew ∧ RowIn F (swapW w3 lb g (Lg.start n (1 - x.half) : Nat) (Lg.start n x.half : Nat) ((n : Int) / 2)).drew A rs) := by
    have hkF := hsw2.wide (G := F) (fun i _ e => by rw [e]; exact hr3.out.1.log.fl)
    have hkK := hsw2.wide (G := K) (fun i _ e => by rw [e]; exact hKl)
    exact ⟨hsw1.drew, (hr3.out.2.1.trans hkK).drew, (hr3.out.2.2.keep hkF.drew)⟩
  clear hsw1 hsw2 hr3 HE hz
  have hsecs : Lg.sumSecs rs ≤ 100000 := hT
  generalize hTT : Lg.sumSecs rs = T at *
  have HTT := Lib.hid hTT
  clear hTT
  go_wp2_with fail
  go_region
  unfold swapW at HSW
  generalize hw4 : ((((((w3.setCell ⟨lb, 0, none⟩ (.pointer (some ⟨g, 0, none⟩))).setCell ⟨lb, 1, none⟩ (.int .i64 (Lg.start n (1 - x.half) : Nat))).setCell ⟨lb, 2, none⟩ (.int .i64 ((n : Int) / 2))).setCell ⟨lb, 3, none⟩ (.pointer (some ⟨g, 0, none⟩))).setCell ⟨lb, 4, none⟩ (.int .i64 (Lg.start n x.half : Nat))).setCell ⟨lb, 5, none⟩ (.int .i64 ((n : Int) / 2))).drew = w4 at *
  clear hw4 y0 y1 y2 y3 y4 y5 f0 f1 f2 f3 f4 f5
  have c6 := HSW.out.1.log.c6
  have f6 := HSW.out.1.log.fz 6
  have hg5 : Lg.LGood n { x with half := 1 - x.half, gen := x.gen + 1 } := ⟨by simp only; omega, by simp only; omega, by simp only; omega, hgood.fin, hgood.cnt, hgood.len⟩
  have HW5 : Hid (Held (w4.setCell ⟨lb, 6, none⟩ (.int .i64 ((x.gen : Int) + 1))) base F lb v g s n { x with half := 1 - x.half, gen := x.gen + 1 } z.1 ∧ Kept K W (w4.setCell ⟨lb, 6, none⟩ (.int .i64 ((x.gen : Int) + 1))) ∧ RowIn F (w4.setCell ⟨lb, 6, none⟩ (.int .i64 ((x.gen : Int) + 1))) A rs) := by
    have e6 : (x.gen : Int) + 1 = ((x.gen + 1 : Nat) : Int) := by omega
    have hkk : Kept F w4 (w4.setCell ⟨lb, 6, none⟩ (.int .i64 ((x.gen : Int) + 1))) := kept_lb HSW.out.1.log.fl
    refine ⟨?_, HSW.out.2.1.trans (kept_lb hKl), HSW.out.2.2.keep hkk⟩
    rw [e6]
    exact HSW.out.1.set (x' := { x with half := 1 - x.half, gen := x.gen + 1 }) 6 (.int .i64 ((x.gen + 1 : Nat) : Int)) rfl HSW.out.1.log.rows hg5 HSW.out.1.log.ne
  have HCP := Lib.hid (copyOf_any A m c rs _ HM.out (by omega) (fun r hr => Nat.le_trans (HL.out r hr) (by omega)) (RowIn.less HW5.out.2.2 (fun _ _ => False.elim)))
  clear HSW
  go_wp2_with fail
  clear c6 f6
  generalize w4.setCell ⟨lb, 6, none⟩ (.int .i64 ((x.gen : Int) + 1)) = w5 at *
  refine HCP.out.mono ?_
  rintro e w6 ⟨v6, rfl, hf6⟩
  obtain ⟨hr6, hb6, A6, c6, rfl⟩ := hf6
  have h6 := HW5.out.1.below hb6
  have y7 := h6.log.c7
  have f7 := h6.log.fz 7
  have y8 := h6.log.c8
  have f8 := h6.log.fz 8
  have hlb := h6.log.lt
  have HFIN : Hid (AfterK W base F K lb g s n (z.1, 0, ⟨1 - x.half, x.gen + 1, rs, 1 + T, false⟩) ((w6.setCell ⟨lb, 7, none⟩ (.slice A6 rs.length c6)).setCell ⟨lb, 8, none⟩ (.int .i64 (1 + (T : Int))))) := by
    have e8 : (1 : Int) + (T : Int) = ((1 + T : Nat) : Int) := by omega
    rw [e8]
    have hold : ∀ i, F i → i < w5.heap.size := HW5.out.1.flt
    have hro : ∀ i, Value.ownBlock (.slice A6 rs.length c6) = some i → i < w6.heap.size ∧ w5.heap.size ≤ i := fun i hi => by
      obtain ⟨vs, ho, _⟩ := hr6
      exact ⟨(ho.lt i hi).2, (ho.lt i hi).1⟩
    refine ⟨fun i => F i ∨ Value.ownBlock (.slice A6 rs.length c6) = some i, .slice A6 rs.length c6, ?_, ?_, fun _ => .inl, ?_, fun i hi => .inr (Nat.le_trans HW5.out.2.1.size (hro i hi).2)⟩
    · refine held_row2 (x := { x with half := 1 - x.half, gen := x.gen + 1 }) (x' := ⟨1 - x.half, x.gen + 1, rs, 1 + T, false⟩) h6.log.top h6.disk ?_ ?_ ?_ (.inl h6.log.fl) (.inl h6.fg) (.inl h6.fs) ?_ ?_ h6.hb
      · refine (hr6.mono (Nat.le_trans HW5.out.1.hb (Nat.le_refl _))).wide (fun i _ hi => ?_) (fun i hi => .inr hi)
        rcases hi with hi | hi
        · exact .inl (hold i hi)
        · exact .inr hi
      · have hbr : x.bro = false := HBRO.out
        unfold logCells
        simp only [hbr]
        rfl
      · refine ⟨by simp only; omega, by simp only; omega, by simp only; omega, by simp only; omega, ?_, HL.out⟩
        have := Lg.sumSecs_len rs
        rw [HTT.out] at this
        simp only
        omega
      · rintro i (hi | hi)
        · exact h6.flt i hi
        · exact (hro i hi).1
      · rintro i (hi | hi)
        · exact h6.fge i hi
        · exact Nat.le_trans HW5.out.1.hb (hro i hi).2
    · exact ((HW5.out.2.1.trans (Kept.of_below hb6)).trans (kept_lb hKl)).trans (kept_lb hKl)
    · rintro i (hi | hi)
      · exact .inl hi
      · exact .inr (Nat.le_trans HW5.out.2.1.size (hro i hi).2)
  have z8 : (w6.setCell ⟨lb, 7, none⟩ (.slice A6 rs.length c6)).cell? ⟨lb, 8, none⟩ = some (.int .i64 (x.fin : Nat)) := by
    rw [cell_of_row _ lb 8 _ _ _ (top_set h6.log.top 7 _)]
    rfl
  have g8 : (w6.setCell ⟨lb, 7, none⟩ (.slice A6 rs.length c6)).frozen? ⟨lb, 8, none⟩ = false := by unfold World.frozen?; rw [top_set h6.log.top 7 _]; simp
  clear hr6 hb6 h6 HW5 HCP
  go_wp2
  go_ret
  exact ⟨by rw [HE2.out]; rfl, by rw [HE2.out]; exact HFIN.out⟩

end Go.Proofs.Ytoocifoglhhnmaa
