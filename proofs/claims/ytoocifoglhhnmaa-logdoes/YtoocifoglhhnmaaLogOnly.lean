/- Contracts of package log: Only. -/
import Derived.Test.YtoocifoglhhnmaaLogOps
namespace Go.Proofs.Ytoocifoglhhnmaa
open Go.RowKit
set_option linter.unusedVariables false

theorem RowsAt.mono {W : World} {base base' : Nat} {F : Nat → Prop} {v : Value} {rs : List Dk.Bs} (h : RowsAt W base F v rs) (hb : base' ≤ base) : RowsAt W base' F v rs := by
  obtain ⟨vs, ⟨h1, h2⟩, h3, h4⟩ := h
  refine ⟨vs, ⟨h1, ?_⟩, h3, h4⟩
  rcases h2 with h2 | ⟨g, cap, cur, hv, hg, r⟩
  · exact .inl h2
  · exact .inr ⟨g, cap, cur, hv, Nat.le_trans hb hg, r⟩

theorem held_row2 {w : World} {base lb g s n : Nat} {F : Nat → Prop} {v v' u : Value} {x x' : Lg.L} {d : Dk.D} (ht : w.heap[lb]? = some (.cells (logCells g n x v) 67 (0, 0))) (hd : DiskAt w g s n d) (hr : RowsAt w base F v' x'.recs) (he : ((logCells g n x v).setIfInBounds 7 v').setIfInBounds 8 u = logCells g n x' v') (hg : Lg.LGood n x')
    (fl : F lb) (fg : F g) (fs : F s) (flt : ∀ i, F i → i < w.heap.size) (fge : ∀ i, F i → base ≤ i) (hb : base ≤ w.heap.size) : Held ((w.setCell ⟨lb, 7, none⟩ v').setCell ⟨lb, 8, none⟩ u) base F lb v' g s n x' d := by
  have hk : Kept (fun i => i = lb) w ((w.setCell ⟨lb, 7, none⟩ v').setCell ⟨lb, 8, none⟩ u) := ((Kept.refl (fun i => i = lb) w).setCell (p := ⟨lb, 7, none⟩) (.inl rfl) v').setCell (p := ⟨lb, 8, none⟩) (.inl rfl) u
  have hne : ∀ i, v'.ownBlock = some i → i ≠ lb := by
    obtain ⟨vs, ho, _⟩ := hr
    rintro i hi e
    subst e
    exact own_ne ho ht (by decide) hi.symm
  have h1 : (w.setCell ⟨lb, 7, none⟩ v').heap[lb]? = some (.cells ((logCells g n x v).setIfInBounds 7 v') 67 (0, 0)) := by
    rw [setCell_eq_setRow w lb 7 _ _ _ v' ht]
    exact setRow_heap w lb _ _ _ _ ht
  refine ⟨⟨?_, hr.keep hk (fun i _ e => by rw [e]; exact fl) (fun i hi e => hne i hi e), hg, fl, hne⟩, hd.keep hk (fun e => blocks_ne ht hd.top (by decide) e.symm) (fun e => blocks_ne ht hd.row (by decide) e.symm), fg, fs, fun i hi => Nat.lt_of_lt_of_le (flt i hi) hk.size, fge, Nat.le_trans hb hk.size⟩
  rw [setCell_eq_setRow _ lb 8 _ _ _ u h1, ← he]
  exact setRow_heap _ lb _ _ _ _ h1

theorem top_set {w : World} {lb : Nat} {cs : Array Value} {T : TypeId} (h : w.heap[lb]? = some (.cells cs T (0, 0))) (k : Nat) (u : Value) : (w.setCell ⟨lb, k, none⟩ u).heap[lb]? = some (.cells (cs.setIfInBounds k u) T (0, 0)) := by
  rw [setCell_eq_setRow w lb k _ _ _ u h]
  exact setRow_heap w lb _ _ _ _ h
theorem Held.lay {w w' : World} {base lb g s n : Nat} {F : Nat → Prop} {v : Value} {x x' : Lg.L} {d : Dk.D} (h : Held w base F lb v g s n x d) (hk : Kept (fun i => i = lb) w w') (ht : w'.heap[lb]? = some (.cells (logCells g n x' v) 67 (0, 0))) (hr : x'.recs = x.recs) (hg : Lg.LGood n x') : Held w' base F lb v g s n x' d := by
  have hng := h.log.ng h.disk
  exact ⟨⟨ht, by rw [hr]; exact h.log.rows.keep hk (fun i _ e => by rw [e]; exact h.log.fl) (fun i hi e => h.log.ne i hi e), hg, h.log.fl, h.log.ne⟩, h.disk.keep hk (fun e => hng (.inl e.symm)) (fun e => hng (.inr e.symm)), h.fg, h.fs, fun i hi => Nat.lt_of_lt_of_le (h.flt i hi) hk.size, h.fge, Nat.le_trans h.hb hk.size⟩

/-- the two halves change places -/
def swapW (w : World) (lb g : Nat) (a b h2 : Int) : World := (((((w.setCell ⟨lb, 0, none⟩ (.pointer (some ⟨g, 0, none⟩))).setCell ⟨lb, 1, none⟩ (.int .i64 a)).setCell ⟨lb, 2, none⟩ (.int .i64 h2)).setCell ⟨lb, 3, none⟩ (.pointer (some ⟨g, 0, none⟩))).setCell ⟨lb, 4, none⟩ (.int .i64 b)).setCell ⟨lb, 5, none⟩ (.int .i64 h2)
theorem held_swap {w : World} {base lb g s n : Nat} {F : Nat → Prop} {v : Value} {x : Lg.L} {d : Dk.D} (h : Held w base F lb v g s n x d) :
    Held (swapW w lb g (Lg.start n (1 - x.half) : Nat) (Lg.start n x.half : Nat) ((n / 2 : Nat) : Int)) base F lb v g s n { x with half := 1 - x.half } d ∧ Kept (fun i => i = lb) w (swapW w lb g (Lg.start n (1 - x.half) : Nat) (Lg.start n x.half : Nat) ((n / 2 : Nat) : Int)) := by
  have hh := h.log.good.half
  have hk : Kept (fun i => i = lb) w (swapW w lb g (Lg.start n (1 - x.half) : Nat) (Lg.start n x.half : Nat) ((n / 2 : Nat) : Int)) :=
    ((((((Kept.refl (fun i => i = lb) w).setCell (p := ⟨lb, 0, none⟩) (.inl rfl) _).setCell (p := ⟨lb, 1, none⟩) (.inl rfl) _).setCell (p := ⟨lb, 2, none⟩) (.inl rfl) _).setCell (p := ⟨lb, 3, none⟩) (.inl rfl) _).setCell (p := ⟨lb, 4, none⟩) (.inl rfl) _).setCell (p := ⟨lb, 5, none⟩) (.inl rfl) _
  refine ⟨h.lay (x' := { x with half := 1 - x.half }) hk ?_ rfl ⟨by simp only; omega, h.log.good.g0, h.log.good.g1, h.log.good.fin, h.log.good.cnt, h.log.good.len⟩, hk⟩
  have ht := top_set (top_set (top_set (top_set (top_set (top_set h.log.top 0 (.pointer (some ⟨g, 0, none⟩))) 1 (.int .i64 (Lg.start n (1 - x.half) : Nat))) 2 (.int .i64 ((n / 2 : Nat) : Int))) 3 (.pointer (some ⟨g, 0, none⟩))) 4 (.int .i64 (Lg.start n x.half : Nat))) 5 (.int .i64 ((n / 2 : Nat) : Int))
  have e : 1 - (1 - x.half) = x.half := by omega
  have he : ((((((logCells g n x v).setIfInBounds 0 (.pointer (some ⟨g, 0, none⟩))).setIfInBounds 1 (.int .i64 (Lg.start n (1 - x.half) : Nat))).setIfInBounds 2 (.int .i64 ((n / 2 : Nat) : Int))).setIfInBounds 3 (.pointer (some ⟨g, 0, none⟩))).setIfInBounds 4 (.int .i64 (Lg.start n x.half : Nat))).setIfInBounds 5 (.int .i64 ((n / 2 : Nat) : Int)) = logCells g n { x with half := 1 - x.half } v := by
    unfold logCells
    simp only [e]
    rfl
  rw [he] at ht
  exact ht

set_option maxHeartbeats 4000000 in
set_option maxRecDepth 100000 in
theorem only_any (W : World) (base : Nat) (F : Nat → Prop) (lb : Nat) (v : Value) (g s n : Nat) (x : Lg.L) (d : Dk.D) (A : Option Addr) (m c : Nat) (rs : List Dk.Bs) (h : Held W base F lb v g s n x d) (hw : d.writes ≤ 900000) (hn4 : 4 ≤ n) (hm : rs.length = m) (hmx : m ≤ 1000) (hb : RowIn F W A rs) :
    Calls Try.prog 18 #[.pointer (some ⟨lb, 0, none⟩), .slice A m c] W fun e w' => e = .returned (.int .i64 (Lg.onlyS n d x rs).2.1) ∧ After W base F lb g s n (Lg.onlyS n d x rs) w' := by
  have c9 := h.log.c9
  have hn1 := h.disk.n1
  by_cases h1 : x.bro = true
  · have HE : Hid (Lg.onlyS n d x rs = (d, 7, x)) := by unfold Hid Lg.onlyS; rw [if_pos h1]
    have H := Lib.hid h
    rw [h1] at c9
    clear h h1 hb
    go_enter Try.func18, Try.ntmps18
    go_wp2
    go_ret
    exact ⟨by rw [HE.out]; rfl, by rw [HE.out]; exact After.of H.out (Kept.refl _ _)⟩
  rw [Bool.eq_false_iff.2 h1] at c9
  have HCO := contains_any F A m c rs W hm (by omega) hb
  by_cases h2 : bigB rs = true
  · have HE : Hid (Lg.onlyS n d x rs = (d, 1, x)) := by unfold Hid Lg.onlyS; rw [if_neg h1, if_pos h2]
    have H := Lib.hid h
    rw [h2] at HCO
    have HCO := Lib.hid HCO
    clear h h1 hb h2
    go_enter Try.func18, Try.ntmps18
    go_wp2_with (go_at_call 48; refine HCO.out.mono ?_; rintro e w' ⟨rfl, rfl⟩)
    go_ret
    exact ⟨by rw [HE.out]; rfl, by rw [HE.out]; exact After.of H.out (Kept.refl _ _)⟩
  rw [Bool.eq_false_iff.2 h2] at HCO
  have HCO := Lib.hid HCO
  have hl := bigB_false (Bool.eq_false_iff.2 h2)
  have HEO := Lib.hid (endOf_any F A m c rs W hm (by omega) hl hb)
  have c5 := h.log.c5
  have c6 := h.log.c6
  have hT : Lg.sumSecs rs ≤ 100000 := by
    have : ∀ l : List Dk.Bs, (∀ r ∈ l, r.length ≤ 200) → Lg.sumSecs l ≤ 7 * l.length := by
      intro l hl
      induction l with
      | nil => simp [Lg.sumSecs]
      | cons r l ih =>
        have h1 := Lg.secs_le r.length (hl r (by simp))
        have h2 := ih (fun r hr => hl r (by simp [hr]))
        simp [Lg.sumSecs]
        omega
    have := this rs hl
    omega
  by_cases h3 : n / 2 < 1 + Lg.sumSecs rs
  · have HE : Hid (Lg.onlyS n d x rs = (d, 4, x)) := by unfold Hid Lg.onlyS; rw [if_neg h1, if_neg h2, if_pos h3]
    have H := Lib.hid h
    have d1 : decide (((n / 2 : Nat) : Int) < ((1 + Lg.sumSecs rs : Nat) : Int)) = true := decide_eq_true (by omega)
    have d2 : decide (n / 2 < 1 + Lg.sumSecs rs) = true := decide_eq_true h3
    clear h h1 hb h2 h3 hl
    generalize 1 + Lg.sumSecs rs = T at *
    generalize n / 2 = h2 at *
    go_enter Try.func18, Try.ntmps18
    go_wp2_with (first | (go_at_call 48; refine HCO.out.mono ?_; rintro e w' ⟨rfl, rfl⟩) | (go_at_call 50; refine HEO.out.mono ?_; rintro e w' ⟨rfl, rfl⟩))
    go_ret
    exact ⟨by rw [HE.out]; rfl, by rw [HE.out]; exact After.of H.out (Kept.refl _ _)⟩
  have d1 : decide (((n / 2 : Nat) : Int) < ((1 + Lg.sumSecs rs : Nat) : Int)) = false := decide_eq_false (by omega)
  have d2 : decide (n / 2 < 1 + Lg.sumSecs rs) = false := decide_eq_false h3
  by_cases h4 : x.gen = 2147483647
  · have HE : Hid (Lg.onlyS n d x rs = (d, 4, x)) := by unfold Hid Lg.onlyS; rw [if_neg h1, if_neg h2, if_neg h3, if_pos h4]
    have H := Lib.hid h
    rw [h4] at c6
    clear h h1 hb h2 h3 hl h4
    generalize 1 + Lg.sumSecs rs = T at *
    generalize n / 2 = h2 at *
    go_enter Try.func18, Try.ntmps18
    go_wp2_with (first | (go_at_call 48; refine HCO.out.mono ?_; rintro e w' ⟨rfl, rfl⟩) | (go_at_call 50; refine HEO.out.mono ?_; rintro e w' ⟨rfl, rfl⟩))
    go_ret
    exact ⟨by rw [HE.out]; rfl, by rw [HE.out]; exact After.of H.out (Kept.refl _ _)⟩
  have HE : Hid (Lg.onlyS n d x rs = Lg.onlyEnd x rs (Lg.fillS n (Lg.start n (1 - x.half)) (n / 2) (x.gen + 1) rs d)) := by unfold Hid Lg.onlyS; rw [if_neg h1, if_neg h2, if_neg h3, if_neg h4]
  obtain ⟨g0, g1, half⟩ : 1 ≤ x.gen ∧ x.gen ≤ 2147483647 ∧ x.half ≤ 1 := ⟨h.log.good.g0, h.log.good.g1, h.log.good.half⟩
  have hst := Lg.start_le (n := n) (half := 1 - x.half) (by omega)
  have d3 : ((x.gen : Int) == 2147483647) = false := beq_eq_false_iff_ne.2 (by omega)
  have hw6 : IntKind.i64.wrap ((x.gen : Int) + 1) = (x.gen : Int) + 1 := by rw [IntKind.wrap_i64]; omega
  have y3 : W.drew.cell? ⟨lb, 3, none⟩ = some (.pointer (some ⟨g, 0, none⟩)) := h.log.c3
  have y4 : W.drew.cell? ⟨lb, 4, none⟩ = some (.int .i64 (Lg.start n (1 - x.half) : Nat)) := h.log.c4
  have y5 : W.drew.cell? ⟨lb, 5, none⟩ = some (.int .i64 (n / 2 : Nat)) := h.log.c5
  have y6 : W.drew.cell? ⟨lb, 6, none⟩ = some (.int .i64 (x.gen : Nat)) := h.log.c6
  have x3 := h.log.c3
  have x4 := h.log.c4
  have HFI : Hid (Calls Try.prog 51 #[.agg #[.pointer (some ⟨g, 0, none⟩), .int .i64 (Lg.start n (1 - x.half) : Nat), .int .i64 (n / 2 : Nat)], .slice A m c, .int .i64 ((x.gen : Int) + 1)] W.drew fun e w' => e = .returned (.int .i64 (Lg.fillS n (Lg.start n (1 - x.half)) (n / 2) (x.gen + 1) rs d).2) ∧ Hid (Held w' base F lb v g s n x (Lg.fillS n (Lg.start n (1 - x.half)) (n / 2) (x.gen + 1) rs d).1 ∧ Kept F W w' ∧ RowIn F w' A rs)) := by
    have := fill_any g s n (Lg.start n (1 - x.half)) (n / 2) (x.gen + 1) d A m c rs W.drew h.disk.drew hst (by omega) (by omega) (by omega) hm hl (by omega) (RowIn.less (F := F) hb (fun i _ => h.two i))
    rw [show ((x.gen + 1 : Nat) : Int) = (x.gen : Int) + 1 by omega] at this
    refine this.mono fun _ w' ⟨e1, e2, e3⟩ => ?_
    have e3' : Kept (Two g s) W w' := ⟨e3.os, e3.tape, e3.output, e3.size, e3.block⟩
    have hkF : Kept F W w' := e3'.wide (fun i _ => h.two i)
    exact ⟨e1, h.turn e2 e3', hkF, hb.keep hkF⟩
  have hgood := h.log.good
  have hbro : x.bro = false := Bool.eq_false_iff.2 h1
  have HBRO := Lib.hid hbro
  have HM := Lib.hid hm
  have HL := Lib.hid hl
  clear h hb h1 h2 hl hm hbro
  generalize hz : Lg.fillS n (Lg.start n (1 - x.half)) (n / 2) (x.gen + 1) rs d = z at *
  clear hz
  go_enter Try.func18, Try.ntmps18
  go_wp2_with (first | (go_at_call 48; refine HCO.out.mono ?_; rintro e w' ⟨rfl, rfl⟩) | (go_at_call 50; refine HEO.out.mono ?_; rintro e w' ⟨rfl, rfl⟩))
  go_still_tail 10, (by kernel_rfl)
  go_wp2_with fail
  refine HFI.out.mono ?_
  rintro e w3 ⟨rfl, hr3⟩
  clear HFI HCO HEO c5 c6 c9 d1 d2 d3 x3 x4 y3 y4 y5 y6
  by_cases hz : z.2 = 0
  case neg =>
    have HE2 : Hid (Lg.onlyS n d x rs = (z.1, z.2, { x with bro := true })) := by have := HE.out; unfold Lg.onlyEnd at this; rw [if_neg hz] at this; exact this
    have d4 : (z.2 != 0) = true := bne_iff_ne.2 hz
    have c9 := hr3.out.1.log.c9
    have f9 := hr3.out.1.log.fz 9
    clear HE
    go_wp2
    go_ret
    refine ⟨by rw [HE2.out]; rfl, ?_⟩
    rw [HE2.out]
    exact After.of (hr3.out.1.set 9 (.bool true) rfl hr3.out.1.log.rows (good_bro hgood) hr3.out.1.log.ne) (hr3.out.2.1.trans (kept_lb hr3.out.1.log.fl))
  have d4 : (z.2 != 0) = false := by rw [hz]; rfl
  have y0 := hr3.out.1.log.c0
  have y1 := hr3.out.1.log.c1
  have y2 := hr3.out.1.log.c2
  have y3 := hr3.out.1.log.c3
  have y4 := hr3.out.1.log.c4
  have y5 := hr3.out.1.log.c5
  have f0 := hr3.out.1.log.fz 0
  have f1 := hr3.out.1.log.fz 1
  have f2 := hr3.out.1.log.fz 2
  have f3 := hr3.out.1.log.fz 3
  have f4 := hr3.out.1.log.fz 4
  have f5 := hr3.out.1.log.fz 5
  have HE2 : Hid (Lg.onlyS n d x rs = (z.1, 0, ⟨1 - x.half, x.gen + 1, rs, 1 + Lg.sumSecs rs, false⟩)) := by have := HE.out; unfold Lg.onlyEnd at this; rw [if_pos hz] at this; exact this
  obtain ⟨hsw1, hsw2⟩ := held_swap hr3.out.1
  have HSW : Hid (Held (swapW w3 lb g (Lg.start n (1 - x.half) : Nat) (Lg.start n x.half : Nat) ((n : Int) / 2)).drew base F lb v g s n { x with half := 1 - x.half } z.1 ∧ Kept F W (swapW w3 lb g (Lg.start n (1 - x.half) : Nat) (Lg.start n x.half : Nat) ((n : Int) / 2)).drew ∧ RowIn F (swapW w3 lb g (Lg.start n (1 - x.half) : Nat) (Lg.start n x.half : Nat) ((n : Int) / 2)).drew A rs) := by
    have hkF := hsw2.wide (G := F) (fun i _ e => by rw [e]; exact hr3.out.1.log.fl)
    exact ⟨hsw1.drew, (hr3.out.2.1.trans hkF).drew, (hr3.out.2.2.keep hkF.drew)⟩
  clear hsw1 hsw2 hr3 HE hz
  have hsecs : Lg.sumSecs rs ≤ 100000 := hT
  generalize hTT : Lg.sumSecs rs = T at *
  have HTT := Lib.hid hTT
  clear hTT
  go_wp2_with fail
  go_region
  unfold swapW at HSW
  generalize hw4 : ((((((w3.setCell ⟨lb, 0, none⟩ (.pointer (some ⟨g, 0, none⟩))).setCell ⟨lb, 1, none⟩ (.int .i64 (Lg.start n (1 - x.half) : Nat))).setCell ⟨lb, 2, none⟩ (.int .i64 ((n : Int) / 2))).setCell ⟨lb, 3, none⟩ (.pointer (some ⟨g, 0, none⟩))).setCell ⟨lb, 4, none⟩ (.int .i64 (Lg.start n x.half : Nat))).setCell ⟨lb, 5, none⟩ (.int .i64 ((n : Int) / 2))).drew = w4 at *
  clear hw4 y0 y1 y2 y3 y4 y5 f0 f1 f2 f3 f4 f5
  have c6 := HSW.out.1.log.c6
  have f6 := HSW.out.1.log.fz 6
  have hg5 : Lg.LGood n { x with half := 1 - x.half, gen := x.gen + 1 } := ⟨by simp only; omega, by simp only; omega, by simp only; omega, hgood.fin, hgood.cnt, hgood.len⟩
  have HW5 : Hid (Held (w4.setCell ⟨lb, 6, none⟩ (.int .i64 ((x.gen : Int) + 1))) base F lb v g s n { x with half := 1 - x.half, gen := x.gen + 1 } z.1 ∧ Kept F W (w4.setCell ⟨lb, 6, none⟩ (.int .i64 ((x.gen : Int) + 1))) ∧ RowIn F (w4.setCell ⟨lb, 6, none⟩ (.int .i64 ((x.gen : Int) + 1))) A rs) := by
    have e6 : (x.gen : Int) + 1 = ((x.gen + 1 : Nat) : Int) := by omega
    have hkk : Kept F w4 (w4.setCell ⟨lb, 6, none⟩ (.int .i64 ((x.gen : Int) + 1))) := kept_lb HSW.out.1.log.fl
    refine ⟨?_, HSW.out.2.1.trans hkk, HSW.out.2.2.keep hkk⟩
    rw [e6]
    exact HSW.out.1.set (x' := { x with half := 1 - x.half, gen := x.gen + 1 }) 6 (.int .i64 ((x.gen + 1 : Nat) : Int)) rfl HSW.out.1.log.rows hg5 HSW.out.1.log.ne
  have HCP := Lib.hid (copyOf_any A m c rs _ HM.out (by omega) (fun r hr => Nat.le_trans (HL.out r hr) (by omega)) (RowIn.less HW5.out.2.2 (fun _ _ => False.elim)))
  clear HSW
  go_wp2_with fail
  clear c6 f6
  generalize w4.setCell ⟨lb, 6, none⟩ (.int .i64 ((x.gen : Int) + 1)) = w5 at *
  refine HCP.out.mono ?_
  rintro e w6 ⟨v6, rfl, hf6⟩
  obtain ⟨hr6, hb6, A6, c6, rfl⟩ := hf6
  have h6 := HW5.out.1.below hb6
  have y7 := h6.log.c7
  have f7 := h6.log.fz 7
  have y8 := h6.log.c8
  have f8 := h6.log.fz 8
  have hlb := h6.log.lt
  have HFIN : Hid (After W base F lb g s n (z.1, 0, ⟨1 - x.half, x.gen + 1, rs, 1 + T, false⟩) ((w6.setCell ⟨lb, 7, none⟩ (.slice A6 rs.length c6)).setCell ⟨lb, 8, none⟩ (.int .i64 (1 + (T : Int))))) := by
    have e8 : (1 : Int) + (T : Int) = ((1 + T : Nat) : Int) := by omega
    rw [e8]
    have hold : ∀ i, F i → i < w5.heap.size := HW5.out.1.flt
    have hro : ∀ i, Value.ownBlock (.slice A6 rs.length c6) = some i → i < w6.heap.size ∧ w5.heap.size ≤ i := fun i hi => by
      obtain ⟨vs, ho, _⟩ := hr6
      exact ⟨(ho.lt i hi).2, (ho.lt i hi).1⟩
    refine ⟨fun i => F i ∨ Value.ownBlock (.slice A6 rs.length c6) = some i, .slice A6 rs.length c6, ?_, ?_, fun _ => .inl, ?_⟩
    · refine held_row2 (x := { x with half := 1 - x.half, gen := x.gen + 1 }) (x' := ⟨1 - x.half, x.gen + 1, rs, 1 + T, false⟩) h6.log.top h6.disk ?_ ?_ ?_ (.inl h6.log.fl) (.inl h6.fg) (.inl h6.fs) ?_ ?_ h6.hb
      · refine (hr6.mono (Nat.le_trans HW5.out.1.hb (Nat.le_refl _))).wide (fun i _ hi => ?_) (fun i hi => .inr hi)
        rcases hi with hi | hi
        · exact .inl (hold i hi)
        · exact .inr hi
      · have hbr : x.bro = false := HBRO.out
        unfold logCells
        simp only [hbr]
        rfl
      · refine ⟨by simp only; omega, by simp only; omega, by simp only; omega, by simp only; omega, ?_, HL.out⟩
        have := Lg.sumSecs_len rs
        rw [HTT.out] at this
        simp only
        omega
      · rintro i (hi | hi)
        · exact h6.flt i hi
        · exact (hro i hi).1
      · rintro i (hi | hi)
        · exact h6.fge i hi
        · exact Nat.le_trans HW5.out.1.hb (hro i hi).2
    · exact ((HW5.out.2.1.trans (Kept.of_below hb6)).trans (kept_lb h6.log.fl)).trans (kept_lb h6.log.fl)
    · rintro i (hi | hi)
      · exact .inl hi
      · exact .inr (Nat.le_trans HW5.out.2.1.size (hro i hi).2)
  have z8 : (w6.setCell ⟨lb, 7, none⟩ (.slice A6 rs.length c6)).cell? ⟨lb, 8, none⟩ = some (.int .i64 (x.fin : Nat)) := by
    rw [cell_of_row _ lb 8 _ _ _ (top_set h6.log.top 7 _)]
    rfl
  have g8 : (w6.setCell ⟨lb, 7, none⟩ (.slice A6 rs.length c6)).frozen? ⟨lb, 8, none⟩ = false := by unfold World.frozen?; rw [top_set h6.log.top 7 _]; simp
  clear hr6 hb6 h6 HW5 HCP
  go_wp2
  go_ret
  exact ⟨by rw [HE2.out]; rfl, by rw [HE2.out]; exact HFIN.out⟩

end Go.Proofs.Ytoocifoglhhnmaa
