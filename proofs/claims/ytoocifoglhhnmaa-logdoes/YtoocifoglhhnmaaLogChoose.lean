/- Contracts of package log: choose. -/
import Derived.Test.YtoocifoglhhnmaaLogOnly
namespace Go.Proofs.Ytoocifoglhhnmaa
open Go.RowKit
set_option linter.unusedVariables false

/-- what choose leaves: the disk, the answer, the generation, the half -/
noncomputable def chooseQ (n : Nat) (d : Dk.D) : Dk.D × Int × Nat × Nat :=
  if Lg.genOf d.b 0 < Lg.genOf d.b (n / 2) then (d, 0, Lg.genOf d.b (n / 2), 1)
  else if 0 < Lg.genOf d.b 0 then (d, 0, Lg.genOf d.b 0, 0)
  else if isNewB d.b 0 (n / 2) = false then (d, 8, 0, 0)
  else ((Lg.wr n d 0 (Lg.head 1)).1, (Lg.wr n d 0 (Lg.head 1)).2, 1, 0)

def raw (half gen : Nat) : Lg.L := ⟨half, gen, [], 0, false⟩
/-- the struct while it opens -/
structure RawAt (W : World) (lb g s n half gen : Nat) (d : Dk.D) : Prop where
  top : W.heap[lb]? = some (.cells (logCells g n (raw half gen) (.slice none 0 0)) 67 (0, 0))
  disk : DiskAt W g s n d
theorem RawAt.lt {W : World} {lb g s n half gen : Nat} {d : Dk.D} (h : RawAt W lb g s n half gen d) : lb < W.heap.size := (Array.getElem?_eq_some_iff.1 h.top).1
theorem RawAt.ng {W : World} {lb g s n half gen : Nat} {d : Dk.D} (h : RawAt W lb g s n half gen d) : ¬ Two g s lb := by
  rintro (e | e)
  · exact blocks_ne h.top h.disk.top (by decide) e
  · exact blocks_ne h.top h.disk.row (by decide) e
theorem RawAt.turn {W W' : World} {lb g s n half gen : Nat} {d d' : Dk.D} (h : RawAt W lb g s n half gen d) (hd : DiskAt W' g s n d') (hk : Kept (Two g s) W W') : RawAt W' lb g s n half gen d' := ⟨(hk.block lb h.lt h.ng).trans h.top, hd⟩
theorem RawAt.below {W W' : World} {lb g s n half gen : Nat} {d : Dk.D} (h : RawAt W lb g s n half gen d) (hb : Below W.heap.size W W') : RawAt W' lb g s n half gen d := h.turn (h.disk.below hb) (Kept.of_below hb)
theorem RawAt.drew {W : World} {lb g s n half gen : Nat} {d : Dk.D} (h : RawAt W lb g s n half gen d) : RawAt W.drew lb g s n half gen d := ⟨h.top, h.disk.drew⟩
theorem RawAt.lay {W W' : World} {lb g s n half gen half' gen' : Nat} {d : Dk.D} (h : RawAt W lb g s n half gen d) (hk : Kept (fun i => i = lb) W W') (ht : W'.heap[lb]? = some (.cells (logCells g n (raw half' gen') (.slice none 0 0)) 67 (0, 0))) : RawAt W' lb g s n half' gen' d :=
  ⟨ht, h.disk.keep hk (fun e => h.ng (.inl e.symm)) (fun e => h.ng (.inr e.symm))⟩
theorem RawAt.gen {W : World} {lb g s n half gen : Nat} {d : Dk.D} (h : RawAt W lb g s n half gen d) (gen' : Nat) : RawAt (W.setCell ⟨lb, 6, none⟩ (.int .i64 (gen' : Int))) lb g s n half gen' d :=
  h.lay ((Kept.refl (fun i => i = lb) W).setCell (p := ⟨lb, 6, none⟩) (.inl rfl) _) (top_set h.top 6 _)
theorem RawAt.swap {w : World} {lb g s n gen : Nat} {d : Dk.D} (h : RawAt w lb g s n 0 gen d) :
    RawAt (swapW w lb g (Lg.start n 1 : Nat) (Lg.start n 0 : Nat) ((n / 2 : Nat) : Int)) lb g s n 1 gen d ∧ Kept (fun i => i = lb) w (swapW w lb g (Lg.start n 1 : Nat) (Lg.start n 0 : Nat) ((n / 2 : Nat) : Int)) := by
  have hk : Kept (fun i => i = lb) w (swapW w lb g (Lg.start n 1 : Nat) (Lg.start n 0 : Nat) ((n / 2 : Nat) : Int)) :=
    ((((((Kept.refl (fun i => i = lb) w).setCell (p := ⟨lb, 0, none⟩) (.inl rfl) _).setCell (p := ⟨lb, 1, none⟩) (.inl rfl) _).setCell (p := ⟨lb, 2, none⟩) (.inl rfl) _).setCell (p := ⟨lb, 3, none⟩) (.inl rfl) _).setCell (p := ⟨lb, 4, none⟩) (.inl rfl) _).setCell (p := ⟨lb, 5, none⟩) (.inl rfl) _
  refine ⟨h.lay hk ?_, hk⟩
  exact top_set (top_set (top_set (top_set (top_set (top_set h.top 0 (.pointer (some ⟨g, 0, none⟩))) 1 (.int .i64 (Lg.start n 1 : Nat))) 2 (.int .i64 ((n / 2 : Nat) : Int))) 3 (.pointer (some ⟨g, 0, none⟩))) 4 (.int .i64 (Lg.start n 0 : Nat))) 5 (.int .i64 ((n / 2 : Nat) : Int))
theorem RawAt.cell {W : World} {lb g s n half gen : Nat} {d : Dk.D} (h : RawAt W lb g s n half gen d) (k : Nat) (u : Value) (hu : (logCells g n (raw half gen) (.slice none 0 0))[k]? = some u) : W.cell? ⟨lb, k, none⟩ = some u := by rw [cell_of_row W lb k _ _ _ h.top]; exact hu
theorem RawAt.fz {W : World} {lb g s n half gen : Nat} {d : Dk.D} (h : RawAt W lb g s n half gen d) (k : Nat) : W.frozen? ⟨lb, k, none⟩ = false := by unfold World.frozen?; rw [h.top]; simp

theorem start_zero (n : Nat) : Lg.start n 0 = 0 := by unfold Lg.start; omega
theorem start_one (n : Nat) : Lg.start n 1 = n / 2 := by unfold Lg.start; omega

def Lb (lb g s : Nat) (i : Nat) : Prop := Two g s i ∨ i = lb

set_option maxHeartbeats 4000000 in
set_option maxRecDepth 100000 in
theorem choose_any (W : World) (lb g s n : Nat) (d : Dk.D) (h : RawAt W lb g s n 0 0 d) (hn4 : 4 ≤ n) (hw : d.writes ≤ 900000) :
    Calls Try.prog 31 #[.pointer (some ⟨lb, 0, none⟩)] W fun e w' => e = .returned (.int .i64 (chooseQ n d).2.1) ∧ RawAt w' lb g s n (chooseQ n d).2.2.2 (chooseQ n d).2.2.1 (chooseQ n d).1 ∧ Kept (Lb lb g s) W w' := by
  have hn1 := h.disk.n1
  have c0 : W.cell? ⟨lb, 0, none⟩ = some (.pointer (some ⟨g, 0, none⟩)) := h.cell 0 (.pointer (some ⟨g, 0, none⟩)) rfl
  have c1 : W.cell? ⟨lb, 1, none⟩ = some (.int .i64 (0 : Nat)) := by have := h.cell 1 (.int .i64 (Lg.start n 0 : Nat)) rfl; rw [start_zero] at this; exact this
  have c2 : W.cell? ⟨lb, 2, none⟩ = some (.int .i64 (n / 2 : Nat)) := h.cell 2 (.int .i64 (n / 2 : Nat)) rfl
  have c3 : W.cell? ⟨lb, 3, none⟩ = some (.pointer (some ⟨g, 0, none⟩)) := h.cell 3 (.pointer (some ⟨g, 0, none⟩)) rfl
  have c4 : W.cell? ⟨lb, 4, none⟩ = some (.int .i64 (n / 2 : Nat)) := by have := h.cell 4 (.int .i64 (Lg.start n 1 : Nat)) rfl; rw [start_one] at this; exact this
  have c5 : W.cell? ⟨lb, 5, none⟩ = some (.int .i64 (n / 2 : Nat)) := h.cell 5 (.int .i64 (n / 2 : Nat)) rfl
  have SC : ∀ w', RawAt w' lb g s n 0 0 d → (w'.cell? ⟨lb, 0, none⟩ = some (.pointer (some ⟨g, 0, none⟩)) ∧ w'.cell? ⟨lb, 1, none⟩ = some (.int .i64 (0 : Nat)) ∧ w'.cell? ⟨lb, 2, none⟩ = some (.int .i64 (n / 2 : Nat)) ∧ w'.cell? ⟨lb, 3, none⟩ = some (.pointer (some ⟨g, 0, none⟩)) ∧ w'.cell? ⟨lb, 4, none⟩ = some (.int .i64 (n / 2 : Nat)) ∧ w'.cell? ⟨lb, 5, none⟩ = some (.int .i64 (n / 2 : Nat))) := fun w' h =>
    ⟨h.cell 0 (.pointer (some ⟨g, 0, none⟩)) rfl, by have := h.cell 1 (.int .i64 (Lg.start n 0 : Nat)) rfl; rw [start_zero] at this; exact this, h.cell 2 (.int .i64 (n / 2 : Nat)) rfl, h.cell 3 (.pointer (some ⟨g, 0, none⟩)) rfl, by have := h.cell 4 (.int .i64 (Lg.start n 1 : Nat)) rfl; rw [start_one] at this; exact this, h.cell 5 (.int .i64 (n / 2 : Nat)) rfl⟩
  have HG1 : Hid (Calls Try.prog 58 #[.agg #[.pointer (some ⟨g, 0, none⟩), .int .i64 (0 : Nat), .int .i64 (n / 2 : Nat)]] W.drew fun e w' => e = .returned (.int .i64 (Lg.genOf d.b 0 : Nat)) ∧ (w'.cell? ⟨lb, 0, none⟩ = some (.pointer (some ⟨g, 0, none⟩)) ∧ w'.cell? ⟨lb, 1, none⟩ = some (.int .i64 (0 : Nat)) ∧ w'.cell? ⟨lb, 2, none⟩ = some (.int .i64 (n / 2 : Nat)) ∧ w'.cell? ⟨lb, 3, none⟩ = some (.pointer (some ⟨g, 0, none⟩)) ∧ w'.cell? ⟨lb, 4, none⟩ = some (.int .i64 (n / 2 : Nat)) ∧ w'.cell? ⟨lb, 5, none⟩ = some (.int .i64 (n / 2 : Nat))) ∧ Hid (RawAt w' lb g s n 0 0 d ∧ Below W.heap.size W w')) := by
    refine (generation_any g s n 0 (n / 2) d W.drew h.disk.drew (by omega)).mono fun _ w' ⟨e1, e2⟩ => ?_
    have e2' : Below W.heap.size W w' := ⟨e2.os, e2.tape, e2.output, e2.size, e2.block⟩
    exact ⟨e1, SC w' (h.below e2'), h.below e2', e2'⟩
  have HG2 : Hid (∀ w1, Hid (RawAt w1 lb g s n 0 0 d ∧ Below W.heap.size W w1) → Calls Try.prog 58 #[.agg #[.pointer (some ⟨g, 0, none⟩), .int .i64 (n / 2 : Nat), .int .i64 (n / 2 : Nat)]] w1 fun e w' => e = .returned (.int .i64 (Lg.genOf d.b (n / 2) : Nat)) ∧ (w'.cell? ⟨lb, 0, none⟩ = some (.pointer (some ⟨g, 0, none⟩)) ∧ w'.cell? ⟨lb, 1, none⟩ = some (.int .i64 (0 : Nat)) ∧ w'.cell? ⟨lb, 2, none⟩ = some (.int .i64 (n / 2 : Nat)) ∧ w'.cell? ⟨lb, 3, none⟩ = some (.pointer (some ⟨g, 0, none⟩)) ∧ w'.cell? ⟨lb, 4, none⟩ = some (.int .i64 (n / 2 : Nat)) ∧ w'.cell? ⟨lb, 5, none⟩ = some (.int .i64 (n / 2 : Nat))) ∧ Hid (RawAt w' lb g s n 0 0 d ∧ Below W.heap.size W w')) := fun w1 hh => by
    refine (generation_any g s n (n / 2) (n / 2) d w1 hh.out.1.disk (by omega)).mono fun _ w' ⟨e1, e2⟩ => ?_
    exact ⟨e1, SC w' (hh.out.1.below e2), hh.out.1.below e2, hh.out.2.trans (e2.mono hh.out.2.size)⟩
  have hg1 := Lg.genOf_le d.b 0
  have hg2 := Lg.genOf_le d.b (n / 2)
  clear SC
  have HCH : Hid (chooseQ n d = if Lg.genOf d.b 0 < Lg.genOf d.b (n / 2) then (d, 0, Lg.genOf d.b (n / 2), 1) else if 0 < Lg.genOf d.b 0 then (d, 0, Lg.genOf d.b 0, 0) else if isNewB d.b 0 (n / 2) = false then (d, 8, 0, 0) else ((Lg.wr n d 0 (Lg.head 1)).1, (Lg.wr n d 0 (Lg.head 1)).2, 1, 0)) := rfl
  have HLBW : Hid (∀ w', Below W.heap.size W w' → Kept (Lb lb g s) W w') := fun w' hb => Kept.of_below hb
  have hh2 : n / 2 ≤ 2048 := by omega
  clear h
  generalize hG1 : Lg.genOf d.b 0 = g1 at *
  generalize hG2 : Lg.genOf d.b (n / 2) = g2 at *
  clear hG1 hG2
  generalize chooseQ n d = Q at *
  go_enter Try.func31, Try.ntmps31
  go_wp2_with fail
  go_region_held3 (fun w' => w'.cell? ⟨lb, 0, none⟩ = some (.pointer (some ⟨g, 0, none⟩)) ∧ w'.cell? ⟨lb, 1, none⟩ = some (.int .i64 (0 : Nat)) ∧ w'.cell? ⟨lb, 2, none⟩ = some (.int .i64 (n / 2 : Nat)) ∧ w'.cell? ⟨lb, 3, none⟩ = some (.pointer (some ⟨g, 0, none⟩)) ∧ w'.cell? ⟨lb, 4, none⟩ = some (.int .i64 (n / 2 : Nat)) ∧ w'.cell? ⟨lb, 5, none⟩ = some (.int .i64 (n / 2 : Nat)))
    (first | exact hs3 | exact hs2 | exact ⟨c0, c1, c2, c3, c4, c5⟩)
    (first
      | (go_at_call 58; refine (HG2.out _ hr2).mono ?_; rintro e w3 ⟨rfl, hs3, hr3⟩)
      | (go_at_call 58; refine HG1.out.mono ?_; rintro e w2 ⟨rfl, hs2, hr2⟩))
  clear hs2 hs3 hr2 HG1 HG2 c0 c1 c2 c3 c4 c5
  have y6 : w3.cell? ⟨lb, 6, none⟩ = some (.int .i64 ((0 : Nat) : Int)) := hr3.out.1.cell 6 (.int .i64 ((0 : Nat) : Int)) rfl
  have f6 := hr3.out.1.fz 6
  have HKL : Hid (∀ w', Kept (fun i => i = lb) w3 w' → Kept (Lb lb g s) W w') := fun w' hk => (HLBW.out w3 hr3.out.2).trans (hk.wide (fun i _ e => .inr e))
  by_cases hlt : g1 < g2
  · have HQ : Hid (Q = (d, 0, g2, 1)) := by have := HCH.out; rw [if_pos hlt] at this; exact this
    have hmx : max (g1 : Int) (g2 : Int) = (g2 : Int) := by omega
    have d1 : decide ((g1 : Int) < (g2 : Int)) = true := decide_eq_true (by omega)
    have d2 : decide (g1 < g2) = true := decide_eq_true hlt
    have hlti : (g1 : Int) < (g2 : Int) := by omega
    have hngt : ¬ (g2 : Int) ≤ (g1 : Int) := by omega
    have HR4 : Hid (RawAt (w3.setCell ⟨lb, 6, none⟩ (.int .i64 (g2 : Int))) lb g s n 0 g2 d ∧ Kept (Lb lb g s) W (w3.setCell ⟨lb, 6, none⟩ (.int .i64 (g2 : Int)))) := ⟨hr3.out.1.gen g2, HKL.out _ ((Kept.refl (fun i => i = lb) w3).setCell (p := ⟨lb, 6, none⟩) (.inl rfl) _)⟩
    clear hr3 HKL HCH
    go_wp2_with fail
    clear y6 f6
    generalize w3.setCell ⟨lb, 6, none⟩ (.int .i64 (g2 : Int)) = w4 at *
    have z0 := HR4.out.1.cell 0 (.pointer (some ⟨g, 0, none⟩)) rfl
    have z1 : w4.cell? ⟨lb, 1, none⟩ = some (.int .i64 (Lg.start n 0 : Nat)) := HR4.out.1.cell 1 (.int .i64 (Lg.start n 0 : Nat)) rfl
    have z2 : w4.cell? ⟨lb, 2, none⟩ = some (.int .i64 (n / 2 : Nat)) := HR4.out.1.cell 2 (.int .i64 (n / 2 : Nat)) rfl
    have z3 := HR4.out.1.cell 3 (.pointer (some ⟨g, 0, none⟩)) rfl
    have z4 : w4.cell? ⟨lb, 4, none⟩ = some (.int .i64 (Lg.start n 1 : Nat)) := HR4.out.1.cell 4 (.int .i64 (Lg.start n 1 : Nat)) rfl
    have z5 : w4.cell? ⟨lb, 5, none⟩ = some (.int .i64 (n / 2 : Nat)) := HR4.out.1.cell 5 (.int .i64 (n / 2 : Nat)) rfl
    have f0 := HR4.out.1.fz 0
    have f1 := HR4.out.1.fz 1
    have f2 := HR4.out.1.fz 2
    have f3 := HR4.out.1.fz 3
    have f4 := HR4.out.1.fz 4
    have f5 := HR4.out.1.fz 5
    obtain ⟨hsw1, hsw2⟩ := HR4.out.1.swap
    have HSW : Hid (RawAt (swapW w4 lb g (Lg.start n 1 : Nat) (Lg.start n 0 : Nat) ((n : Int) / 2)).drew lb g s n 1 g2 d ∧ Kept (Lb lb g s) W (swapW w4 lb g (Lg.start n 1 : Nat) (Lg.start n 0 : Nat) ((n : Int) / 2)).drew) := ⟨hsw1.drew, (HR4.out.2.trans (hsw2.wide (fun i _ e => .inr e))).drew⟩
    clear hsw1 hsw2 HR4
    generalize Lg.start n 1 = sa at *
    generalize Lg.start n 0 = sb at *
    go_region
    unfold swapW at HSW
    generalize hw4 : ((((((w4.setCell ⟨lb, 0, none⟩ (.pointer (some ⟨g, 0, none⟩))).setCell ⟨lb, 1, none⟩ (.int .i64 (sa : Int))).setCell ⟨lb, 2, none⟩ (.int .i64 ((n : Int) / 2))).setCell ⟨lb, 3, none⟩ (.pointer (some ⟨g, 0, none⟩))).setCell ⟨lb, 4, none⟩ (.int .i64 (sb : Int))).setCell ⟨lb, 5, none⟩ (.int .i64 ((n : Int) / 2))).drew = w5 at *
    clear hw4 z0 z1 z2 z3 z4 z5 f0 f1 f2 f3 f4 f5
    have y6 : w5.cell? ⟨lb, 6, none⟩ = some (.int .i64 (g2 : Int)) := HSW.out.1.cell 6 (.int .i64 (g2 : Int)) rfl
    have d3 : decide ((0 : Int) < (g2 : Int)) = true := decide_eq_true (by omega)
    have d4 : decide (0 < g2) = true := decide_eq_true (by omega)
    go_wp2
    go_ret
    exact ⟨by rw [HQ.out]; rfl, by rw [HQ.out]; exact HSW.out.1, HSW.out.2⟩
  have hmx : max (g1 : Int) (g2 : Int) = (g1 : Int) := by omega
  have d1 : decide ((g1 : Int) < (g2 : Int)) = false := decide_eq_false (by omega)
  have d2 : decide (g1 < g2) = false := decide_eq_false hlt
  have hlti : ¬ (g1 : Int) < (g2 : Int) := by omega
  have HR4 : Hid (RawAt (w3.setCell ⟨lb, 6, none⟩ (.int .i64 (g1 : Int))) lb g s n 0 g1 d ∧ Kept (Lb lb g s) W (w3.setCell ⟨lb, 6, none⟩ (.int .i64 (g1 : Int)))) := ⟨hr3.out.1.gen g1, HKL.out _ ((Kept.refl (fun i => i = lb) w3).setCell (p := ⟨lb, 6, none⟩) (.inl rfl) _)⟩
  have t6 : (w3.setCell ⟨lb, 6, none⟩ (.int .i64 (g1 : Int))).cell? ⟨lb, 6, none⟩ = some (.int .i64 (g1 : Int)) := HR4.out.1.cell 6 (.int .i64 (g1 : Int)) rfl
  by_cases hpos : 0 < g1
  · have HQ : Hid (Q = (d, 0, g1, 0)) := by have := HCH.out; rw [if_neg hlt, if_pos hpos] at this; exact this
    have d3 : decide ((0 : Int) < (g1 : Int)) = true := decide_eq_true (by omega)
    have d4 : decide (0 < g1) = true := decide_eq_true (by omega)
    clear hr3 HKL HCH
    go_wp2
    go_ret
    exact ⟨by rw [HQ.out]; rfl, by rw [HQ.out]; exact HR4.out.1, HR4.out.2⟩
  have HG20 : Hid (g2 = 0) := by unfold Hid; omega
  obtain rfl : g1 = 0 := by omega
  have HR5 : Hid (RawAt (w3.setCell ⟨lb, 6, none⟩ (.int .i64 0)) lb g s n 0 0 d ∧ Kept (Lb lb g s) W (w3.setCell ⟨lb, 6, none⟩ (.int .i64 0))) := HR4.out
  have t6' : (w3.setCell ⟨lb, 6, none⟩ (.int .i64 0)).cell? ⟨lb, 6, none⟩ = some (.int .i64 0) := t6
  have z0 := HR5.out.1.cell 0 (.pointer (some ⟨g, 0, none⟩)) rfl
  have z1 : (w3.setCell ⟨lb, 6, none⟩ (.int .i64 0)).cell? ⟨lb, 1, none⟩ = some (.int .i64 0) := by have := HR5.out.1.cell 1 (.int .i64 (Lg.start n 0 : Nat)) rfl; rw [start_zero] at this; exact this
  have z2 : (w3.setCell ⟨lb, 6, none⟩ (.int .i64 0)).cell? ⟨lb, 2, none⟩ = some (.int .i64 (n / 2 : Nat)) := HR5.out.1.cell 2 (.int .i64 (n / 2 : Nat)) rfl
  have HIN : Hid (Calls Try.prog 59 #[.agg #[.pointer (some ⟨g, 0, none⟩), .int .i64 0, .int .i64 (n / 2 : Nat)]] (w3.setCell ⟨lb, 6, none⟩ (.int .i64 0)) fun e w' => e = .returned (.bool (isNewB d.b 0 (n / 2))) ∧ Hid (RawAt w' lb g s n 0 0 d ∧ Kept (Lb lb g s) W w')) :=
    (isNew_any g s n 0 (n / 2) d _ HR5.out.1.disk (by omega) (by omega)).mono fun _ w' ⟨e1, e2⟩ => ⟨e1, HR5.out.1.below e2, HR5.out.2.trans (Kept.of_below e2)⟩
  have HCH2 := HCH.out
  rw [if_neg hlt, if_neg hpos] at HCH2
  have HCH2 := Lib.hid HCH2
  clear HCH hr3 HKL HR4 t6 HR5 hmx d1 d2 hlti hpos hlt
  have hmx : max (0 : Int) (g2 : Int) = 0 := by have := HG20.out; omega
  have d2 : decide ((0 : Int) < (g2 : Int)) = false := decide_eq_false (by have := HG20.out; omega)
  have d3 : decide (0 < g2) = false := decide_eq_false (by have := HG20.out; omega)
  obtain rfl : g2 = 0 := by have := HG20.out; omega
  generalize hwr : Lg.wr n d 0 (Lg.head 1) = q at *
  have HWR := Lib.hid hwr
  clear hwr
  cases hb : isNewB d.b 0 (n / 2) with
  | false =>
    have HQ : Hid (Q = (d, 8, 0, 0)) := by have := HCH2.out; rw [if_pos hb] at this; exact this
    rw [hb] at HIN
    clear HCH2 hb
    go_wp2_with fail
    refine HIN.out.mono ?_
    rintro e w5 ⟨rfl, hr5⟩
    go_wp2
    go_ret
    exact ⟨by rw [HQ.out]; rfl, by rw [HQ.out]; exact hr5.out.1, hr5.out.2⟩
  | true =>
    have HQ : Hid (Q = (q.1, q.2, 1, 0)) := by have := HCH2.out; rw [if_neg (by rw [hb]; decide)] at this; exact this
    rw [hb] at HIN
    clear HCH2 hb
    go_wp2_with fail
    refine HIN.out.mono ?_
    rintro e w5 ⟨rfl, hr5⟩
    clear HIN z0 z1 z2 t6' y6 f6
    have y6 : w5.cell? ⟨lb, 6, none⟩ = some (.int .i64 ((0 : Nat) : Int)) := hr5.out.1.cell 6 (.int .i64 ((0 : Nat) : Int)) rfl
    have f6 := hr5.out.1.fz 6
    have HR6 : Hid (RawAt (w5.setCell ⟨lb, 6, none⟩ (.int .i64 1)) lb g s n 0 1 d ∧ Kept (Lb lb g s) W (w5.setCell ⟨lb, 6, none⟩ (.int .i64 1))) := ⟨hr5.out.1.gen 1, hr5.out.2.trans (((Kept.refl (fun i => i = lb) w5).setCell (p := ⟨lb, 6, none⟩) (.inl rfl) _).wide (fun i _ e => .inr e))⟩
    go_wp2_with fail
    clear y6 f6 hr5
    generalize w5.setCell ⟨lb, 6, none⟩ (.int .i64 1) = w6 at *
    have z0 := HR6.out.1.cell 0 (.pointer (some ⟨g, 0, none⟩)) rfl
    have z1 : w6.cell? ⟨lb, 1, none⟩ = some (.int .i64 0) := by have := HR6.out.1.cell 1 (.int .i64 (Lg.start n 0 : Nat)) rfl; rw [start_zero] at this; exact this
    have z2 : w6.cell? ⟨lb, 2, none⟩ = some (.int .i64 (n / 2 : Nat)) := HR6.out.1.cell 2 (.int .i64 (n / 2 : Nat)) rfl
    have HHO : Hid (Calls Try.prog 61 #[.int .i64 1] w6.drew fun e w' => e = .returned (.slice (some ⟨w6.heap.size, 0, none⟩) 32 32) ∧ (w'.cell? ⟨lb, 0, none⟩ = some (.pointer (some ⟨g, 0, none⟩)) ∧ w'.cell? ⟨lb, 1, none⟩ = some (.int .i64 0) ∧ w'.cell? ⟨lb, 2, none⟩ = some (.int .i64 (n / 2 : Nat))) ∧ Hid (Blk w' w6.heap.size (Lg.head 1) ∧ RawAt w' lb g s n 0 1 d ∧ Kept (Lb lb g s) W w' ∧ w6.heap.size < w'.heap.size)) := by
      refine (headOf_any 1 w6.drew (by omega)).mono fun _ w' ⟨e1, e2, e3⟩ => ?_
      have e3' : Below w6.heap.size w6 w' := ⟨e3.os, e3.tape, e3.output, e3.size, e3.block⟩
      have hx := HR6.out.1.below e3'
      exact ⟨e1, ⟨hx.cell 0 (.pointer (some ⟨g, 0, none⟩)) rfl, by have := hx.cell 1 (.int .i64 (Lg.start n 0 : Nat)) rfl; rw [start_zero] at this; exact this, hx.cell 2 (.int .i64 (n / 2 : Nat)) rfl⟩, e2, hx, HR6.out.2.trans (Kept.of_below e3'), e2.lt⟩
    have HHW : Hid (∀ w7, Hid (Blk w7 w6.heap.size (Lg.head 1) ∧ RawAt w7 lb g s n 0 1 d ∧ Kept (Lb lb g s) W w7 ∧ w6.heap.size < w7.heap.size) → Calls Try.prog 60 #[.agg #[.pointer (some ⟨g, 0, none⟩), .int .i64 0, .int .i64 (n / 2 : Nat)], .int .i64 0, .slice (some ⟨w6.heap.size, 0, none⟩) 32 32] w7 fun e w' => e = .returned (.int .i64 q.2) ∧ (w'.cell? ⟨lb, 0, none⟩ = some (.pointer (some ⟨g, 0, none⟩)) ∧ w'.cell? ⟨lb, 1, none⟩ = some (.int .i64 0) ∧ w'.cell? ⟨lb, 2, none⟩ = some (.int .i64 (n / 2 : Nat))) ∧ Hid (RawAt w' lb g s n 0 1 q.1 ∧ Kept (Lb lb g s) W w')) := fun w7 hh => by
      have hng : ¬ Two g s w6.heap.size := by
        have h1 := HR6.out.1.disk.ltg
        have h2 := HR6.out.1.disk.lts
        rintro (e | e) <;> omega
      have := hwrite_any g s n 0 (n / 2) 0 d (some ⟨w6.heap.size, 0, none⟩) 32 32 (Lg.head 1) w7 hh.out.2.1.disk (by omega) (by omega) (Lg.head_len 1) (by omega) (hh.out.1.bytes hng)
      rw [HWR.out] at this
      refine this.mono fun _ w' ⟨e1, e2, e3⟩ => ?_
      have hx := hh.out.2.1.turn e2 e3
      exact ⟨e1, ⟨hx.cell 0 (.pointer (some ⟨g, 0, none⟩)) rfl, by have := hx.cell 1 (.int .i64 (Lg.start n 0 : Nat)) rfl; rw [start_zero] at this; exact this, hx.cell 2 (.int .i64 (n / 2 : Nat)) rfl⟩, hx, hh.out.2.2.1.trans (e3.wide (fun i _ e => .inl e))⟩
    go_region_held3 (fun w' => w'.cell? ⟨lb, 0, none⟩ = some (.pointer (some ⟨g, 0, none⟩)) ∧ w'.cell? ⟨lb, 1, none⟩ = some (.int .i64 0) ∧ w'.cell? ⟨lb, 2, none⟩ = some (.int .i64 (n / 2 : Nat)))
      (first | exact hs8 | exact hs7 | exact ⟨z0, z1, z2⟩)
      (first
        | (go_at_call 60; refine (HHW.out _ hr7).mono ?_; rintro e w8 ⟨rfl, hs8, hr8⟩)
        | (go_at_call 61; refine HHO.out.mono ?_; rintro e w7 ⟨rfl, hs7, hr7⟩))
    go_wp2
    go_ret
    exact ⟨by rw [HQ.out]; rfl, by rw [HQ.out]; exact hr8.out.1, hr8.out.2⟩

end Go.Proofs.Ytoocifoglhhnmaa
