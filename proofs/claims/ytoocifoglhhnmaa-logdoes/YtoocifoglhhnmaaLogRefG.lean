/- The document's log: Open. -/
import Derived.Test.YtoocifoglhhnmaaLogRefF
namespace Go.Proofs.Ytoocifoglhhnmaa
open Go.RowKit
set_option linter.unusedVariables false

def rcells (g : Nat) (half gen : Int) (v : Value) (fin : Int) (bro : Bool) : Array Value := #[.pointer (some ⟨g, 0, none⟩), .int .i64 half, .int .i64 gen, v, .int .i64 fin, .bool bro]
/-- the struct of the document's log -/
def RTop (W : World) (lb g : Nat) (half gen : Int) (v : Value) (fin : Int) (bro : Bool) : Prop := W.heap[lb]? = some (.cells (rcells g half gen v fin bro) 75 (0, 0))
theorem RTop.lt {W : World} {lb g : Nat} {half gen fin : Int} {v : Value} {bro : Bool} (h : RTop W lb g half gen v fin bro) : lb < W.heap.size := (Array.getElem?_eq_some_iff.1 h).1
theorem RTop.keep {F : Nat → Prop} {W W' : World} {lb g : Nat} {half gen fin : Int} {v : Value} {bro : Bool} (h : RTop W lb g half gen v fin bro) (hk : Kept F W W') (hn : ¬ F lb) : RTop W' lb g half gen v fin bro := (hk.block lb h.lt hn).trans h
theorem RTop.below {W W' : World} {lb g : Nat} {half gen fin : Int} {v : Value} {bro : Bool} (h : RTop W lb g half gen v fin bro) (hb : Below W.heap.size W W') : RTop W' lb g half gen v fin bro := h.keep (F := No) (Kept.of_below hb) id
theorem RTop.cell {W : World} {lb g : Nat} {half gen fin : Int} {v : Value} {bro : Bool} (h : RTop W lb g half gen v fin bro) (k : Nat) (u : Value) (hu : (rcells g half gen v fin bro)[k]? = some u) : W.cell? ⟨lb, k, none⟩ = some u := by rw [cell_of_row W lb k _ _ _ h]; exact hu
theorem RTop.fz {W : World} {lb g : Nat} {half gen fin : Int} {v : Value} {bro : Bool} (h : RTop W lb g half gen v fin bro) (k : Nat) : W.frozen? ⟨lb, k, none⟩ = false := by unfold World.frozen?; rw [show W.heap[lb]? = _ from h]; simp
theorem RTop.set {W : World} {lb g : Nat} {half gen fin : Int} {v : Value} {bro : Bool} (h : RTop W lb g half gen v fin bro) (k : Nat) (u : Value) {half' gen' fin' : Int} {v' : Value} {bro' : Bool} (he : (rcells g half gen v fin bro).setIfInBounds k u = rcells g half' gen' v' fin' bro') : RTop (W.setCell ⟨lb, k, none⟩ u) lb g half' gen' v' fin' bro' := by
  unfold RTop
  rw [setCell_eq_setRow W lb k _ _ _ u h, ← he]
  exact setRow_heap W lb _ _ _ _ h
theorem RTop.ng {W : World} {lb g s n : Nat} {half gen fin : Int} {v : Value} {bro : Bool} {d : Dk.D} (h : RTop W lb g half gen v fin bro) (hd : RDiskAt W g s n d) : ¬ Two g s lb := by
  rintro (e | e)
  · exact blocks_ne h hd.top (by decide) e
  · exact blocks_ne h hd.row (by decide) e

/-- the document's log and its disk -/
structure RLog (W : World) (G : Nat → Prop) (lb g s n : Nat) (x : Lg.L) (d : Dk.D) : Prop where
  top : ∃ A c, RTop W lb g x.half x.gen (.slice A x.recs.length c) x.fin x.bro ∧ RowIn (fun i => Lb lb g s i ∨ G i) W A x.recs
  disk : RDiskAt W g s n d
  good : Lg.LGood n x
def ROpen (w : World) (G : Nat → Prop) (g s n : Nat) (q : Dk.D × Int × Lg.L) (e : Ending) (w' : World) : Prop :=
  (q.2.1 = 0 ∧ ∃ lb, e = .returned (.tuple #[.pointer (some ⟨lb, 0, none⟩), .int .i64 0]) ∧ RLog w' G lb g s n q.2.2 q.1 ∧ w.heap.size ≤ lb ∧ Kept (Two g s) w w') ∨ (q.2.1 ≠ 0 ∧ e = .returned (.tuple #[.pointer none, .int .i64 q.2.1]) ∧ RDiskAt w' g s n q.1 ∧ Kept (Two g s) w w')

theorem good_scan {n z hf gg : Nat} {d : Dk.D} (hg : Dk.Good n d) (hz : n / 2 = z) (hh : hf ≤ 1) (hz1 : 1 ≤ z) (g0 : 1 ≤ gg) (g1 : gg ≤ 2147483647) {rs : List Dk.Bs} {fin : Nat} (h1 : (Lg.scan d.b (Lg.start n hf) z gg z 1 0).1 = rs) (h2 : (Lg.scan d.b (Lg.start n hf) z gg z 1 0).2 = fin) : Lg.LGood n ⟨hf, gg, rs, fin, false⟩ := by
  have hs := Lg.start_le (n := n) hh
  rw [hz] at hs
  obtain ⟨e1, e2, e3⟩ := Lg.scan_end (b := d.b) (g := gg) hg.len hs z 1 0 hz1
  rw [h1, h2] at *
  exact ⟨hh, g0, g1, by rw [hz]; exact e1, e2, e3⟩

theorem new_drop (b : Dk.Bs) (n : Nat) (hlen : b.length = 32 * n) : ∀ z, 1 ≤ z → z ≤ n → ((∀ a, 1 ≤ a → a < z → Dk.sec b (0 + a) = Lg.zeros 32) ↔ (Lg.cut b 0 z).drop 32 = Lg.zeros (32 * z - 32)) := by
  intro z hz1 hzn
  induction z with
  | zero => omega
  | succ k ih =>
    by_cases hk : k = 0
    · subst hk
      have hl := Lg.cut_len (b := b) (a := 0) (k := 0 + 1) hlen (by omega)
      refine ⟨fun _ => ?_, fun _ a h1 h2 => by omega⟩
      rw [List.drop_eq_nil_of_le (by rw [hl]; omega)]
      rfl
    have hl := Lg.cut_len (b := b) (a := 0) (k := k) hlen (by omega)
    rw [Lg.cut_succ, List.drop_append_of_le_length (by rw [hl]; omega)]
    have hsl : (Dk.sec b (0 + k)).length = 32 := Dk.sec_len hlen (by omega)
    have hdl : ((Lg.cut b 0 k).drop 32).length = 32 * k - 32 := by rw [List.length_drop, hl]
    have hzz : Lg.zeros (32 * (k + 1) - 32) = Lg.zeros (32 * k - 32) ++ Lg.zeros 32 := by unfold Lg.zeros; rw [List.replicate_append_replicate, show 32 * k - 32 + 32 = 32 * (k + 1) - 32 by omega]
    rw [hzz]
    constructor
    · intro h
      rw [(ih (by omega) (by omega)).1 (fun a h1 h2 => h a h1 (by omega)), h k (by omega) (by omega)]
    · intro h a h1 h2
      obtain ⟨e1, e2⟩ := List.append_inj h (by rw [hdl, Lg.zeros_len])
      by_cases ha : a = k
      · subst ha; exact e2
      · exact (ih (by omega) (by omega)).2 e1 a h1 (by omega)
theorem new_iff (b : Dk.Bs) (n z : Nat) (hlen : b.length = 32 * n) (hz1 : 1 ≤ z) (hzn : z ≤ n) : Lg.IsNew b 0 z ↔ ((Lg.cut b 0 z).drop 32 = Lg.zeros (32 * z - 32) ∧ (Dk.sec b 0).getD 31 0 = 0) := by
  unfold Lg.IsNew
  rw [new_drop b n hlen z hz1 hzn]

set_option maxHeartbeats 400000 in
theorem ropen_small (g s n : Nat) (d : Dk.D) (w : World) (h : RDiskAt w g s n d) (hn : n < 4) :
    Calls Try.prog 11 #[.pointer (some ⟨g, 0, none⟩)] w fun e w' => e = .returned (.tuple #[.pointer none, .int .i64 1]) ∧ w = w' := by
  have c0 := h.c0
  obtain ⟨L, hL⟩ : ∃ L, 32 * n = L := ⟨_, rfl⟩
  rw [hL] at c0
  have hd1 : (L : Int) / 32 = (n : Int) := by omega
  have d1 : decide ((n : Int) < 4) = true := decide_eq_true (by omega)
  have h4 : L ≤ 200000 := by omega
  clear h hL
  go_enter Try.func11, Try.ntmps11
  go_wp2
  go_ret2
  exact ⟨rfl, rfl⟩

set_option maxHeartbeats 2000000 in
set_option maxRecDepth 100000 in
theorem ropen_found (G : Nat → Prop) (g s n z : Nat) (d : Dk.D) (w : World) (hG : ∀ i, G i → i < w.heap.size) (h : RDiskAt w g s n d) (hz : n / 2 = z) (hn : 4 ≤ n) (hw : d.writes ≤ 800000) (hfound : Lg.genOf d.b 0 < Lg.genOf d.b z ∨ 0 < Lg.genOf d.b 0) (q : Dk.D × Int × Lg.L) (hq : openQ n d = q) :
    Calls Try.prog 11 #[.pointer (some ⟨g, 0, none⟩)] w fun e w' => ROpen w G g s n q e w' := by
  have HG := Lib.hid hG
  clear hG
  have hn1 := h.n1
  have c0 := h.c0
  have HZ := Lib.hid hz
  have HD := Lib.hid h
  obtain ⟨L, hL⟩ : ∃ L, 32 * n = L := ⟨_, rfl⟩
  rw [hL] at c0
  have hd1 : (L : Int) / 32 = (n : Int) := by omega
  have d1 : decide ((n : Int) < 4) = false := decide_eq_false (by omega)
  have h4 : L ≤ 200000 := by omega
  have hz2 : 2 ≤ z := by omega
  have hz4 : z ≤ 2048 := by omega
  have hzn : z + z ≤ n := by omega
  obtain ⟨a, ha⟩ : ∃ a, Lg.genOf d.b 0 = a := ⟨_, rfl⟩
  obtain ⟨b, hb⟩ : ∃ b, Lg.genOf d.b z = b := ⟨_, rfl⟩
  have hal : a ≤ 2147483647 := by rw [← ha]; exact Lg.genOf_le _ _
  have hbl : b ≤ 2147483647 := by rw [← hb]; exact Lg.genOf_le _ _
  have HG0 : Hid (Calls Try.prog 34 #[.pointer (some ⟨g, 0, none⟩), .int .i64 0] w fun e w' => e = .returned (.int .i64 (a : Nat)) ∧ Below w.heap.size w w') := by
    have := rgen_any g s n z 0 d w h hz (by omega)
    rw [start_zero, ha] at this
    exact this
  have HG1 : Hid (∀ w1, Below w.heap.size w w1 → Calls Try.prog 34 #[.pointer (some ⟨g, 0, none⟩), .int .i64 1] w1 fun e w' => e = .returned (.int .i64 (b : Nat)) ∧ Below w.heap.size w w') := fun w1 hb1 => by
    have := rgen_any g s n z 1 d w1 (h.below hb1) hz (by omega)
    rw [start_one, hz, hb] at this
    exact this.mono fun _ _ ⟨e1, e2⟩ => ⟨e1, hb1.trans (e2.mono hb1.size)⟩
  have HQ : Hid (openEnd n (if a < b then (d, 0, b, 1) else if 0 < a then (d, 0, a, 0) else if isNewB d.b 0 z = false then (d, 8, 0, 0) else ((Lg.wr n d 0 (Lg.head 1)).1, (Lg.wr n d 0 (Lg.head 1)).2, 1, 0)) = q) := by
    unfold Hid
    rw [← hq]
    unfold openQ chooseQ
    rw [hz, ha, hb]
  rw [ha, hb] at hfound
  clear h hz hL ha hb hq hn
  by_cases hab : a < b
  · clear hfound
    have hmx : max (a : Int) (b : Int) = (b : Int) := by omega
    have d2 : decide ((a : Int) < (b : Int)) = true := decide_eq_true (by omega)
    have d3 : decide (a < b) = true := decide_eq_true hab
    have d4 : ((b : Int) == 0) = false := by rw [beq_eq_false_iff_ne]; omega
    have HQ' : Hid (openEnd n (d, 0, b, 1) = q) := by have := HQ.out; rw [if_pos hab] at this; exact this
    clear HQ
    go_enter Try.func11, Try.ntmps11
    go_wp2_with fail
    refine HG0.out.mono ?_
    rintro e w1 ⟨rfl, hb1⟩
    have HGX := Lib.hid (HG1.out w1 hb1)
    clear hb1 HG0 HG1
    go_wp2_with fail
    refine HGX.out.mono ?_
    rintro e w2 ⟨rfl, hb2⟩
    have HB2 := Lib.hid hb2
    clear hb2 HGX
    have HT1 : Hid (RTop (w2.alloc (.cells (rcells g 1 b (.slice none 0 0) 0 false) 75)) w2.heap.size g 1 b (.slice none 0 0) 0 false) := heap_alloc_new w2 _
    have HK1 : Hid (Kept (Two g s) w (w2.alloc (.cells (rcells g 1 b (.slice none 0 0) 0 false) 75))) := (Kept.of_below HB2.out).alloc _
    have HD1 : Hid (RDiskAt (w2.alloc (.cells (rcells g 1 b (.slice none 0 0) 0 false) 75)) g s n d) := HD.out.keep (F := No) ((Kept.of_below HB2.out).alloc _) id id
    have HLB : Hid (w.heap.size ≤ w2.heap.size) := HB2.out.size
    unfold rcells at HT1 HK1 HD1
    go_wp2_with fail
    generalize w2.alloc (.cells #[.pointer (some ⟨g, 0, none⟩), .int .i64 1, .int .i64 b, .slice none 0 0, .int .i64 0, .bool false] 75) = W1 at *
    generalize w2.heap.size = lb at *

    have HD1' := Lib.hid (HD1.out.keep (F := No) (Kept.refl No _).drew id id)
    obtain ⟨rs, hrs⟩ : ∃ rs, (Lg.scan d.b (Lg.start n 1) z b z 1 0).1 = rs := ⟨_, rfl⟩
    obtain ⟨fin, hfin⟩ : ∃ fin, (Lg.scan d.b (Lg.start n 1) z b z 1 0).2 = fin := ⟨_, rfl⟩
    have HGOOD := Lib.hid (good_scan HD1.out.good HZ.out (by omega : 1 ≤ 1) (by omega) (by omega : 1 ≤ b) (by omega) hrs hfin)
    have hfz : fin ≤ z := by have := HGOOD.out.fin; rw [HZ.out] at this; exact this
    obtain ⟨k, hk⟩ : ∃ k, rs.length = k := ⟨_, rfl⟩
    have HK := Lib.hid hk
    have hlbs := HT1.out.lt
    have HHF : Hid (Calls Try.prog 35 #[.pointer (some ⟨g, 0, none⟩), .int .i64 1] W1.drew fun e w' => HalfR g s n d 1 z W1.drew e w') := rhalf_any g s n z 1 d W1.drew HD1'.out HZ.out (by omega)
    have HSC : Hid (∀ A' c', Hid (32 * z ≤ c' ∧ c' ≤ 200000) → Hid (∀ (F : Nat → Prop) (W : World), RDiskAt W g s n d → ¬ F s → BytesIn F W A' (Lg.cut d.b (Lg.start n 1) z)) → Calls Try.prog 39 #[.slice A' (32 * z) c', .int .i64 (b : Int)] W1.drew fun e w' => ∃ A4 c4, e = .returned (.tuple #[.slice A4 k c4, .int .i64 (fin : Nat)]) ∧ (w'.cell? ⟨lb, 1, none⟩ = some (.int .i64 1) ∧ w'.cell? ⟨lb, 2, none⟩ = some (.int .i64 (b : Int))) ∧ (w'.cell? ⟨lb, 3, none⟩ = some (.slice none 0 0) ∧ w'.frozen? ⟨lb, 3, none⟩ = false ∧ w'.cell? ⟨lb, 4, none⟩ = some (.int .i64 0) ∧ w'.frozen? ⟨lb, 4, none⟩ = false) ∧ Hid (∀ u, (w'.setCell ⟨lb, 3, none⟩ u).cell? ⟨lb, 1, none⟩ = some (.int .i64 1) ∧ (w'.setCell ⟨lb, 3, none⟩ u).cell? ⟨lb, 2, none⟩ = some (.int .i64 (b : Int))) ∧ Hid (∀ u (r : Int), ((w'.setCell ⟨lb, 3, none⟩ u).setCell ⟨lb, 4, none⟩ (.int .i64 r)).cell? ⟨lb, 1, none⟩ = some (.int .i64 1) ∧ ((w'.setCell ⟨lb, 3, none⟩ u).setCell ⟨lb, 4, none⟩ (.int .i64 r)).cell? ⟨lb, 2, none⟩ = some (.int .i64 (b : Int))) ∧ Hid (RowIn (fun i => i < W1.heap.size) w' A4 rs ∧ Below W1.heap.size W1 w')) := fun A' c' hc hby => by
      refine (rscan_any A' (32 * z) c' (Lg.start n 1) z b n d.b W1.drew HD1.out.good.len (by have := Lg.start_le (n := n) (half := 1) (by omega); rw [HZ.out] at this; exact this) rfl hc.out.1 hc.out.2 (by omega) (by omega) (hby.out No _ HD1'.out id) rs fin hrs hfin).mono fun e w' ⟨A4, c4, e1, e2, e3⟩ => ?_
      have hb' : Below W1.heap.size W1 w' := ⟨e3.os, e3.tape, e3.output, e3.size, e3.block⟩
      have ht := HT1.out.below hb'
      exact ⟨A4, c4, by rw [e1, HK.out], ⟨ht.cell 1 _ rfl, ht.cell 2 _ rfl⟩, ⟨ht.cell 3 _ rfl, ht.fz 3, ht.cell 4 _ rfl, ht.fz 4⟩, fun u => ⟨(ht.set 3 u (v' := u) rfl).cell 1 _ rfl, (ht.set 3 u (v' := u) rfl).cell 2 _ rfl⟩, fun u r => ⟨((ht.set 3 u (v' := u) rfl).set 4 (.int .i64 r) (fin' := r) rfl).cell 1 _ rfl, ((ht.set 3 u (v' := u) rfl).set 4 (.int .i64 r) (fin' := r) rfl).cell 2 _ rfl⟩, e2, hb'⟩
    have x1 := HT1.out.cell 1 (.int .i64 1) rfl
    have x2 := HT1.out.cell 2 (.int .i64 (b : Int)) rfl
    have HE : Hid (q = ((Lg.wipeS n (Lg.start n 1) fin z d).1, (Lg.wipeS n (Lg.start n 1) fin z d).2, ⟨1, b, rs, fin, false⟩)) := by
      unfold Hid
      rw [← HQ'.out]
      unfold openEnd
      rw [if_pos rfl]
      simp only
      rw [HZ.out, hrs, hfin]
    obtain ⟨y, hy⟩ : ∃ y, Lg.wipeS n (Lg.start n 1) fin z d = y := ⟨_, rfl⟩
    rw [hy] at HE
    have HWI : Hid (∀ W5, RDiskAt W5 g s n d → Calls Try.prog 40 #[.pointer (some ⟨g, 0, none⟩), .int .i64 1, .int .i64 (fin : Nat)] W5 fun e w' => e = .returned (.int .i64 y.2) ∧ RDiskAt w' g s n y.1 ∧ Kept (Two g s) W5 w') := fun W5 hd5 => by
      have := rwipe_any g s n z 1 fin d W5 hd5 HZ.out (by omega) hfz (by omega)
      rw [hy] at this
      exact this
    clear hrs hfin hk hy HQ' hz2 hzn HB2
    go_region_held3 (fun w' => w'.cell? ⟨lb, 1, none⟩ = some (.int .i64 1) ∧ w'.cell? ⟨lb, 2, none⟩ = some (.int .i64 (b : Int))) (first | exact HS6.out _ _ | exact HS5.out _ | exact hs4 | exact ⟨x1, x2⟩)
      (first
        | (go_at_call 39; refine (HSC.out A' c' HC' HBY').mono ?_; rintro e w4 ⟨A4, c4, rfl, hs4, ⟨y3, f3, y4, f4⟩, HS5, HS6, HR4⟩)
        | (go_at_call 35; refine HHF.out.mono ?_; rintro e w3 ⟨A', c', rfl, HC', HBY', rfl⟩))
    have HT5 : Hid (RTop ((w4.setCell ⟨lb, 3, none⟩ (.slice A4 k c4)).setCell ⟨lb, 4, none⟩ (.int .i64 (fin : Int))) lb g 1 (b : Int) (.slice A4 k c4) fin false) := ((HT1.out.below HR4.out.2).set 3 (.slice A4 k c4) rfl).set 4 (.int .i64 (fin : Int)) rfl
    have HK5 : Hid (Kept (Two g s) w ((w4.setCell ⟨lb, 3, none⟩ (.slice A4 k c4)).setCell ⟨lb, 4, none⟩ (.int .i64 (fin : Int)))) := ((HK1.out.trans (Kept.of_below HR4.out.2)).setCell (p := ⟨lb, 3, none⟩) (.inr HLB.out) _).setCell (p := ⟨lb, 4, none⟩) (.inr HLB.out) _
    have HNG := Lib.hid (HT1.out.ng HD1.out)
    have HD5 : Hid (RDiskAt ((w4.setCell ⟨lb, 3, none⟩ (.slice A4 k c4)).setCell ⟨lb, 4, none⟩ (.int .i64 (fin : Int))) g s n d) := (HD1.out.below HR4.out.2).keep (F := fun i => i = lb) (((Kept.refl (fun i => i = lb) w4).setCell (p := ⟨lb, 3, none⟩) (.inl rfl) _).setCell (p := ⟨lb, 4, none⟩) (.inl rfl) _) (fun e => HNG.out (.inl e.symm)) (fun e => HNG.out (.inr e.symm))
    have HRW5 : Hid (RowIn (fun i => Lb lb g s i ∨ G i) ((w4.setCell ⟨lb, 3, none⟩ (.slice A4 k c4)).setCell ⟨lb, 4, none⟩ (.int .i64 (fin : Int))) A4 rs) := by
      have h1 := HD1.out.ltg
      have h2 := HD1.out.lts
      have h3 := HT1.out.lt
      refine (HR4.out.1.less (fun i _ hi => ?_)).keep (((Kept.refl (fun i => Lb lb g s i ∨ G i) w4).setCell (p := ⟨lb, 3, none⟩) (.inl (.inl (.inr rfl))) _).setCell (p := ⟨lb, 4, none⟩) (.inl (.inl (.inr rfl))) _)
      rcases hi with ((e | e) | e) | e
      · omega
      · omega
      · omega
      · have h4 := HG.out i e
        have h5 := HK1.out.size
        omega
    clear HR4 HT1 HK1 HD1 HD1' HSC HHF HS5 HS6 y3 f3 y4 f4 hs4 x1 x2 hlbs HC' HBY'
    generalize (w4.setCell ⟨lb, 3, none⟩ (.slice A4 k c4)).setCell ⟨lb, 4, none⟩ (.int .i64 (fin : Int)) = W5 at *
    have x1 := HT5.out.cell 1 (.int .i64 1) rfl
    have x4 := HT5.out.cell 4 (.int .i64 (fin : Int)) rfl
    have HWX : Hid (Calls Try.prog 40 #[.pointer (some ⟨g, 0, none⟩), .int .i64 1, .int .i64 (fin : Int)] W5.drew fun e w' => e = .returned (.int .i64 y.2) ∧ (w'.cell? ⟨lb, 1, none⟩ = some (.int .i64 1) ∧ w'.cell? ⟨lb, 4, none⟩ = some (.int .i64 (fin : Int))) ∧ Hid (RDiskAt w' g s n y.1 ∧ Kept (Two g s) W5 w')) := by
      refine (HWI.out W5.drew (HD5.out.keep (F := No) (Kept.refl No _).drew id id)).mono fun e w' ⟨e1, e2, e3⟩ => ?_
      have hk : Kept (Two g s) W5 w' := ⟨e3.os, e3.tape, e3.output, e3.size, e3.block⟩
      exact ⟨e1, ⟨(HT5.out.keep hk HNG.out).cell 1 (.int .i64 1) rfl, (HT5.out.keep hk HNG.out).cell 4 (.int .i64 (fin : Int)) rfl⟩, e2, hk⟩
    clear HWI
    go_wp2_with fail
    go_region_held3 (fun w' => w'.cell? ⟨lb, 1, none⟩ = some (.int .i64 1) ∧ w'.cell? ⟨lb, 4, none⟩ = some (.int .i64 (fin : Int))) (first | exact hs6 | exact ⟨x1, x4⟩)
      (first | (go_at_call 40; refine HWX.out.mono ?_; rintro e w6 ⟨rfl, hs6, HR6⟩))
    have HD6 := Lib.hid HR6.out.1
    have HK6 := Lib.hid HR6.out.2
    clear HR6 hs6 HWX x1 x4
    by_cases hy0 : y.2 = 0
    · have d5 : (y.2 != 0) = false := by rw [hy0]; rfl
      go_wp2
      go_ret2
      refine .inl ⟨by rw [HE.out]; exact hy0, lb, rfl, ⟨⟨A4, c4, ?_, ?_⟩, by rw [HE.out]; exact HD6.out, by rw [HE.out]; exact HGOOD.out⟩, HLB.out, HK5.out.trans HK6.out⟩
      · rw [HE.out]
        simp only
        rw [HK.out]
        exact HT5.out.keep HK6.out HNG.out
      · rw [HE.out]
        exact HRW5.out.keep (HK6.out.wide (fun i _ e => .inl (.inl e)))
    · have d5 : (y.2 != 0) = true := bne_iff_ne.2 hy0
      go_wp2
      go_ret2
      exact .inr ⟨by rw [HE.out]; exact hy0, by rw [HE.out]; rfl, by rw [HE.out]; exact HD6.out, HK5.out.trans HK6.out⟩
  have hmx : max (a : Int) (b : Int) = (a : Int) := by omega
  have d2 : decide ((a : Int) < (b : Int)) = false := decide_eq_false (by omega)
  have d3 : decide (a < b) = false := decide_eq_false hab
  have ha0 : 0 < a := by omega
  clear hfound
  have d4 : ((a : Int) == 0) = false := by rw [beq_eq_false_iff_ne]; omega
  have HQ' : Hid (openEnd n (d, 0, a, 0) = q) := by have := HQ.out; rw [if_neg hab, if_pos ha0] at this; exact this
  clear HQ
  go_enter Try.func11, Try.ntmps11
  go_wp2_with fail
  refine HG0.out.mono ?_
  rintro e w1 ⟨rfl, hb1⟩
  have HGX := Lib.hid (HG1.out w1 hb1)
  clear hb1 HG0 HG1
  go_wp2_with fail
  refine HGX.out.mono ?_
  rintro e w2 ⟨rfl, hb2⟩
  have HB2 := Lib.hid hb2
  clear hb2 HGX
  have HT1 : Hid (RTop (w2.alloc (.cells (rcells g 0 a (.slice none 0 0) 0 false) 75)) w2.heap.size g 0 a (.slice none 0 0) 0 false) := heap_alloc_new w2 _
  have HK1 : Hid (Kept (Two g s) w (w2.alloc (.cells (rcells g 0 a (.slice none 0 0) 0 false) 75))) := (Kept.of_below HB2.out).alloc _
  have HD1 : Hid (RDiskAt (w2.alloc (.cells (rcells g 0 a (.slice none 0 0) 0 false) 75)) g s n d) := HD.out.keep (F := No) ((Kept.of_below HB2.out).alloc _) id id
  have HLB : Hid (w.heap.size ≤ w2.heap.size) := HB2.out.size
  unfold rcells at HT1 HK1 HD1
  go_wp2_with fail
  generalize w2.alloc (.cells #[.pointer (some ⟨g, 0, none⟩), .int .i64 0, .int .i64 a, .slice none 0 0, .int .i64 0, .bool false] 75) = W1 at *
  generalize w2.heap.size = lb at *

  have HD1' := Lib.hid (HD1.out.keep (F := No) (Kept.refl No _).drew id id)
  obtain ⟨rs, hrs⟩ : ∃ rs, (Lg.scan d.b (Lg.start n 0) z a z 1 0).1 = rs := ⟨_, rfl⟩
  obtain ⟨fin, hfin⟩ : ∃ fin, (Lg.scan d.b (Lg.start n 0) z a z 1 0).2 = fin := ⟨_, rfl⟩
  have HGOOD := Lib.hid (good_scan HD1.out.good HZ.out (by omega : 0 ≤ 1) (by omega) (by omega : 1 ≤ a) (by omega) hrs hfin)
  have hfz : fin ≤ z := by have := HGOOD.out.fin; rw [HZ.out] at this; exact this
  obtain ⟨k, hk⟩ : ∃ k, rs.length = k := ⟨_, rfl⟩
  have HK := Lib.hid hk
  have hlbs := HT1.out.lt
  have HHF : Hid (Calls Try.prog 35 #[.pointer (some ⟨g, 0, none⟩), .int .i64 0] W1.drew fun e w' => HalfR g s n d 0 z W1.drew e w') := rhalf_any g s n z 0 d W1.drew HD1'.out HZ.out (by omega)
  have HSC : Hid (∀ A' c', Hid (32 * z ≤ c' ∧ c' ≤ 200000) → Hid (∀ (F : Nat → Prop) (W : World), RDiskAt W g s n d → ¬ F s → BytesIn F W A' (Lg.cut d.b (Lg.start n 0) z)) → Calls Try.prog 39 #[.slice A' (32 * z) c', .int .i64 (a : Int)] W1.drew fun e w' => ∃ A4 c4, e = .returned (.tuple #[.slice A4 k c4, .int .i64 (fin : Nat)]) ∧ (w'.cell? ⟨lb, 1, none⟩ = some (.int .i64 0) ∧ w'.cell? ⟨lb, 2, none⟩ = some (.int .i64 (a : Int))) ∧ (w'.cell? ⟨lb, 3, none⟩ = some (.slice none 0 0) ∧ w'.frozen? ⟨lb, 3, none⟩ = false ∧ w'.cell? ⟨lb, 4, none⟩ = some (.int .i64 0) ∧ w'.frozen? ⟨lb, 4, none⟩ = false) ∧ Hid (∀ u, (w'.setCell ⟨lb, 3, none⟩ u).cell? ⟨lb, 1, none⟩ = some (.int .i64 0) ∧ (w'.setCell ⟨lb, 3, none⟩ u).cell? ⟨lb, 2, none⟩ = some (.int .i64 (a : Int))) ∧ Hid (∀ u (r : Int), ((w'.setCell ⟨lb, 3, none⟩ u).setCell ⟨lb, 4, none⟩ (.int .i64 r)).cell? ⟨lb, 1, none⟩ = some (.int .i64 0) ∧ ((w'.setCell ⟨lb, 3, none⟩ u).setCell ⟨lb, 4, none⟩ (.int .i64 r)).cell? ⟨lb, 2, none⟩ = some (.int .i64 (a : Int))) ∧ Hid (RowIn (fun i => i < W1.heap.size) w' A4 rs ∧ Below W1.heap.size W1 w')) := fun A' c' hc hby => by
    refine (rscan_any A' (32 * z) c' (Lg.start n 0) z a n d.b W1.drew HD1.out.good.len (by have := Lg.start_le (n := n) (half := 0) (by omega); rw [HZ.out] at this; exact this) rfl hc.out.1 hc.out.2 (by omega) (by omega) (hby.out No _ HD1'.out id) rs fin hrs hfin).mono fun e w' ⟨A4, c4, e1, e2, e3⟩ => ?_
    have hb' : Below W1.heap.size W1 w' := ⟨e3.os, e3.tape, e3.output, e3.size, e3.block⟩
    have ht := HT1.out.below hb'
    exact ⟨A4, c4, by rw [e1, HK.out], ⟨ht.cell 1 _ rfl, ht.cell 2 _ rfl⟩, ⟨ht.cell 3 _ rfl, ht.fz 3, ht.cell 4 _ rfl, ht.fz 4⟩, fun u => ⟨(ht.set 3 u (v' := u) rfl).cell 1 _ rfl, (ht.set 3 u (v' := u) rfl).cell 2 _ rfl⟩, fun u r => ⟨((ht.set 3 u (v' := u) rfl).set 4 (.int .i64 r) (fin' := r) rfl).cell 1 _ rfl, ((ht.set 3 u (v' := u) rfl).set 4 (.int .i64 r) (fin' := r) rfl).cell 2 _ rfl⟩, e2, hb'⟩
  have x1 := HT1.out.cell 1 (.int .i64 0) rfl
  have x2 := HT1.out.cell 2 (.int .i64 (a : Int)) rfl
  have HE : Hid (q = ((Lg.wipeS n (Lg.start n 0) fin z d).1, (Lg.wipeS n (Lg.start n 0) fin z d).2, ⟨0, a, rs, fin, false⟩)) := by
    unfold Hid
    rw [← HQ'.out]
    unfold openEnd
    rw [if_pos rfl]
    simp only
    rw [HZ.out, hrs, hfin]
  obtain ⟨y, hy⟩ : ∃ y, Lg.wipeS n (Lg.start n 0) fin z d = y := ⟨_, rfl⟩
  rw [hy] at HE
  have HWI : Hid (∀ W5, RDiskAt W5 g s n d → Calls Try.prog 40 #[.pointer (some ⟨g, 0, none⟩), .int .i64 0, .int .i64 (fin : Nat)] W5 fun e w' => e = .returned (.int .i64 y.2) ∧ RDiskAt w' g s n y.1 ∧ Kept (Two g s) W5 w') := fun W5 hd5 => by
    have := rwipe_any g s n z 0 fin d W5 hd5 HZ.out (by omega) hfz (by omega)
    rw [hy] at this
    exact this
  clear hrs hfin hk hy HQ' hz2 hzn HB2
  go_region_held3 (fun w' => w'.cell? ⟨lb, 1, none⟩ = some (.int .i64 0) ∧ w'.cell? ⟨lb, 2, none⟩ = some (.int .i64 (a : Int))) (first | exact HS6.out _ _ | exact HS5.out _ | exact hs4 | exact ⟨x1, x2⟩)
    (first
      | (go_at_call 39; refine (HSC.out A' c' HC' HBY').mono ?_; rintro e w4 ⟨A4, c4, rfl, hs4, ⟨y3, f3, y4, f4⟩, HS5, HS6, HR4⟩)
      | (go_at_call 35; refine HHF.out.mono ?_; rintro e w3 ⟨A', c', rfl, HC', HBY', rfl⟩))
  have HT5 : Hid (RTop ((w4.setCell ⟨lb, 3, none⟩ (.slice A4 k c4)).setCell ⟨lb, 4, none⟩ (.int .i64 (fin : Int))) lb g 0 (a : Int) (.slice A4 k c4) fin false) := ((HT1.out.below HR4.out.2).set 3 (.slice A4 k c4) rfl).set 4 (.int .i64 (fin : Int)) rfl
  have HK5 : Hid (Kept (Two g s) w ((w4.setCell ⟨lb, 3, none⟩ (.slice A4 k c4)).setCell ⟨lb, 4, none⟩ (.int .i64 (fin : Int)))) := ((HK1.out.trans (Kept.of_below HR4.out.2)).setCell (p := ⟨lb, 3, none⟩) (.inr HLB.out) _).setCell (p := ⟨lb, 4, none⟩) (.inr HLB.out) _
  have HNG := Lib.hid (HT1.out.ng HD1.out)
  have HD5 : Hid (RDiskAt ((w4.setCell ⟨lb, 3, none⟩ (.slice A4 k c4)).setCell ⟨lb, 4, none⟩ (.int .i64 (fin : Int))) g s n d) := (HD1.out.below HR4.out.2).keep (F := fun i => i = lb) (((Kept.refl (fun i => i = lb) w4).setCell (p := ⟨lb, 3, none⟩) (.inl rfl) _).setCell (p := ⟨lb, 4, none⟩) (.inl rfl) _) (fun e => HNG.out (.inl e.symm)) (fun e => HNG.out (.inr e.symm))
  have HRW5 : Hid (RowIn (fun i => Lb lb g s i ∨ G i) ((w4.setCell ⟨lb, 3, none⟩ (.slice A4 k c4)).setCell ⟨lb, 4, none⟩ (.int .i64 (fin : Int))) A4 rs) := by
    have h1 := HD1.out.ltg
    have h2 := HD1.out.lts
    have h3 := HT1.out.lt
    refine (HR4.out.1.less (fun i _ hi => ?_)).keep (((Kept.refl (fun i => Lb lb g s i ∨ G i) w4).setCell (p := ⟨lb, 3, none⟩) (.inl (.inl (.inr rfl))) _).setCell (p := ⟨lb, 4, none⟩) (.inl (.inl (.inr rfl))) _)
    rcases hi with ((e | e) | e) | e
    · omega
    · omega
    · omega
    · have h4 := HG.out i e
      have h5 := HK1.out.size
      omega
  clear HR4 HT1 HK1 HD1 HD1' HSC HHF HS5 HS6 y3 f3 y4 f4 hs4 x1 x2 hlbs HC' HBY'
  generalize (w4.setCell ⟨lb, 3, none⟩ (.slice A4 k c4)).setCell ⟨lb, 4, none⟩ (.int .i64 (fin : Int)) = W5 at *
  have x1 := HT5.out.cell 1 (.int .i64 0) rfl
  have x4 := HT5.out.cell 4 (.int .i64 (fin : Int)) rfl
  have HWX : Hid (Calls Try.prog 40 #[.pointer (some ⟨g, 0, none⟩), .int .i64 0, .int .i64 (fin : Int)] W5.drew fun e w' => e = .returned (.int .i64 y.2) ∧ (w'.cell? ⟨lb, 1, none⟩ = some (.int .i64 0) ∧ w'.cell? ⟨lb, 4, none⟩ = some (.int .i64 (fin : Int))) ∧ Hid (RDiskAt w' g s n y.1 ∧ Kept (Two g s) W5 w')) := by
    refine (HWI.out W5.drew (HD5.out.keep (F := No) (Kept.refl No _).drew id id)).mono fun e w' ⟨e1, e2, e3⟩ => ?_
    have hk : Kept (Two g s) W5 w' := ⟨e3.os, e3.tape, e3.output, e3.size, e3.block⟩
    exact ⟨e1, ⟨(HT5.out.keep hk HNG.out).cell 1 (.int .i64 0) rfl, (HT5.out.keep hk HNG.out).cell 4 (.int .i64 (fin : Int)) rfl⟩, e2, hk⟩
  clear HWI
  go_wp2_with fail
  go_region_held3 (fun w' => w'.cell? ⟨lb, 1, none⟩ = some (.int .i64 0) ∧ w'.cell? ⟨lb, 4, none⟩ = some (.int .i64 (fin : Int))) (first | exact hs6 | exact ⟨x1, x4⟩)
    (first | (go_at_call 40; refine HWX.out.mono ?_; rintro e w6 ⟨rfl, hs6, HR6⟩))
  have HD6 := Lib.hid HR6.out.1
  have HK6 := Lib.hid HR6.out.2
  clear HR6 hs6 HWX x1 x4
  by_cases hy0 : y.2 = 0
  · have d5 : (y.2 != 0) = false := by rw [hy0]; rfl
    go_wp2
    go_ret2
    refine .inl ⟨by rw [HE.out]; exact hy0, lb, rfl, ⟨⟨A4, c4, ?_, ?_⟩, by rw [HE.out]; exact HD6.out, by rw [HE.out]; exact HGOOD.out⟩, HLB.out, HK5.out.trans HK6.out⟩
    · rw [HE.out]
      simp only
      rw [HK.out]
      exact HT5.out.keep HK6.out HNG.out
    · rw [HE.out]
      exact HRW5.out.keep (HK6.out.wide (fun i _ e => .inl (.inl e)))
  · have d5 : (y.2 != 0) = true := bne_iff_ne.2 hy0
    go_wp2
    go_ret2
    exact .inr ⟨by rw [HE.out]; exact hy0, by rw [HE.out]; rfl, by rw [HE.out]; exact HD6.out, HK5.out.trans HK6.out⟩
end Go.Proofs.Ytoocifoglhhnmaa
