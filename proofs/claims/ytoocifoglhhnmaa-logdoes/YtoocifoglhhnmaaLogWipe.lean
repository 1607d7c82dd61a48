/- Contracts of package log: isNew, wipe, lay. -/
import Derived.Test.YtoocifoglhhnmaaLogHalf
namespace Go.Proofs.Ytoocifoglhhnmaa
open Go.RowKit
set_option linter.unusedVariables false

noncomputable def isNewB (b : Dk.Bs) (s size : Nat) : Bool := @decide (Lg.IsNew b s size) (Classical.propDecidable _)
theorem isNewB_true {b : Dk.Bs} {s size : Nat} : isNewB b s size = true ↔ Lg.IsNew b s size := @decide_eq_true_iff _ (Classical.propDecidable _)
theorem isNewB_false {b : Dk.Bs} {s size : Nat} : isNewB b s size = false ↔ ¬ Lg.IsNew b s size := @decide_eq_false_iff_not _ (Classical.propDecidable _)

/-- a box with a half -/
def BoxAt (w : World) (bb g st size : Nat) : Prop := w.heap[bb]? = some (.cells #[.pointer (some ⟨g, 0, none⟩), .int .i64 st, .int .i64 size] 65 (0, 0))
theorem BoxAt.new (w : World) (g st size : Nat) : BoxAt (w.alloc (.cells #[.pointer (some ⟨g, 0, none⟩), .int .i64 st, .int .i64 size] 65)) w.heap.size g st size := heap_alloc_new w _
theorem BoxAt.lt {w : World} {bb g st size : Nat} (h : BoxAt w bb g st size) : bb < w.heap.size := (Array.getElem?_eq_some_iff.1 h).1
theorem BoxAt.keep {F : Nat → Prop} {w w' : World} {bb g st size : Nat} (h : BoxAt w bb g st size) (hk : Kept F w w') (hn : ¬ F bb) : BoxAt w' bb g st size := (hk.block bb h.lt hn).trans h
theorem BoxAt.below {w w' : World} {bb g st size : Nat} (h : BoxAt w bb g st size) (hb : Below w.heap.size w w') : BoxAt w' bb g st size := h.keep (F := No) (Kept.of_below hb) id
theorem BoxAt.c0 {w : World} {bb g st size : Nat} (h : BoxAt w bb g st size) : w.cell? ⟨bb, 0, none⟩ = some (.pointer (some ⟨g, 0, none⟩)) := by rw [cell_of_row w bb 0 _ _ _ h]; rfl
theorem BoxAt.c1 {w : World} {bb g st size : Nat} (h : BoxAt w bb g st size) : w.cell? ⟨bb, 1, none⟩ = some (.int .i64 st) := by rw [cell_of_row w bb 1 _ _ _ h]; rfl
theorem BoxAt.c2 {w : World} {bb g st size : Nat} (h : BoxAt w bb g st size) : w.cell? ⟨bb, 2, none⟩ = some (.int .i64 size) := by rw [cell_of_row w bb 2 _ _ _ h]; rfl

set_option maxHeartbeats 2000000 in
set_option maxRecDepth 100000 in
theorem isNew_any (g s n st size : Nat) (d : Dk.D) (w : World) (h : DiskAt w g s n d) (ha : st + size ≤ n) (h0 : 1 ≤ size) :
    Calls Try.prog 59 #[.agg #[.pointer (some ⟨g, 0, none⟩), .int .i64 st, .int .i64 size]] w fun e w' => e = .returned (.bool (isNewB d.b st size)) ∧ Below w.heap.size w w' := by
  have hn1 := h.n1
  have hb0 : Below w.heap.size w (w.alloc (.cells #[.pointer (some ⟨g, 0, none⟩), .int .i64 st, .int .i64 size] 65)) := (Below.refl _ _).alloc (Nat.le_refl _) _
  have HX := Lib.hid (BoxAt.new w g st size)
  have HB0 := Lib.hid hb0
  have HD := Lib.hid (h.below hb0)
  have hlen := Dk.sec_len h.good.len (show st < n by omega)
  have HL : Hid (∀ a, a < size → (Dk.sec d.b (st + a)).length = 32) := fun a hlt => Dk.sec_len h.good.len (by omega)
  obtain ⟨bl, hbl⟩ := some_at (Dk.sec d.b st) 31 (by omega)
  have HT : Hid ((∀ a, 1 ≤ a → a < size → Dk.sec d.b (st + a) = Lg.zeros 32) → isNewB d.b st size = ((bl.toNat : Int) == 0)) := fun hz => by
    have hg : (Dk.sec d.b st).getD 31 0 = bl := by rw [List.getD_eq_getElem?_getD, hbl]; rfl
    by_cases e : bl = 0
    · rw [isNewB_true.2 ⟨hz, by rw [hg]; exact e⟩, e]; rfl
    · rw [isNewB_false.2 (fun hh => e (by rw [← hg]; exact hh.2)), eq_comm, beq_eq_false_iff_ne]
      exact fun he => e (UInt8.toNat_inj.1 (by simpa using he))
  have HF : Hid (∀ a, 1 ≤ a → a < size → Dk.sec d.b (st + a) ≠ Lg.zeros 32 → isNewB d.b st size = false) := fun a h1 h2 h3 => isNewB_false.2 (fun hh => h3 (hh.1 a h1 h2))
  have HBL := Lib.hid hbl
  have HN : Hid (st + size ≤ n) := ha
  clear hb0 h hlen hbl
  generalize isNewB d.b st size = R at *
  go_enter Try.func59, Try.ntmps59
  go_wp2
  generalize w.alloc (.cells #[.pointer (some ⟨g, 0, none⟩), .int .i64 st, .int .i64 size] 65) = W0 at *
  go_loopg [2, 3] size (fun gk s2 s3 W => ∃ a : Nat, 1 ≤ a ∧ a ≤ size ∧ a + gk = size + 1 ∧ s2 = .bool false ∧ s3 = .int .i64 a ∧ Hid (DiskAt W g s n d) ∧ Hid (BoxAt W w.heap.size g st size) ∧ Hid (Below w.heap.size w W) ∧ Hid (∀ i, 1 ≤ i → i < a → Dk.sec d.b (st + i) = Lg.zeros 32))
  case atStart => exact ⟨1, by omega, by omega, by omega, rfl, rfl, HD.out, HX.out, HB0.out, fun i h1 h2 => by omega⟩
  case round =>
    clear HD HX HB0
    obtain ⟨a, h1, h2, h3, rfl, rfl, HD, HX, HB, HZ⟩ := hrel
    have x0 := HX.out.c0
    have x1 := HX.out.c1
    have x2 := HX.out.c2
    by_cases hlt : a < size
    · obtain ⟨gk, rfl⟩ : ∃ j, gk = j + 1 := ⟨gk - 1, by omega⟩
      have d1 : decide ((a : Int) < (size : Int)) = true := decide_eq_true (by omega)
      have HR := Lib.hid (hread_any g s n st size a d wr HD.out (by omega))
      have HLA := Lib.hid (HL.out a hlt)
      by_cases hz : Dk.sec d.b (st + a) = Lg.zeros 32
      · have HZ2 : Hid (∀ i, 1 ≤ i → i < a + 1 → Dk.sec d.b (st + i) = Lg.zeros 32) := fun i i1 i2 => by
          by_cases e : i < a
          · exact HZ.out i i1 e
          · obtain rfl : i = a := by omega
            exact hz
        have HDE : Hid (decide (Dk.sec d.b (st + a) = Lg.zeros 32) = true) := decide_eq_true hz
        clear hz HF HT
        go_wp2_with fail
        refine HR.out.mono ?_
        rintro e w1 ⟨rfl, hb1, hbel1⟩
        have HW := isWiped_any No (some ⟨wr.heap.size + 1, 0, none⟩) 32 32 _ w1 HLA.out (by omega) (hb1.bytes id)
        rw [HDE.out] at HW
        have HW := Lib.hid HW
        have HD1 := Lib.hid (HD.out.below hbel1)
        have HX1 := Lib.hid (HX.out.below hbel1)
        have HB1 := Lib.hid (HB.out.trans (hbel1.mono HB.out.size))
        clear hb1 hbel1
        go_wp2_with (go_at_call 64; refine HW.out.mono ?_; rintro e w' ⟨rfl, rfl⟩)
        go_roundg gk
        case measure => omega
        case rel => exact ⟨a + 1, by omega, by omega, by omega, rfl, by first | rfl | go_num, HD1.out, HX1.out, HB1.out, HZ2.out⟩
      · have HE := Lib.hid (HF.out a h1 hlt hz)
        have HDE : Hid (decide (Dk.sec d.b (st + a) = Lg.zeros 32) = false) := decide_eq_false hz
        clear hz HF HT
        go_wp2_with fail
        refine HR.out.mono ?_
        rintro e w1 ⟨rfl, hb1, hbel1⟩
        have HW := isWiped_any No (some ⟨wr.heap.size + 1, 0, none⟩) 32 32 _ w1 HLA.out (by omega) (hb1.bytes id)
        rw [HDE.out] at HW
        have HW := Lib.hid HW
        have HB1 := Lib.hid (HB.out.trans (hbel1.mono HB.out.size))
        clear hb1 hbel1
        go_wp2_with (go_at_call 64; refine HW.out.mono ?_; rintro e w' ⟨rfl, rfl⟩)
        go_ret
        exact ⟨by rw [HE.out]; rfl, HB1.out⟩
    · obtain rfl : a = size := by omega
      have d1 : decide ((a : Int) < (a : Int)) = false := decide_eq_false (by omega)
      have HE := Lib.hid (HT.out HZ.out)
      have HR := hread_any g s n st a 0 d wr HD.out (by have := HN.out; omega)
      rw [Nat.add_zero] at HR
      have HR := Lib.hid HR
      clear HF HT
      go_wp2_with fail
      refine HR.out.mono ?_
      rintro e w1 ⟨rfl, hb1, hbel1⟩
      have c31 := hb1.cell HBL.out
      have HB1 := Lib.hid (HB.out.trans (hbel1.mono HB.out.size))
      clear hb1 hbel1
      go_wp2
      go_ret
      exact ⟨by rw [HE.out]; rfl, HB1.out⟩

set_option maxHeartbeats 2000000 in
set_option maxRecDepth 100000 in
theorem wipe_any (g s n st size to : Nat) (d : Dk.D) (w : World) (h : DiskAt w g s n d) (ha : st + size ≤ n) (hto : to ≤ size) (hw : d.writes + size ≤ 1000000) :
    Calls Try.prog 33 #[.agg #[.pointer (some ⟨g, 0, none⟩), .int .i64 st, .int .i64 size], .int .i64 to] w fun e w' => e = .returned (.int .i64 (Lg.wipeS n st to size d).2) ∧ DiskAt w' g s n (Lg.wipeS n st to size d).1 ∧ Kept (Two g s) w w' := by
  have hn1 := h.n1
  have hb0 : Kept (Two g s) w (w.alloc (.cells #[.pointer (some ⟨g, 0, none⟩), .int .i64 st, .int .i64 size] 65)) := (Kept.refl _ _).alloc _
  have HX := Lib.hid (BoxAt.new w g st size)
  have x2 := (BoxAt.new w g st size).c2
  have HB0 := Lib.hid hb0
  have HD := Lib.hid (h.alloc (.cells #[.pointer (some ⟨g, 0, none⟩), .int .i64 st, .int .i64 size] 65))
  have HNT : Hid (¬ Two g s w.heap.size) := by
    have h1 := h.ltg
    have h2 := h.lts
    rintro (e | e) <;> omega
  clear hb0 h
  obtain ⟨R, hR⟩ : ∃ R, Lg.wipeS n st to size d = R := ⟨_, rfl⟩
  have HR0 := Lib.hid hR
  rw [hR]
  clear hR
  go_enter Try.func33, Try.ntmps33
  go_wp2
  generalize w.alloc (.cells #[.pointer (some ⟨g, 0, none⟩), .int .i64 st, .int .i64 size] 65) = W0 at *
  clear x2
  go_loopg [4, 5, 6] size (fun gk s4 s5 s6 W => ∃ dc : Dk.D, gk ≤ size ∧ s4 = .int .i64 0 ∧ s5 = .int .i64 ((gk : Int) - 1) ∧ dc.writes + gk ≤ 1000000 ∧ Hid (Lg.wipeS n st to gk dc = R) ∧ Hid (DiskAt W g s n dc) ∧ Hid (BoxAt W w.heap.size g st size) ∧ Hid (Kept (Two g s) w W))
  case atStart => exact ⟨d, Nat.le_refl _, rfl, rfl, hw, HR0.out, HD.out, HX.out, HB0.out⟩
  case round =>
    clear HD HX HB0
    obtain ⟨dc, h1, rfl, rfl, h3, HR, HD, HX, HB⟩ := hrel
    have x0 := HX.out.c0
    have x1 := HX.out.c1
    have x2 := HX.out.c2
    cases gk with
    | zero =>
      have HE : Hid ((dc, 0) = R) := HR.out
      clear HR
      have d1 : decide ((to : Int) ≤ ((0 : Nat) : Int) - 1) = false := decide_eq_false (by omega)
      go_wp2
      go_ret
      exact ⟨by rw [← HE.out]; rfl, by rw [← HE.out]; exact HD.out, HB.out⟩
    | succ m =>
      have e1 : ((m + 1 : Nat) : Int) - 1 = (m : Int) := by omega
      rw [e1]
      by_cases hlt : m < to
      · have HE : Hid ((dc, 0) = R) := by have := HR.out; unfold Lg.wipeS at this; rw [if_pos hlt] at this; exact this
        have d1 : decide ((to : Int) ≤ (m : Int)) = false := decide_eq_false (by omega)
        have d2 : decide (to ≤ m) = false := decide_eq_false (by omega)
        clear HR
        go_wp2
        go_ret
        exact ⟨by rw [← HE.out]; rfl, by rw [← HE.out]; exact HD.out, HB.out⟩
      · have d1 : decide ((to : Int) ≤ (m : Int)) = true := decide_eq_true (by omega)
        have d2 : decide (to ≤ m) = true := decide_eq_true (by omega)
        have HRD := Lib.hid (hread_any g s n st size m dc wr HD.out (by omega))
        have HLA := Lib.hid (Dk.sec_len HD.out.good.len (show st + m < n by omega))
        by_cases hz : Dk.sec dc.b (st + m) = Lg.zeros 32
        · have HE : Hid (Lg.wipeS n st to m dc = R) := by have := HR.out; unfold Lg.wipeS at this; rw [if_neg hlt, if_pos hz] at this; exact this
          have HDE : Hid (decide (Dk.sec dc.b (st + m) = Lg.zeros 32) = true) := decide_eq_true hz
          clear hz HR
          go_wp2_with fail
          refine HRD.out.mono ?_
          rintro e w1 ⟨rfl, hb1, hbel1⟩
          have HW := isWiped_any No (some ⟨wr.heap.size + 1, 0, none⟩) 32 32 _ w1 HLA.out (by omega) (hb1.bytes id)
          rw [HDE.out] at HW
          have HW := Lib.hid HW
          have HD1 := Lib.hid (HD.out.below hbel1)
          have HX1 := Lib.hid (HX.out.below hbel1)
          have HB1 := Lib.hid (HB.out.trans (Kept.of_below hbel1))
          clear hb1 hbel1
          go_wp2_with (go_at_call 64; refine HW.out.mono ?_; rintro e w' ⟨rfl, rfl⟩)
          go_roundg m
          case measure => omega
          case rel => exact ⟨dc, by omega, rfl, by first | rfl | go_num, by omega, HE.out, HD1.out, HX1.out, HB1.out⟩
        · have HDE : Hid (decide (Dk.sec dc.b (st + m) = Lg.zeros 32) = false) := decide_eq_false hz
          have HE : Hid ((if (Lg.wr n dc (st + m) []).2 = 0 then Lg.wipeS n st to m (Lg.wr n dc (st + m) []).1 else Lg.wr n dc (st + m) []) = R) := by have := HR.out; unfold Lg.wipeS at this; rw [if_neg hlt, if_neg hz] at this; exact this
          have HWW := Lib.hid (Lg.wr_writes (n := n) dc (st + m) [])
          clear hz HR
          go_wp2_with fail
          refine HRD.out.mono ?_
          rintro e w1 ⟨rfl, hb1, hbel1⟩
          have HW := isWiped_any No (some ⟨wr.heap.size + 1, 0, none⟩) 32 32 _ w1 HLA.out (by omega) (hb1.bytes id)
          rw [HDE.out] at HW
          have HW := Lib.hid HW
          have HD1 := Lib.hid (HD.out.below hbel1)
          have HX1 := Lib.hid (HX.out.below hbel1)
          have y0 := HX1.out.c0
          have y1 := HX1.out.c1
          have y2 := HX1.out.c2
          have HB1 := Lib.hid (HB.out.trans (Kept.of_below hbel1))
          clear hb1 hbel1
          have HWR := hwrite_any g s n st size m dc none 0 0 [] w1 HD1.out (by omega) (by omega) rfl (by omega) (CellsIn.nil _ _ _)
          have HWR := Lib.hid HWR
          generalize Lg.wr n dc (st + m) [] = q at *
          go_wp2_with (go_at_call 64; refine HW.out.mono ?_; rintro e w' ⟨rfl, rfl⟩)
          refine HWR.out.mono ?_
          rintro e w2 ⟨rfl, hd2, hk2⟩
          have HD2 := Lib.hid hd2
          have HX2 := Lib.hid (HX1.out.keep hk2 HNT.out)
          have HB2 := Lib.hid (HB1.out.trans hk2)
          clear hd2 hk2
          by_cases hq : q.2 = 0
          · have HE2 : Hid (Lg.wipeS n st to m q.1 = R) := by have := HE.out; rw [if_pos hq] at this; exact this
            have d3 : (q.2 != 0) = false := by rw [hq]; rfl
            clear HE
            go_wp2
            go_roundg m
            case measure => omega
            case rel => exact ⟨q.1, by omega, rfl, by first | rfl | go_num, by have := HWW.out; omega, HE2.out, HD2.out, HX2.out, HB2.out⟩
          · have HE2 : Hid (q = R) := by have := HE.out; rw [if_neg hq] at this; exact this
            have d3 : (q.2 != 0) = true := bne_iff_ne.2 hq
            clear HE
            go_wp2
            go_ret
            exact ⟨by rw [← HE2.out]; rfl, by rw [← HE2.out]; exact HD2.out, HB2.out⟩

end Go.Proofs.Ytoocifoglhhnmaa
