/- Every call of the law that what is written is read, and that no bytes but its own tell values, answers true: any form, values and bytes. No conditions. -/
import Derived.Test.YthncabfeieombaaRows
import Derived.Test.YthncabfeieombaaPackHeld
import Derived.WalkKit
import Derived.ProofKit
import Derived.OpenShut
import Derived.ShutString
import Derived.ChangeOld
import Derived.Below
import Derived.SizedLaws
namespace Go.Proofs.Ythncabfeieombaa.packBack
open Go.ChangeShapes Go.WideShapes Go.ChangeAt Go.RowKit
open Go.ChangeMaps (open_string shut_string)
set_option linter.unusedVariables false

theorem own : ownKnob Try.prog.godebug = none := by kernel_rfl
theorem laidOut : laidOutB Try.prog = true := by kernel_rfl

set_option maxHeartbeats 8000000 in
set_option maxRecDepth 100000 in
theorem walk {w : World} (s : ByteArray) (hs : s.size ≤ maxLen) (A : Option Addr) (n c : Nat) (l : List Pk.V) (hn : l.length = n) (hnc : n ≤ c) (hc : c ≤ maxLen) (hv : ValsIn w w.heap.size A l) (ht : ∀ v ∈ l, v.2.size ≤ 140737488355328)
    (B : Option Addr) (m d : Nat) (b : Pk.Bs) (hm : b.length = m) (hmd : m ≤ d) (hd : d ≤ maxLen) (hb : BytesIn w w.heap.size B b) :
    Calls Try.prog 5 #[.string s, .slice A n c, .slice B m d] w fun e w' => e = .returned (.bool true) ∧ Below w.heap.size w w' := by
  have HV := Lib.hid hv
  have HT := Lib.hid ht
  have HTM : Hid (∀ v ∈ l, v.2.size ≤ maxLen) := fun v hv => by have := ht v hv; unfold maxLen; omega
  have HBY := Lib.hid hb
  clear hv ht hb
  have hm63 : m ≤ 9223372036854775807 := by have := Nat.le_trans hmd hd; unfold maxLen at this; omega
  by_cases hbl : 21000 < m
  · have d0 : decide ((21000 : Int) < (m : Int)) = true := decide_eq_true (by omega)
    clear hbl
    go_enter Try.func5, Try.ntmps5
    go_wp2_with fail
    refine (awake_any w).mono ?_
    rintro e w1 ⟨rfl, hb1⟩
    have HB1 := Lib.hid hb1
    clear hb1
    go_wp2_with fail
    refine (large_any s A n c l w1 hs hn (Nat.le_trans hnc hc) (HV.out.on HB1.out) HT.out).mono ?_
    rintro e w2 ⟨big, rfl, rfl, hbig⟩
    cases big with
    | true =>
      go_wp2
      go_ret
      exact ⟨rfl, HB1.out⟩
    | false =>
      clear hbig
      go_wp2
      go_ret
      exact ⟨rfl, HB1.out⟩
  · have d0 : decide ((21000 : Int) < (m : Int)) = false := decide_eq_false (by omega)
    clear hbl
    cases hx1 : Pk.wres (bs s) l with
    | mk q cb =>
      obtain ⟨kb, hkb⟩ : ∃ k, cb.length = k := ⟨_, rfl⟩
      have HKB := Lib.hid hkb
      have HX1 := Lib.hid hx1
      by_cases hq : q = 0
      · subst hq
        by_cases hk20 : kb ≤ 20000
        · have d1 : decide ((kb : Int) ≤ 20000) = true := decide_eq_true (by omega)
          have HXB := Lib.hid (Pk.rres_back _ _ _ hx1 (by omega))
          clear hx1 hkb
          cases hx2 : Pk.rres (bs s) b with
          | mk q2 m2 =>
            by_cases hq2 : q2 = 0
            · subst hq2
              obtain ⟨hw2, _⟩ := Pk.rres_sound _ _ _ hx2
              have HX2 := Lib.hid hx2
              have HW2 := Lib.hid hw2
              have HT2 := Lib.hid (wres_small hw2).2
              obtain ⟨k2, hk2⟩ : ∃ k, m2.length = k := ⟨_, rfl⟩
              have HK2 := Lib.hid hk2
              clear hx2 hw2 hk2
              go_enter Try.func5, Try.ntmps5
              go_wp2_with fail
              refine (awake_any w).mono ?_
              rintro e w1 ⟨rfl, hb1⟩
              have HB1 := Lib.hid hb1
              clear hb1
              go_wp2_with fail
              refine (large_any s A n c l w1 hs hn (Nat.le_trans hnc hc) (HV.out.on HB1.out) HT.out).mono ?_
              rintro e w2 ⟨big, rfl, rfl, hbig⟩
              cases big with
              | true =>
                go_wp2
                go_ret
                exact ⟨rfl, HB1.out⟩
              | false =>
                have h300 := (hbig rfl).1
                have HBG := Lib.hid hbig
                clear hbig HBG
                go_wp2_with fail
                refine (lw_write s A n c l 0 cb HX1.out kb HKB.out w1 hs hn (Nat.le_trans hnc hc) (HV.out.on HB1.out) HTM.out).mono ?_
                rintro e w3 ⟨A3, c3, rfl, h31, h32, hy3, hb3⟩
                have HB3 : Hid (Below w.heap.size w w3) := bel_on HB1.out hb3
                have HY3 := Lib.hid hy3
                clear hy3 hb3
                go_wp2_with fail
                refine (aw_read s hs A3 kb c3 cb 0 l HXB.out n hn w3 HKB.out h31 h32 HY3.out).mono ?_
                rintro e w4 ⟨A4, c4, rfl, h41, h42, hv4, hb4⟩
                have HB4 : Hid (Below w.heap.size w w4) := bel_on HB3.out hb4
                have HV4 := Lib.hid hv4
                clear hv4 hb4
                go_wp2_with fail
                refine (lw_own A n c l w4 hn (by omega) (HV.out.on HB4.out)).mono ?_
                rintro e w5 ⟨A5, c5, rfl, h51, h52, hv5, hb5⟩
                have HB5 : Hid (Below w.heap.size w w5) := bel_on HB4.out hb5
                have HV5 := Lib.hid hv5
                have HV45 := Lib.hid (CellsIn.on HV4.out hb5)
                clear hv5 hb5
                go_wp2_with fail
                refine (lw_own A4 n c4 l w5 hn (by omega) HV45.out).mono ?_
                rintro e w6 ⟨A6', c6', rfl, h61', h62', hv6', hb6'⟩
                have HB6 : Hid (Below w.heap.size w w6) := bel_on HB5.out hb6'
                have HV6' := Lib.hid hv6'
                have HV56 := Lib.hid (CellsIn.on HV5.out hb6')
                clear hv6' hb6'
                go_wp2_with fail
                refine (lw_same A5 A6' n n c5 c6' l l w6 hn hn (Nat.le_trans hnc hc) (Nat.le_trans hnc hc) HV56.out HV6'.out).mono ?_
                rintro e w7 ⟨rfl, hb7'⟩
                have HBW : Hid (Below w.heap.size w w7) := bel_on HB6.out hb7'
                clear hb7'
                rw [decide_eq_true (rfl : l = l)]
                go_wp2_with fail
                refine (aw_read s hs B m d b 0 m2 HX2.out k2 HK2.out w7 hm hmd hd (HBY.out.on HBW.out)).mono ?_
                rintro e wr2 ⟨A6, c6, rfl, h61, h62, hv6, hb6⟩
                have HBR : Hid (Below w.heap.size w wr2) := bel_on HBW.out hb6
                have HV6 := Lib.hid hv6
                clear hv6 hb6
                go_wp2_with fail
                refine (lw_write s A6 k2 c6 m2 0 b HW2.out m hm wr2 hs HK2.out (Nat.le_trans h61 h62) HV6.out HT2.out).mono ?_
                rintro e wr3 ⟨A7, c7, rfl, h71, h72, hy7, hb7⟩
                have HBQ : Hid (Below w.heap.size w wr3) := bel_on HBR.out hb7
                have HY7 := Lib.hid hy7
                clear hy7 hb7
                go_wp2_with fail
                refine (lw_bytes B A7 m m d c7 b b wr3 hm hm (Nat.le_trans hmd hd) (Nat.le_trans hmd hd) (HBY.out.on HBQ.out) HY7.out).mono ?_
                rintro e wr4 ⟨rfl, hb8⟩
                have HBZ : Hid (Below w.heap.size w wr4) := bel_on HBQ.out hb8
                clear hb8
                rw [decide_eq_true (rfl : b = b)]
                go_wp2
                go_ret
                exact ⟨rfl, HBZ.out⟩
            · have hm2 : m2 = [] := by
                have := Pk.rres_err (bs s) b (by rw [hx2]; exact hq2)
                rw [hx2] at this
                exact this
              subst hm2
              have HX2 := Lib.hid hx2
              have d8 : ((q2 : Int) != 0) = true := bne_iff_ne.2 (by omega)
              clear hx2 hq2
              go_enter Try.func5, Try.ntmps5
              go_wp2_with fail
              refine (awake_any w).mono ?_
              rintro e w1 ⟨rfl, hb1⟩
              have HB1 := Lib.hid hb1
              clear hb1
              go_wp2_with fail
              refine (large_any s A n c l w1 hs hn (Nat.le_trans hnc hc) (HV.out.on HB1.out) HT.out).mono ?_
              rintro e w2 ⟨big, rfl, rfl, hbig⟩
              cases big with
              | true =>
                go_wp2
                go_ret
                exact ⟨rfl, HB1.out⟩
              | false =>
                have h300 := (hbig rfl).1
                have HBG := Lib.hid hbig
                clear hbig HBG
                go_wp2_with fail
                refine (lw_write s A n c l 0 cb HX1.out kb HKB.out w1 hs hn (Nat.le_trans hnc hc) (HV.out.on HB1.out) HTM.out).mono ?_
                rintro e w3 ⟨A3, c3, rfl, h31, h32, hy3, hb3⟩
                have HB3 : Hid (Below w.heap.size w w3) := bel_on HB1.out hb3
                have HY3 := Lib.hid hy3
                clear hy3 hb3
                go_wp2_with fail
                refine (aw_read s hs A3 kb c3 cb 0 l HXB.out n hn w3 HKB.out h31 h32 HY3.out).mono ?_
                rintro e w4 ⟨A4, c4, rfl, h41, h42, hv4, hb4⟩
                have HB4 : Hid (Below w.heap.size w w4) := bel_on HB3.out hb4
                have HV4 := Lib.hid hv4
                clear hv4 hb4
                go_wp2_with fail
                refine (lw_own A n c l w4 hn (by omega) (HV.out.on HB4.out)).mono ?_
                rintro e w5 ⟨A5, c5, rfl, h51, h52, hv5, hb5⟩
                have HB5 : Hid (Below w.heap.size w w5) := bel_on HB4.out hb5
                have HV5 := Lib.hid hv5
                have HV45 := Lib.hid (CellsIn.on HV4.out hb5)
                clear hv5 hb5
                go_wp2_with fail
                refine (lw_own A4 n c4 l w5 hn (by omega) HV45.out).mono ?_
                rintro e w6 ⟨A6', c6', rfl, h61', h62', hv6', hb6'⟩
                have HB6 : Hid (Below w.heap.size w w6) := bel_on HB5.out hb6'
                have HV6' := Lib.hid hv6'
                have HV56 := Lib.hid (CellsIn.on HV5.out hb6')
                clear hv6' hb6'
                go_wp2_with fail
                refine (lw_same A5 A6' n n c5 c6' l l w6 hn hn (Nat.le_trans hnc hc) (Nat.le_trans hnc hc) HV56.out HV6'.out).mono ?_
                rintro e w7 ⟨rfl, hb7'⟩
                have HBW : Hid (Below w.heap.size w w7) := bel_on HB6.out hb7'
                clear hb7'
                rw [decide_eq_true (rfl : l = l)]
                go_wp2_with fail
                refine (aw_read s hs B m d b q2 [] HX2.out 0 rfl w7 hm hmd hd (HBY.out.on HBW.out)).mono ?_
                rintro e wr2 ⟨A6, c6, rfl, h61, h62, hv6, hb6⟩
                have HBR : Hid (Below w.heap.size w wr2) := bel_on HBW.out hb6
                clear hv6 hb6
                go_wp2
                go_ret
                exact ⟨rfl, HBR.out⟩
        · have d1 : decide ((kb : Int) ≤ 20000) = false := decide_eq_false (by omega)
          have hkb63 : kb ≤ 300000 := by
            have h1 := (Pk.wres_ok hx1)
            have h2 := enc_len _ l 0 h1.2.2.1
            rw [← hkb, h1.2.2.2.2]
            have := h1.2.2.2.1
            omega
          clear hx1 hkb
          cases hx2 : Pk.rres (bs s) b with
          | mk q2 m2 =>
            by_cases hq2 : q2 = 0
            · subst hq2
              obtain ⟨hw2, _⟩ := Pk.rres_sound _ _ _ hx2
              have HX2 := Lib.hid hx2
              have HW2 := Lib.hid hw2
              have HT2 := Lib.hid (wres_small hw2).2
              obtain ⟨k2, hk2⟩ : ∃ k, m2.length = k := ⟨_, rfl⟩
              have HK2 := Lib.hid hk2
              clear hx2 hw2 hk2
              go_enter Try.func5, Try.ntmps5
              go_wp2_with fail
              refine (awake_any w).mono ?_
              rintro e w1 ⟨rfl, hb1⟩
              have HB1 := Lib.hid hb1
              clear hb1
              go_wp2_with fail
              refine (large_any s A n c l w1 hs hn (Nat.le_trans hnc hc) (HV.out.on HB1.out) HT.out).mono ?_
              rintro e w2 ⟨big, rfl, rfl, hbig⟩
              cases big with
              | true =>
                go_wp2
                go_ret
                exact ⟨rfl, HB1.out⟩
              | false =>
                have h300 := (hbig rfl).1
                have HBG := Lib.hid hbig
                clear hbig HBG
                go_wp2_with fail
                refine (lw_write s A n c l 0 cb HX1.out kb HKB.out w1 hs hn (Nat.le_trans hnc hc) (HV.out.on HB1.out) HTM.out).mono ?_
                rintro e w3 ⟨A3, c3, rfl, h31, h32, hy3, hb3⟩
                have HB3 : Hid (Below w.heap.size w w3) := bel_on HB1.out hb3
                have HY3 := Lib.hid hy3
                clear hy3 hb3
                go_wp2_with fail
                have HBW := Lib.hid HB3.out
                refine (aw_read s hs B m d b 0 m2 HX2.out k2 HK2.out w3 hm hmd hd (HBY.out.on HBW.out)).mono ?_
                rintro e wr2 ⟨A6, c6, rfl, h61, h62, hv6, hb6⟩
                have HBR : Hid (Below w.heap.size w wr2) := bel_on HBW.out hb6
                have HV6 := Lib.hid hv6
                clear hv6 hb6
                go_wp2_with fail
                refine (lw_write s A6 k2 c6 m2 0 b HW2.out m hm wr2 hs HK2.out (Nat.le_trans h61 h62) HV6.out HT2.out).mono ?_
                rintro e wr3 ⟨A7, c7, rfl, h71, h72, hy7, hb7⟩
                have HBQ : Hid (Below w.heap.size w wr3) := bel_on HBR.out hb7
                have HY7 := Lib.hid hy7
                clear hy7 hb7
                go_wp2_with fail
                refine (lw_bytes B A7 m m d c7 b b wr3 hm hm (Nat.le_trans hmd hd) (Nat.le_trans hmd hd) (HBY.out.on HBQ.out) HY7.out).mono ?_
                rintro e wr4 ⟨rfl, hb8⟩
                have HBZ : Hid (Below w.heap.size w wr4) := bel_on HBQ.out hb8
                clear hb8
                rw [decide_eq_true (rfl : b = b)]
                go_wp2
                go_ret
                exact ⟨rfl, HBZ.out⟩
            · have hm2 : m2 = [] := by
                have := Pk.rres_err (bs s) b (by rw [hx2]; exact hq2)
                rw [hx2] at this
                exact this
              subst hm2
              have HX2 := Lib.hid hx2
              have d8 : ((q2 : Int) != 0) = true := bne_iff_ne.2 (by omega)
              clear hx2 hq2
              go_enter Try.func5, Try.ntmps5
              go_wp2_with fail
              refine (awake_any w).mono ?_
              rintro e w1 ⟨rfl, hb1⟩
              have HB1 := Lib.hid hb1
              clear hb1
              go_wp2_with fail
              refine (large_any s A n c l w1 hs hn (Nat.le_trans hnc hc) (HV.out.on HB1.out) HT.out).mono ?_
              rintro e w2 ⟨big, rfl, rfl, hbig⟩
              cases big with
              | true =>
                go_wp2
                go_ret
                exact ⟨rfl, HB1.out⟩
              | false =>
                have h300 := (hbig rfl).1
                have HBG := Lib.hid hbig
                clear hbig HBG
                go_wp2_with fail
                refine (lw_write s A n c l 0 cb HX1.out kb HKB.out w1 hs hn (Nat.le_trans hnc hc) (HV.out.on HB1.out) HTM.out).mono ?_
                rintro e w3 ⟨A3, c3, rfl, h31, h32, hy3, hb3⟩
                have HB3 : Hid (Below w.heap.size w w3) := bel_on HB1.out hb3
                have HY3 := Lib.hid hy3
                clear hy3 hb3
                go_wp2_with fail
                have HBW := Lib.hid HB3.out
                refine (aw_read s hs B m d b q2 [] HX2.out 0 rfl w3 hm hmd hd (HBY.out.on HBW.out)).mono ?_
                rintro e wr2 ⟨A6, c6, rfl, h61, h62, hv6, hb6⟩
                have HBR : Hid (Below w.heap.size w wr2) := bel_on HBW.out hb6
                clear hv6 hb6
                go_wp2
                go_ret
                exact ⟨rfl, HBR.out⟩
      · have d1 : ((q : Int) == 0) = false := beq_eq_false_iff_ne.2 (by omega)
        clear hx1 hkb hq
        cases hx2 : Pk.rres (bs s) b with
        | mk q2 m2 =>
          by_cases hq2 : q2 = 0
          · subst hq2
            obtain ⟨hw2, _⟩ := Pk.rres_sound _ _ _ hx2
            have HX2 := Lib.hid hx2
            have HW2 := Lib.hid hw2
            have HT2 := Lib.hid (wres_small hw2).2
            obtain ⟨k2, hk2⟩ : ∃ k, m2.length = k := ⟨_, rfl⟩
            have HK2 := Lib.hid hk2
            clear hx2 hw2 hk2
            go_enter Try.func5, Try.ntmps5
            go_wp2_with fail
            refine (awake_any w).mono ?_
            rintro e w1 ⟨rfl, hb1⟩
            have HB1 := Lib.hid hb1
            clear hb1
            go_wp2_with fail
            refine (large_any s A n c l w1 hs hn (Nat.le_trans hnc hc) (HV.out.on HB1.out) HT.out).mono ?_
            rintro e w2 ⟨big, rfl, rfl, hbig⟩
            cases big with
            | true =>
              go_wp2
              go_ret
              exact ⟨rfl, HB1.out⟩
            | false =>
              have h300 := (hbig rfl).1
              have HBG := Lib.hid hbig
              clear hbig HBG
              go_wp2_with fail
              refine (lw_write s A n c l q cb HX1.out kb HKB.out w1 hs hn (Nat.le_trans hnc hc) (HV.out.on HB1.out) HTM.out).mono ?_
              rintro e w3 ⟨A3, c3, rfl, h31, h32, hy3, hb3⟩
              have HB3 : Hid (Below w.heap.size w w3) := bel_on HB1.out hb3
              have HY3 := Lib.hid hy3
              clear hy3 hb3
              go_wp2_with fail
              have HBW := Lib.hid HB3.out
              refine (aw_read s hs B m d b 0 m2 HX2.out k2 HK2.out w3 hm hmd hd (HBY.out.on HBW.out)).mono ?_
              rintro e wr2 ⟨A6, c6, rfl, h61, h62, hv6, hb6⟩
              have HBR : Hid (Below w.heap.size w wr2) := bel_on HBW.out hb6
              have HV6 := Lib.hid hv6
              clear hv6 hb6
              go_wp2_with fail
              refine (lw_write s A6 k2 c6 m2 0 b HW2.out m hm wr2 hs HK2.out (Nat.le_trans h61 h62) HV6.out HT2.out).mono ?_
              rintro e wr3 ⟨A7, c7, rfl, h71, h72, hy7, hb7⟩
              have HBQ : Hid (Below w.heap.size w wr3) := bel_on HBR.out hb7
              have HY7 := Lib.hid hy7
              clear hy7 hb7
              go_wp2_with fail
              refine (lw_bytes B A7 m m d c7 b b wr3 hm hm (Nat.le_trans hmd hd) (Nat.le_trans hmd hd) (HBY.out.on HBQ.out) HY7.out).mono ?_
              rintro e wr4 ⟨rfl, hb8⟩
              have HBZ : Hid (Below w.heap.size w wr4) := bel_on HBQ.out hb8
              clear hb8
              rw [decide_eq_true (rfl : b = b)]
              go_wp2
              go_ret
              exact ⟨rfl, HBZ.out⟩
          · have hm2 : m2 = [] := by
              have := Pk.rres_err (bs s) b (by rw [hx2]; exact hq2)
              rw [hx2] at this
              exact this
            subst hm2
            have HX2 := Lib.hid hx2
            have d8 : ((q2 : Int) != 0) = true := bne_iff_ne.2 (by omega)
            clear hx2 hq2
            go_enter Try.func5, Try.ntmps5
            go_wp2_with fail
            refine (awake_any w).mono ?_
            rintro e w1 ⟨rfl, hb1⟩
            have HB1 := Lib.hid hb1
            clear hb1
            go_wp2_with fail
            refine (large_any s A n c l w1 hs hn (Nat.le_trans hnc hc) (HV.out.on HB1.out) HT.out).mono ?_
            rintro e w2 ⟨big, rfl, rfl, hbig⟩
            cases big with
            | true =>
              go_wp2
              go_ret
              exact ⟨rfl, HB1.out⟩
            | false =>
              have h300 := (hbig rfl).1
              have HBG := Lib.hid hbig
              clear hbig HBG
              go_wp2_with fail
              refine (lw_write s A n c l q cb HX1.out kb HKB.out w1 hs hn (Nat.le_trans hnc hc) (HV.out.on HB1.out) HTM.out).mono ?_
              rintro e w3 ⟨A3, c3, rfl, h31, h32, hy3, hb3⟩
              have HB3 : Hid (Below w.heap.size w w3) := bel_on HB1.out hb3
              have HY3 := Lib.hid hy3
              clear hy3 hb3
              go_wp2_with fail
              have HBW := Lib.hid HB3.out
              refine (aw_read s hs B m d b q2 [] HX2.out 0 rfl w3 hm hmd hd (HBY.out.on HBW.out)).mono ?_
              rintro e wr2 ⟨A6, c6, rfl, h61, h62, hv6, hb6⟩
              have HBR : Hid (Below w.heap.size w wr2) := bel_on HBW.out hb6
              clear hv6 hb6
              go_wp2
              go_ret
              exact ⟨rfl, HBR.out⟩

set_option maxRecDepth 100000 in
theorem lifted (os : Os) (started : os.Started) (H : Type) (enc : TypeId × Value → H) :
    ReturnsInHanded {} Try.checked os 5 .any (Rows.packBackSpec.pre6 enc Try.prog Try.f5 Rows.packBackRow.domain false) (Rows.packBackSpec.post enc Try.prog Try.f5 false true false false) := by
  refine returnsInHanded_of_change_sized (C := Try.checked) own started (by kernel_rfl) Try.func5
    (ChangeSpec.witness6 (enc := enc) (C := Try.checked) false ⟨#[], #[.string ByteArray.empty, .slice none 0 0, .slice none 0 0], []⟩ 8 (by kernel_rfl) (by kernel_rfl) (by kernel_rfl) (by kernel_rfl)) ?_
  intro W base args ds gs before hval0 hW _ hsz0 _
  have hsz : (DataW.weightsEach Try.prog (Try.f5.params.toList ++ Rows.packBackSpec.plain.varTypes Try.prog) (ds ++ gs)).all (· ≤ reachBytes) = true := hsz0
  have hval : ∀ (j : Nat) t v, Try.f5.params[j]? = some t → args[j]? = some v → Value.okWide Try.prog W .any base t v := hval0
  have hW' := hW
  obtain ⟨p, q, hA0, hV, rfl, hfz, hnd⟩ := hW
  have hA : DataW.TrodAll enc Try.prog W 0 (fun _ => true) true Try.f5.params.toList args.toList ds p := hA0
  rw [Try.params5] at hA hval hsz
  obtain ⟨v0, vs0, d0, ds0, p0, q0, hargs, rfl, rfl, h0, r0⟩ := trodAll_cons hA
  obtain ⟨v1, vs1, d1, ds1, p1, q1, rfl, rfl, rfl, h1, r1⟩ := trodAll_cons r0
  obtain ⟨v2, vs2, d2, ds2, p2, q2, rfl, rfl, rfl, h2, r2⟩ := trodAll_cons r1
  obtain ⟨rfl, rfl, rfl⟩ := trodAll_nil r2
  obtain rfl : args = #[v0, v1, v2] := by cases args; simp_all
  obtain ⟨rfl, rfl⟩ := trodVars_none hV
  obtain ⟨a0, rfl, rfl, rfl, w0⟩ := open_string Try.underlying9 (hval 0 9 v0 rfl rfl) h0
  obtain ⟨a1, len1, cap1, rfl⟩ := okWide_slice Try.underlying22 (hval 1 22 v1 rfl rfl)
  have k1 := h1
  have lt1 : ∀ x ∈ p1, x.block < W.heap.size := by obtain ⟨m, hm⟩ := k1; exact DataW.trod_lt m _ _ _ hm
  obtain ⟨l1, hl1, hlc1, hcm1, hv1, _, hw1⟩ := open_vals h1
  have hs1 : ∀ v ∈ l1, v.2.size ≤ 140737488355328 := fun v hv => by
    have := List.all_eq_true.1 hsz _ (DataW.weights_mem_each (j := 1) (t := 22) (d := d1) rfl rfl v.2.size (hw1 v hv))
    have h2 : v.2.size ≤ reachBytes := by simpa using this
    have h3 := reachBytes_lt
    omega
  obtain ⟨a2, len2, cap2, rfl⟩ := okWide_slice Try.underlying25 (hval 2 25 v2 rfl rfl)
  have k2 := h2
  have lt2 : ∀ x ∈ p2, x.block < W.heap.size := by obtain ⟨m, hm⟩ := k2; exact DataW.trod_lt m _ _ _ hm
  obtain ⟨l2, hl2, hlc2, hcm2, hv2⟩ := open_bytes h2
  clear hA0 hval0
  refine (walk a0 w0 a1 len1 cap1 l1 hl1 hlc1 hcm1 hv1 hs1 a2 len2 cap2 l2 hl2 hlc2 hcm2 hv2).mono fun e W' ⟨he, bel⟩ => ?_
  subst he
  exact ⟨_, rfl, _, _, _, [], _, [], hW', trodAll_mk1 (shut_bool Try.underlying4 _), (trodAll_cons_mk (shut_string Try.underlying9 w0) (trodAll_cons_mk (Below.trod laidOut (by kernel_rfl) (of_decide_eq_true (by kernel_rfl)) k1 bel lt1) (trodAll_cons_mk (Below.trod laidOut (by kernel_rfl) (of_decide_eq_true (by kernel_rfl)) k2 bel lt2) trodAll_mk0))), rfl, bel.frame _, fun h => by cases h⟩

theorem over : Rows.packBackRow.holds Try.pinned (OpenSpec.ofChange Rows.packBackSpec) :=
  OpenClaim.holds_of_wide 5 Try.f5 rfl rfl rfl rfl rfl rfl rfl ⟨rfl, rfl, rfl, rfl, rfl⟩ rfl rfl rfl rfl rfl (by kernel_rfl) Try.func5 (by kernel_rfl)
    (of_decide_eq_true (by kernel_rfl)) (by unfold Func.isWrapper; first | (rw [if_pos (by decide +kernel)]; kernel_rfl) | (rw [if_neg (by decide +kernel)]; exact ⟨rfl, rfl⟩))
    (fun os started H enc _ => lifted os started H enc)

theorem proved : Rows.PackBackSaid := over
end Go.Proofs.Ythncabfeieombaa.packBack
