/- Every call of the law on bytes of values that end too early, and on those with a byte more, answers true: any form, values, place and byte. No conditions. -/
import Derived.Test.YthncabfeieombaaRows
import Derived.Test.YthncabfeieombaaPackHeld
import Derived.WalkKit
import Derived.ProofKit
import Derived.OpenShut
import Derived.ShutString
import Derived.ChangeOld
import Derived.Below
import Derived.SizedLaws
namespace Go.Proofs.Ythncabfeieombaa.packCut
open Go.ChangeShapes Go.WideShapes Go.ChangeAt Go.RowKit
open Go.ChangeMaps (open_string shut_string)
set_option linter.unusedVariables false

theorem own : ownKnob Try.prog.godebug = none := by kernel_rfl
theorem laidOut : laidOutB Try.prog = true := by kernel_rfl

theorem bel_drew {w W : World} (h : Below w.heap.size w W) (m : Nat) : Below w.heap.size w (W.drewN m) := ⟨h.os, h.tape, h.output, h.size, h.block⟩
theorem bel_drew1 {w W : World} (h : Below w.heap.size w W) : Below w.heap.size w W.drew := ⟨h.os, h.tape, h.output, h.size, h.block⟩

theorem vcs_take (l : List Pk.V) : ∀ k, vcs (l.take k) = (vcs l).take (k * 2) := by
  induction l with
  | nil => intro k; simp [vcs]
  | cons v l ih =>
    intro k
    cases k with
    | zero => simp [vcs]
    | succ k =>
      have := ih k
      unfold vcs at this ⊢
      rw [List.take_succ_cons, List.flatMap_cons, List.flatMap_cons, this, show (k + 1) * 2 = k * 2 + 2 by omega]
      simp [vc]

theorem cells_front2 {w : World} {B : Nat} {A : Option Addr} {l : List Pk.V} (h : ValsIn w B A l) (k : Nat) : ValsIn w B A (l.take k) := by
  unfold ValsIn at h ⊢
  rw [vcs_take]
  exact h.take _

theorem last_plus (s : ByteArray) (h : Pk.often (bs s) = true) : ∀ hl : s.size - 1 < s.size, ((s[s.size - 1]'hl).toNat : Int) = 43 := by
  intro hl
  unfold Pk.often at h
  rw [List.getLast?_eq_getElem?, bs_length, bs_get s _ hl] at h
  have : s[s.size - 1]'hl = 43 := by simpa using h
  rw [this]
  rfl

theorem last_plus2 (s : ByteArray) (h : Pk.often (bs s) = true) : ∀ hl : ((s.size : Int) - 1).toNat < s.size, ((s[((s.size : Int) - 1).toNat]'hl).toNat : Int) = 43 := by
  have e : ((s.size : Int) - 1).toNat = s.size - 1 := by omega
  intro hl
  have := last_plus s h (by omega)
  simpa [e] using this

theorem wrap_size (s : ByteArray) (h0 : 0 < s.size) (h : s.size ≤ 9223372036854775807) : IntKind.i64.wrap ((s.size : Int) - 1) = (s.size : Int) - 1 := by
  have h1 : ((s.size : Int) - 1) % 2 ^ 64 = (s.size : Int) - 1 := Int.emod_eq_of_lt (by omega) (by omega)
  unfold IntKind.wrap
  simp only [IntKind.bits, IntKind.signed, h1]
  simp
  omega

theorem index_last (s : ByteArray) (h : Pk.often (bs s) = true) (w : World) : (Instr.index 9 (.string s) (.int .i64 ((s.size : Int) - 1))).run Try.prog w = .ok (.int .u8 43) w := by
  have h0 := size_of_often h
  rw [run_index_string (P := Try.prog) w 9 s .i64 _ Try.underlying9, dif_pos ⟨by omega, by omega⟩]
  have := last_plus2 s h (by omega)
  rw [this]

theorem own_empty (w : World) : (w.alloc (.cells #[] 5)).ownsRow w.heap.size 5 1 (.slice (some ⟨w.heap.size, 0, none⟩) 0 0) 0 [] :=
  ⟨rfl, .inr ⟨w.heap.size, 0, #[], rfl, Nat.le_refl _, heap_alloc_new w _, Nat.le_refl _, by decide, rfl, rfl⟩⟩

theorem src_at {w : World} {ad : Addr} {b : Pk.Bs} (h : BytesIn w w.heap.size (some ad) b) (o : Obj) : ∀ j u, (b.map bv)[j]? = some u → (w.alloc o).cell? (ad.add j) = some u := by
  intro j u hu
  obtain ⟨ad', e, hb, hc⟩ := h j u hu
  obtain rfl := Option.some.inj e
  rw [World.cell?_alloc_lt _ _ _ (by rw [block_add]; exact hb)]
  exact hc

set_option maxHeartbeats 16000000 in
set_option maxRecDepth 100000 in
theorem walk {w : World} (s : ByteArray) (hs : s.size ≤ maxLen) (A : Option Addr) (n c : Nat) (l : List Pk.V) (hn : l.length = n) (hnc : n ≤ c) (hc : c ≤ maxLen) (hv : ValsIn w w.heap.size A l) (ht : ∀ v ∈ l, v.2.size ≤ 140737488355328)
    (at_ : Int) (hat : (Lit.int .i64 at_).wf = true) (x : Int) (hx : (Lit.int .u8 x).wf = true) :
    Calls Try.prog 6 #[.string s, .slice A n c, .int .i64 at_, .int .u8 x] w fun e w' => e = .returned (.bool true) ∧ Below w.heap.size w w' := by
  have HV := Lib.hid hv
  have HT := Lib.hid ht
  have HTM : Hid (∀ v ∈ l, v.2.size ≤ maxLen) := fun v hv => by have := ht v hv; unfold maxLen; omega
  clear hv ht
  have hx2 : 0 ≤ x ∧ x ≤ 255 := by simpa [Lit.wf, IntKind.min, IntKind.max, IntKind.bits, IntKind.signed] using hx
  have ha2 : -9223372036854775808 ≤ at_ ∧ at_ ≤ 9223372036854775807 := by simpa [Lit.wf, IntKind.min, IntKind.max, IntKind.bits, IntKind.signed] using hat
  obtain ⟨y, hy⟩ : ∃ y : UInt8, x = (y.toNat : Int) := ⟨UInt8.ofNat x.toNat, by rw [Pk.toNat_ofNat (by omega)]; omega⟩
  subst hy
  clear hx hat hx2
  have hn63 : n ≤ 9223372036854775807 := by have := Nat.le_trans hnc hc; unfold maxLen at this; omega
  cases hx1 : Pk.wres (bs s) l with
  | mk q cb =>
    obtain ⟨kb, hkb⟩ : ∃ k, cb.length = k := ⟨_, rfl⟩
    have HKB := Lib.hid hkb
    have HX1 := Lib.hid hx1
    by_cases hq : q = 0
    · subst hq
      have hkb63 : kb ≤ 300000 := by
        have h1 := (Pk.wres_ok hx1)
        have h2 := enc_len _ l 0 h1.2.2.1
        rw [← hkb, h1.2.2.2.2]
        have := h1.2.2.2.1
        omega
      clear hx1 hkb
      by_cases ha0 : at_ < 0
      · have d1 : decide (at_ < 0) = true := decide_eq_true ha0
        go_enter Try.func6, Try.ntmps6
        go_wp2_with fail
        refine (awake_any w).mono ?_
        rintro e w1 ⟨rfl, hb1⟩
        have HB1 := Lib.hid hb1
        clear hb1
        go_wp2_with fail
        refine (lw_write s A n c l 0 cb HX1.out kb HKB.out w1 hs hn (Nat.le_trans hnc hc) (HV.out.on HB1.out) HTM.out).mono ?_
        rintro e w3 ⟨A3, c3, rfl, h31, h32, hy3, hb3⟩
        have HB3 : Hid (Below w.heap.size w w3) := bel_on HB1.out hb3
        have HY3 := Lib.hid hy3
        clear hy3 hb3
        go_wp2_with fail
        refine (large_any s A n c l w3 hs hn (Nat.le_trans hnc hc) (HV.out.on HB3.out) HT.out).mono ?_
        rintro e w2 ⟨big, rfl, rfl, hbig⟩
        cases big with
        | true =>
          go_wp2
          go_ret
          exact ⟨rfl, HB3.out⟩
        | false =>
          clear hbig
          go_wp2
          go_ret
          exact ⟨rfl, HB3.out⟩
      · have d1 : decide (at_ < 0) = false := decide_eq_false ha0
        obtain ⟨a, rfl⟩ := Int.eq_ofNat_of_zero_le (show 0 ≤ at_ by omega)
        clear ha0
        by_cases hak : kb ≤ a
        · have d2 : decide ((kb : Int) ≤ (a : Int)) = true := decide_eq_true (by omega)
          go_enter Try.func6, Try.ntmps6
          go_wp2_with fail
          refine (awake_any w).mono ?_
          rintro e w1 ⟨rfl, hb1⟩
          have HB1 := Lib.hid hb1
          clear hb1
          go_wp2_with fail
          refine (lw_write s A n c l 0 cb HX1.out kb HKB.out w1 hs hn (Nat.le_trans hnc hc) (HV.out.on HB1.out) HTM.out).mono ?_
          rintro e w3 ⟨A3, c3, rfl, h31, h32, hy3, hb3⟩
          have HB3 : Hid (Below w.heap.size w w3) := bel_on HB1.out hb3
          have HY3 := Lib.hid hy3
          clear hy3 hb3
          go_wp2_with fail
          refine (large_any s A n c l w3 hs hn (Nat.le_trans hnc hc) (HV.out.on HB3.out) HT.out).mono ?_
          rintro e w2 ⟨big, rfl, rfl, hbig⟩
          cases big with
          | true =>
            go_wp2
            go_ret
            exact ⟨rfl, HB3.out⟩
          | false =>
            clear hbig
            go_wp2
            go_ret
            exact ⟨rfl, HB3.out⟩
        · have d2 : decide ((kb : Int) ≤ (a : Int)) = false := decide_eq_false (by omega)
          by_cases hk2 : 20000 ≤ kb
          · have d3 : decide ((20000 : Int) ≤ (kb : Int)) = true := decide_eq_true (by omega)
            go_enter Try.func6, Try.ntmps6
            go_wp2_with fail
            refine (awake_any w).mono ?_
            rintro e w1 ⟨rfl, hb1⟩
            have HB1 := Lib.hid hb1
            clear hb1
            go_wp2_with fail
            refine (lw_write s A n c l 0 cb HX1.out kb HKB.out w1 hs hn (Nat.le_trans hnc hc) (HV.out.on HB1.out) HTM.out).mono ?_
            rintro e w3 ⟨A3, c3, rfl, h31, h32, hy3, hb3⟩
            have HB3 : Hid (Below w.heap.size w w3) := bel_on HB1.out hb3
            have HY3 := Lib.hid hy3
            clear hy3 hb3
            go_wp2_with fail
            refine (large_any s A n c l w3 hs hn (Nat.le_trans hnc hc) (HV.out.on HB3.out) HT.out).mono ?_
            rintro e w2 ⟨big, rfl, rfl, hbig⟩
            cases big with
            | true =>
              go_wp2
              go_ret
              exact ⟨rfl, HB3.out⟩
            | false =>
              clear hbig
              go_wp2
              go_ret
              exact ⟨rfl, HB3.out⟩
          · have d3 : decide ((20000 : Int) ≤ (kb : Int)) = false := decide_eq_false (by omega)
            have HLA : Hid ((cb.take a).length = a) := by unfold Hid; rw [List.length_take, HKB.out]; omega
            have HLY : Hid ((cb ++ [y]).length = kb + 1) := by unfold Hid; rw [List.length_append, HKB.out]; rfl
            cases hx2 : Pk.rres (bs s) (cb.take a) with
            | mk q2 m2 =>
              by_cases hq2 : q2 = 0
              · subst hq2
                obtain ⟨hw2, _⟩ := Pk.rres_sound _ _ _ hx2
                have hw1 := HX1.out
                rw [← List.take_append_drop a cb] at hw1
                obtain ⟨ho2, hl2, htk2⟩ := Pk.front_of hw1 hw2 (by rw [Ne, ← List.length_eq_zero_iff, List.length_drop, HKB.out]; omega)
                have HX2 := Lib.hid hx2
                obtain ⟨k2, hk2⟩ : ∃ k, m2.length = k := ⟨_, rfl⟩
                have HK2 := Lib.hid hk2
                rw [hk2] at htk2 hl2
                rw [hn] at hl2
                have HVM : Hid (ValsIn w w.heap.size A m2) := by
                  unfold Hid
                  rw [← htk2]
                  exact cells_front2 HV.out k2
                have d5 : decide ((n : Int) ≤ (k2 : Int)) = false := decide_eq_false (by omega)
                have d5' : decide (n ≤ k2) = false := decide_eq_false (by omega)
                have d5'' : ¬ n ≤ k2 := by omega
                have hsl := index_last s ho2
                have hsz := size_of_often ho2
                have hss : s.size ≤ 9223372036854775807 := by unfold maxLen at hs; omega
                have is0 := wrap_size s hsz hss
                have is1 : (0 : Int) ≤ (s.size : Int) - 1 := by omega
                have is2 : (s.size : Int) - 1 < (s.size : Int) := by omega
                clear hx2 hw2 hk2 htk2 ho2 hw1
                cases hx3 : Pk.rres (bs s) (cb ++ [y]) with
                | mk q3 m3 =>
                  by_cases hq3 : q3 = 0
                  · subst hq3
                    obtain ⟨hw3, _⟩ := Pk.rres_sound _ _ _ hx3
                    obtain ⟨ho3, hl3, htk3⟩ := Pk.front_of hw3 HX1.out (by simp)
                    have HX3 := Lib.hid hx3
                    obtain ⟨k3, hk3⟩ : ∃ k, m3.length = k := ⟨_, rfl⟩
                    have HK3 := Lib.hid hk3
                    rw [hn] at htk3
                    rw [hn, hk3] at hl3
                    have HT3 := Lib.hid htk3
                    have d6 : decide ((n : Int) < (k3 : Int)) = true := decide_eq_true (by omega)
                    clear hx3 hw3 hk3 htk3 ho3
                    go_enter Try.func6, Try.ntmps6
                    go_wp2_with fail
                    refine (awake_any w).mono ?_
                    rintro e w1 ⟨rfl, hb1⟩
                    have HB1 := Lib.hid hb1
                    clear hb1
                    go_wp2_with fail
                    refine (lw_write s A n c l 0 cb HX1.out kb HKB.out w1 hs hn (Nat.le_trans hnc hc) (HV.out.on HB1.out) HTM.out).mono ?_
                    rintro e w3 ⟨A3, c3, rfl, h31, h32, hy3, hb3⟩
                    have HB3 : Hid (Below w.heap.size w w3) := bel_on HB1.out hb3
                    have HY3 := Lib.hid hy3
                    clear hy3 hb3
                    go_wp2_with fail
                    refine (large_any s A n c l w3 hs hn (Nat.le_trans hnc hc) (HV.out.on HB3.out) HT.out).mono ?_
                    rintro e w2 ⟨big, rfl, rfl, hbig⟩
                    cases big with
                    | true =>
                      go_wp2
                      go_ret
                      exact ⟨rfl, HB3.out⟩
                    | false =>
                      have h300 := (hbig rfl).1
                      have h40 := (hbig rfl).2
                      clear hbig
                      have HNE : Hid (∃ z, cb[0]? = some z) := some_at cb 0 (by rw [HKB.out]; omega)
                      obtain ⟨z0, hz0'⟩ := HNE.out
                      obtain ⟨ad, hA3, _, _⟩ := BytesIn.at_ HY3.out hz0'
                      subst hA3
                      clear hz0' HNE
                      have j0 : (0 : Int) ≤ (a : Int) := by omega
                      have j9 : (a : Int) ≤ (c3 : Int) := by omega
                      have HYF : Hid (BytesIn w3 w3.heap.size (some ad) (cb.take a)) := HY3.out.front a
                      go_wp2_with fail
                      refine (aw_read s hs (some ad) a c3 (cb.take a) 0 m2 HX2.out k2 HK2.out w3 HLA.out (by omega) h32 HYF.out).mono ?_
                      rintro e w4 ⟨A4, c4, rfl, h41, h42, hv4, hb4⟩
                      have HB4 : Hid (Below w.heap.size w w4) := bel_on HB3.out hb4
                      have HV4 := Lib.hid hv4
                      have HY4 := Lib.hid (CellsIn.on HY3.out hb4)
                      clear hv4 hb4 HY3
                      go_wp2_with fail
                      have HC5 := Lib.hid (lw_own A4 k2 c4 m2 w4.drew HK2.out (by omega) HV4.out)
                      have HF5 : Hid (∀ w5 A5, ValsIn w5 w5.heap.size A5 m2 → Below w4.drew.heap.size w4.drew w5 → Below w.heap.size w w5 ∧ BytesIn w5 w5.heap.size (some ad) cb ∧ ∀ w6, Below w5.heap.size w5 w6 → Below w.heap.size w w6 ∧ ValsIn w6 w6.heap.size A5 m2 ∧ BytesIn w6 w6.heap.size (some ad) cb) := fun w5 A5 h1 h2 =>
                        have h3 := bel_on (bel_drew1 HB4.out) h2
                        have h4 : BytesIn w5 w5.heap.size (some ad) cb := CellsIn.on (w := w4.drew) HY4.out h2
                        ⟨h3, h4, fun w6 h5 => ⟨bel_on h3 h5, CellsIn.on h1 h5, CellsIn.on h4 h5⟩⟩
                      have HC6 : Hid (∀ w5, Below w.heap.size w w5 → Calls Try.prog 11 #[.slice A k2 c] w5 fun e w' => ∃ A' c', e = .returned (.slice A' k2 c') ∧ k2 ≤ c' ∧ c' ≤ maxLen ∧ ValsIn w' w'.heap.size A' m2 ∧ Below w5.heap.size w5 w') := fun w5 h => lw_own A k2 c m2 w5 HK2.out (by omega) (HVM.out.on h)
                      have HC7 : Hid (∀ w6 A5 A6 c5 c6, ValsIn w6 w6.heap.size A5 m2 → ValsIn w6 w6.heap.size A6 m2 → Calls Try.prog 17 #[.slice A5 k2 c5, .slice A6 k2 c6] w6 fun e w' => e = .returned (.bool true) ∧ Below w6.heap.size w6 w') := fun w6 A5 A6 c5 c6 h1 h2 => by
                        have := lw_same A5 A6 k2 k2 c5 c6 m2 m2 w6 HK2.out HK2.out (Nat.le_trans h41 h42) (Nat.le_trans h41 h42) h1 h2
                        rw [decide_eq_true (rfl : m2 = m2)] at this
                        exact this
                      have j1 : (0 : Int) ≤ (k2 : Int) := by omega
                      have j2 : (k2 : Int) ≤ (c : Int) := by omega
                      go_region_held3 (fun _ => True) (trivial)
                        (first
                          | (go_at_call 11; ((with_reducible refine HC5.out.mono ?_)); rintro e w5 ⟨A5, c5, rfl, h51, h52, hv5, hb5⟩; have HF6 := Lib.hid (HF5.out w5 A5 hv5 hb5); clear hv5 hb5)
                          | (go_at_call 11; ((with_reducible refine (HC6.out w5 HF6.out.1).mono ?_)); rintro e w6 ⟨A6, c6, rfl, h61, h62, hv6, hb6⟩; have HF7 := Lib.hid (HF6.out.2.2 w6 hb6); have HV6 := Lib.hid hv6; clear hv6 hb6)
                          | (go_at_call 17; ((with_reducible refine (HC7.out w6 A5 A6 c5 c6 HF7.out.2.1 HV6.out).mono ?_)); rintro e w9 ⟨rfl, hb9⟩; have HBW := Lib.hid (bel_on HF7.out.1 hb9); have HYW := Lib.hid (CellsIn.on HF7.out.2.2 hb9); clear hb9))
                      have hk0 : kb + 1 ≤ 30000 := by omega
                      have HG9 := Lib.hid HBW.out.size
                      have B1 : Hid ((w9.alloc (.cells #[] 5)).ownsRow w9.heap.size 5 1 (.slice (some ⟨w9.heap.size, 0, none⟩) 0 0) 0 []) := own_empty w9
                      have B2 : Hid (∀ j u, (cb.map bv)[j]? = some u → (w9.alloc (.cells #[] 5)).cell? (ad.add j) = some u) := src_at HYW.out (.cells #[] 5)
                      have B3 : Hid (∀ u ∈ cb.map bv, u.oneCell' = true) := fun u hu => by obtain ⟨z, _, rfl⟩ := List.mem_map.1 hu; rfl
                      have B4 : Hid (0 + kb ≤ maxLen ∧ (0 + kb) * 1 ≤ 140737488355328 ∧ kb + 1 ≤ maxLen ∧ (kb + 1) * 1 ≤ 140737488355328) := by unfold Hid maxLen; omega
                      have B5 : Hid (w9.heap.size ≤ (w9.alloc (.cells #[] 5)).heap.size) := by unfold Hid; simp
                      have B6 : Hid ((cb.map bv).length = kb * 1) := by unfold Hid; rw [List.length_map, HKB.out]; omega
                      have B7 : Hid (∀ w5, (w9.alloc (.cells #[] 5)).grownBy w5 (some w9.heap.size) → Below w9.heap.size w9 w5) := fun w5 hg => ((Below.refl _ _).alloc (Nat.le_refl _) _).grown hg (by simp) (fun k e => by obtain rfl := Option.some.inj e; exact Nat.le_refl _)
                      have B8 : Hid (∀ (w5 w6 : World) (v5 v6 : Value), Below w9.heap.size w9 w5 → w5.ownsRow w9.heap.size 5 1 v5 kb (cb.map bv) → (w5.alloc (.cells #[.int .u8 (y.toNat : Int)] 5)).grownBy w6 v5.ownBlock → w6.ownsRow w9.heap.size 5 1 v6 (kb + 1) (cb.map bv ++ [.int .u8 (y.toNat : Int)]) → Below w9.heap.size w9 w6 ∧ w6.ownsRow w9.heap.size 5 1 v6 (kb + 1) ((cb ++ [y]).map bv)) := fun w5 w6 v5 v6 h1 h2 h3 h4 =>
                        ⟨(h1.alloc h1.size _).grown h3 (by have := h1.size; simp; omega) (fun k e => (h2.lt k e).1), by rw [List.map_append]; exact h4⟩
                      have B9 : Hid (∀ w5 : World, w9.heap.size ≤ w5.heap.size → w9.heap.size ≤ (w5.alloc (.cells #[.int .u8 (y.toNat : Int)] 5)).heap.size) := fun w5 h => by simp; omega
                      have B10 : Hid (∀ u ∈ [Value.int .u8 (y.toNat : Int)], u.oneCell' = true) := fun u hu => by simp at hu; subst hu; rfl
                      obtain ⟨i0, hi0, hz0, hz1, hz2⟩ := info_parts3 byte_info
                      have HI := Lib.hid hi0
                      have HZ0 := Lib.hid hz0
                      have HZ1 := Lib.hid hz1
                      have HZ2 := Lib.hid hz2
                      clear hi0 hz0 hz1 hz2
                      go_wp2_with (first
                        | (at_builtin; refine wpList_append_own_at (w9.alloc (.cells #[] 5)) rfl (.tmp 83) (.tmp 84) 25 rfl w9.heap.size 5 i0 (.int .u8 0) 1 1 Try.underlying25 HI.out HZ0.out HZ1.out HZ2.out rfl Nat.one_pos (.slice (some ⟨w9.heap.size, 0, none⟩) 0 0) 0 [] rfl B1.out ad kb c3 (cb.map bv) rfl B6.out B2.out B3.out B4.out.1 B4.out.2.1 B5.out ?_; intro v5 w5 ho5 hg5 _ _; rw [Nat.zero_add, List.nil_append] at ho5; have HO5 := Lib.hid ho5; have HB5 := Lib.hid (B7.out w5 hg5); clear ho5 hg5)
                        | (at_builtin; refine wpList_append_own_at (w5.alloc (.cells #[.int .u8 (y.toNat : Int)] 5)) rfl (.tmp 85) (.tmp 87) 25 rfl w9.heap.size 5 i0 (.int .u8 0) 1 1 Try.underlying25 HI.out HZ0.out HZ1.out HZ2.out rfl Nat.one_pos v5 kb (cb.map bv) rfl (HO5.out.alloc (.cells #[.int .u8 (y.toNat : Int)] 5)) ⟨w5.heap.size, 0, none⟩ 1 1 [.int .u8 (y.toNat : Int)] rfl rfl (cell_one_new w5 (.int .u8 (y.toNat : Int)) 5) B10.out B4.out.2.2.1 B4.out.2.2.2 (B9.out w5 HB5.out.size) ?_; intro v6 w6 ho6 hg6 _ _; have HQ6 := Lib.hid (B8.out w5 w6 v5 v6 HB5.out HO5.out hg6 ho6); clear ho6 hg6))
                      have HBX : Hid (Below w.heap.size w w6) := bel_on HBW.out HQ6.out.1
                      obtain ⟨A7, c7, rfl, h71, h72, hy7, _⟩ := ownsRow_slice HQ6.out.2
                      have HY7 : Hid (BytesIn w6 w6.heap.size A7 (cb ++ [y])) := hy7
                      clear hy7 HQ6
                      refine (aw_read s hs A7 (kb + 1) c7 (cb ++ [y]) 0 m3 HX3.out k3 HK3.out w6 HLY.out h71 h72 HY7.out).mono ?_
                      rintro e w7 ⟨A8, c8, rfl, h81, h82, hv8, hb8⟩
                      have HBY : Hid (Below w.heap.size w w7) := bel_on HBX.out hb8
                      have HV8 := Lib.hid (cells_front2 hv8 n)
                      rw [HT3.out] at HV8
                      clear hv8 hb8
                      have j3 : (0 : Int) ≤ (n : Int) := by omega
                      have j4 : (n : Int) ≤ (c8 : Int) := by omega
                      go_wp2_with fail
                      refine (lw_own A8 n c8 l w7 hn (by omega) HV8.out).mono ?_
                      rintro e wa ⟨A9, c9, rfl, h91, h92, hv9, hb9⟩
                      have HBA : Hid (Below w.heap.size w wa) := bel_on HBY.out hb9
                      have HV9 := Lib.hid hv9
                      clear hv9 hb9
                      go_wp2_with fail
                      refine (lw_own A n c l wa hn (by omega) (HV.out.on HBA.out)).mono ?_
                      rintro e wb ⟨Aa, ca, rfl, ha1, ha2, hva, hba⟩
                      have HBB : Hid (Below w.heap.size w wb) := bel_on HBA.out hba
                      have HVA := Lib.hid hva
                      have HV9' := Lib.hid (CellsIn.on HV9.out hba)
                      clear hva hba
                      go_wp2_with fail
                      refine (lw_same A9 Aa n n c9 ca l l wb hn hn (Nat.le_trans hnc hc) (Nat.le_trans hnc hc) HV9'.out HVA.out).mono ?_
                      rintro e wc ⟨rfl, hbc⟩
                      have HBC : Hid (Below w.heap.size w wc) := bel_on HBB.out hbc
                      clear hbc
                      rw [decide_eq_true (rfl : l = l)]
                      go_wp2
                      go_ret
                      exact ⟨rfl, HBC.out⟩
                  · have hm3 : m3 = [] := by
                      have := Pk.rres_err (bs s) (cb ++ [y]) (by rw [hx3]; exact hq3)
                      rw [hx3] at this
                      exact this
                    subst hm3
                    have HX3 := Lib.hid hx3
                    have d6 : ((q3 : Int) != 0) = true := bne_iff_ne.2 (by omega)
                    clear hx3 hq3
                    go_enter Try.func6, Try.ntmps6
                    go_wp2_with fail
                    refine (awake_any w).mono ?_
                    rintro e w1 ⟨rfl, hb1⟩
                    have HB1 := Lib.hid hb1
                    clear hb1
                    go_wp2_with fail
                    refine (lw_write s A n c l 0 cb HX1.out kb HKB.out w1 hs hn (Nat.le_trans hnc hc) (HV.out.on HB1.out) HTM.out).mono ?_
                    rintro e w3 ⟨A3, c3, rfl, h31, h32, hy3, hb3⟩
                    have HB3 : Hid (Below w.heap.size w w3) := bel_on HB1.out hb3
                    have HY3 := Lib.hid hy3
                    clear hy3 hb3
                    go_wp2_with fail
                    refine (large_any s A n c l w3 hs hn (Nat.le_trans hnc hc) (HV.out.on HB3.out) HT.out).mono ?_
                    rintro e w2 ⟨big, rfl, rfl, hbig⟩
                    cases big with
                    | true =>
                      go_wp2
                      go_ret
                      exact ⟨rfl, HB3.out⟩
                    | false =>
                      have h300 := (hbig rfl).1
                      have h40 := (hbig rfl).2
                      clear hbig
                      have HNE : Hid (∃ z, cb[0]? = some z) := some_at cb 0 (by rw [HKB.out]; omega)
                      obtain ⟨z0, hz0'⟩ := HNE.out
                      obtain ⟨ad, hA3, _, _⟩ := BytesIn.at_ HY3.out hz0'
                      subst hA3
                      clear hz0' HNE
                      have j0 : (0 : Int) ≤ (a : Int) := by omega
                      have j9 : (a : Int) ≤ (c3 : Int) := by omega
                      have HYF : Hid (BytesIn w3 w3.heap.size (some ad) (cb.take a)) := HY3.out.front a
                      go_wp2_with fail
                      refine (aw_read s hs (some ad) a c3 (cb.take a) 0 m2 HX2.out k2 HK2.out w3 HLA.out (by omega) h32 HYF.out).mono ?_
                      rintro e w4 ⟨A4, c4, rfl, h41, h42, hv4, hb4⟩
                      have HB4 : Hid (Below w.heap.size w w4) := bel_on HB3.out hb4
                      have HV4 := Lib.hid hv4
                      have HY4 := Lib.hid (CellsIn.on HY3.out hb4)
                      clear hv4 hb4 HY3
                      go_wp2_with fail
                      have HC5 := Lib.hid (lw_own A4 k2 c4 m2 w4.drew HK2.out (by omega) HV4.out)
                      have HF5 : Hid (∀ w5 A5, ValsIn w5 w5.heap.size A5 m2 → Below w4.drew.heap.size w4.drew w5 → Below w.heap.size w w5 ∧ BytesIn w5 w5.heap.size (some ad) cb ∧ ∀ w6, Below w5.heap.size w5 w6 → Below w.heap.size w w6 ∧ ValsIn w6 w6.heap.size A5 m2 ∧ BytesIn w6 w6.heap.size (some ad) cb) := fun w5 A5 h1 h2 =>
                        have h3 := bel_on (bel_drew1 HB4.out) h2
                        have h4 : BytesIn w5 w5.heap.size (some ad) cb := CellsIn.on (w := w4.drew) HY4.out h2
                        ⟨h3, h4, fun w6 h5 => ⟨bel_on h3 h5, CellsIn.on h1 h5, CellsIn.on h4 h5⟩⟩
                      have HC6 : Hid (∀ w5, Below w.heap.size w w5 → Calls Try.prog 11 #[.slice A k2 c] w5 fun e w' => ∃ A' c', e = .returned (.slice A' k2 c') ∧ k2 ≤ c' ∧ c' ≤ maxLen ∧ ValsIn w' w'.heap.size A' m2 ∧ Below w5.heap.size w5 w') := fun w5 h => lw_own A k2 c m2 w5 HK2.out (by omega) (HVM.out.on h)
                      have HC7 : Hid (∀ w6 A5 A6 c5 c6, ValsIn w6 w6.heap.size A5 m2 → ValsIn w6 w6.heap.size A6 m2 → Calls Try.prog 17 #[.slice A5 k2 c5, .slice A6 k2 c6] w6 fun e w' => e = .returned (.bool true) ∧ Below w6.heap.size w6 w') := fun w6 A5 A6 c5 c6 h1 h2 => by
                        have := lw_same A5 A6 k2 k2 c5 c6 m2 m2 w6 HK2.out HK2.out (Nat.le_trans h41 h42) (Nat.le_trans h41 h42) h1 h2
                        rw [decide_eq_true (rfl : m2 = m2)] at this
                        exact this
                      have j1 : (0 : Int) ≤ (k2 : Int) := by omega
                      have j2 : (k2 : Int) ≤ (c : Int) := by omega
                      go_region_held3 (fun _ => True) (trivial)
                        (first
                          | (go_at_call 11; ((with_reducible refine HC5.out.mono ?_)); rintro e w5 ⟨A5, c5, rfl, h51, h52, hv5, hb5⟩; have HF6 := Lib.hid (HF5.out w5 A5 hv5 hb5); clear hv5 hb5)
                          | (go_at_call 11; ((with_reducible refine (HC6.out w5 HF6.out.1).mono ?_)); rintro e w6 ⟨A6, c6, rfl, h61, h62, hv6, hb6⟩; have HF7 := Lib.hid (HF6.out.2.2 w6 hb6); have HV6 := Lib.hid hv6; clear hv6 hb6)
                          | (go_at_call 17; ((with_reducible refine (HC7.out w6 A5 A6 c5 c6 HF7.out.2.1 HV6.out).mono ?_)); rintro e w9 ⟨rfl, hb9⟩; have HBW := Lib.hid (bel_on HF7.out.1 hb9); have HYW := Lib.hid (CellsIn.on HF7.out.2.2 hb9); clear hb9))
                      have hk0 : kb + 1 ≤ 30000 := by omega
                      have HG9 := Lib.hid HBW.out.size
                      have B1 : Hid ((w9.alloc (.cells #[] 5)).ownsRow w9.heap.size 5 1 (.slice (some ⟨w9.heap.size, 0, none⟩) 0 0) 0 []) := own_empty w9
                      have B2 : Hid (∀ j u, (cb.map bv)[j]? = some u → (w9.alloc (.cells #[] 5)).cell? (ad.add j) = some u) := src_at HYW.out (.cells #[] 5)
                      have B3 : Hid (∀ u ∈ cb.map bv, u.oneCell' = true) := fun u hu => by obtain ⟨z, _, rfl⟩ := List.mem_map.1 hu; rfl
                      have B4 : Hid (0 + kb ≤ maxLen ∧ (0 + kb) * 1 ≤ 140737488355328 ∧ kb + 1 ≤ maxLen ∧ (kb + 1) * 1 ≤ 140737488355328) := by unfold Hid maxLen; omega
                      have B5 : Hid (w9.heap.size ≤ (w9.alloc (.cells #[] 5)).heap.size) := by unfold Hid; simp
                      have B6 : Hid ((cb.map bv).length = kb * 1) := by unfold Hid; rw [List.length_map, HKB.out]; omega
                      have B7 : Hid (∀ w5, (w9.alloc (.cells #[] 5)).grownBy w5 (some w9.heap.size) → Below w9.heap.size w9 w5) := fun w5 hg => ((Below.refl _ _).alloc (Nat.le_refl _) _).grown hg (by simp) (fun k e => by obtain rfl := Option.some.inj e; exact Nat.le_refl _)
                      have B8 : Hid (∀ (w5 w6 : World) (v5 v6 : Value), Below w9.heap.size w9 w5 → w5.ownsRow w9.heap.size 5 1 v5 kb (cb.map bv) → (w5.alloc (.cells #[.int .u8 (y.toNat : Int)] 5)).grownBy w6 v5.ownBlock → w6.ownsRow w9.heap.size 5 1 v6 (kb + 1) (cb.map bv ++ [.int .u8 (y.toNat : Int)]) → Below w9.heap.size w9 w6 ∧ w6.ownsRow w9.heap.size 5 1 v6 (kb + 1) ((cb ++ [y]).map bv)) := fun w5 w6 v5 v6 h1 h2 h3 h4 =>
                        ⟨(h1.alloc h1.size _).grown h3 (by have := h1.size; simp; omega) (fun k e => (h2.lt k e).1), by rw [List.map_append]; exact h4⟩
                      have B9 : Hid (∀ w5 : World, w9.heap.size ≤ w5.heap.size → w9.heap.size ≤ (w5.alloc (.cells #[.int .u8 (y.toNat : Int)] 5)).heap.size) := fun w5 h => by simp; omega
                      have B10 : Hid (∀ u ∈ [Value.int .u8 (y.toNat : Int)], u.oneCell' = true) := fun u hu => by simp at hu; subst hu; rfl
                      obtain ⟨i0, hi0, hz0, hz1, hz2⟩ := info_parts3 byte_info
                      have HI := Lib.hid hi0
                      have HZ0 := Lib.hid hz0
                      have HZ1 := Lib.hid hz1
                      have HZ2 := Lib.hid hz2
                      clear hi0 hz0 hz1 hz2
                      go_wp2_with (first
                        | (at_builtin; refine wpList_append_own_at (w9.alloc (.cells #[] 5)) rfl (.tmp 83) (.tmp 84) 25 rfl w9.heap.size 5 i0 (.int .u8 0) 1 1 Try.underlying25 HI.out HZ0.out HZ1.out HZ2.out rfl Nat.one_pos (.slice (some ⟨w9.heap.size, 0, none⟩) 0 0) 0 [] rfl B1.out ad kb c3 (cb.map bv) rfl B6.out B2.out B3.out B4.out.1 B4.out.2.1 B5.out ?_; intro v5 w5 ho5 hg5 _ _; rw [Nat.zero_add, List.nil_append] at ho5; have HO5 := Lib.hid ho5; have HB5 := Lib.hid (B7.out w5 hg5); clear ho5 hg5)
                        | (at_builtin; refine wpList_append_own_at (w5.alloc (.cells #[.int .u8 (y.toNat : Int)] 5)) rfl (.tmp 85) (.tmp 87) 25 rfl w9.heap.size 5 i0 (.int .u8 0) 1 1 Try.underlying25 HI.out HZ0.out HZ1.out HZ2.out rfl Nat.one_pos v5 kb (cb.map bv) rfl (HO5.out.alloc (.cells #[.int .u8 (y.toNat : Int)] 5)) ⟨w5.heap.size, 0, none⟩ 1 1 [.int .u8 (y.toNat : Int)] rfl rfl (cell_one_new w5 (.int .u8 (y.toNat : Int)) 5) B10.out B4.out.2.2.1 B4.out.2.2.2 (B9.out w5 HB5.out.size) ?_; intro v6 w6 ho6 hg6 _ _; have HQ6 := Lib.hid (B8.out w5 w6 v5 v6 HB5.out HO5.out hg6 ho6); clear ho6 hg6))
                      have HBX : Hid (Below w.heap.size w w6) := bel_on HBW.out HQ6.out.1
                      obtain ⟨A7, c7, rfl, h71, h72, hy7, _⟩ := ownsRow_slice HQ6.out.2
                      have HY7 : Hid (BytesIn w6 w6.heap.size A7 (cb ++ [y])) := hy7
                      clear hy7 HQ6
                      refine (aw_read s hs A7 (kb + 1) c7 (cb ++ [y]) q3 [] HX3.out 0 rfl w6 HLY.out h71 h72 HY7.out).mono ?_
                      rintro e w7 ⟨A8, c8, rfl, h81, h82, hv8, hb8⟩
                      have HBY : Hid (Below w.heap.size w w7) := bel_on HBX.out hb8
                      clear hv8 hb8
                      go_wp2
                      go_ret
                      exact ⟨rfl, HBY.out⟩
              · have hm2 : m2 = [] := by
                  have := Pk.rres_err (bs s) (cb.take a) (by rw [hx2]; exact hq2)
                  rw [hx2] at this
                  exact this
                subst hm2
                have HX2 := Lib.hid hx2
                have d5 : ((q2 : Int) == 0) = false := beq_eq_false_iff_ne.2 (by omega)
                clear hx2 hq2
                cases hx3 : Pk.rres (bs s) (cb ++ [y]) with
                | mk q3 m3 =>
                  by_cases hq3 : q3 = 0
                  · subst hq3
                    obtain ⟨hw3, _⟩ := Pk.rres_sound _ _ _ hx3
                    obtain ⟨ho3, hl3, htk3⟩ := Pk.front_of hw3 HX1.out (by simp)
                    have HX3 := Lib.hid hx3
                    obtain ⟨k3, hk3⟩ : ∃ k, m3.length = k := ⟨_, rfl⟩
                    have HK3 := Lib.hid hk3
                    rw [hn] at htk3
                    rw [hn, hk3] at hl3
                    have HT3 := Lib.hid htk3
                    have d6 : decide ((n : Int) < (k3 : Int)) = true := decide_eq_true (by omega)
                    have hsl := index_last s ho3
                    have hsz := size_of_often ho3
                    have hss : s.size ≤ 9223372036854775807 := by unfold maxLen at hs; omega
                    have is0 := wrap_size s hsz hss
                    have is1 : (0 : Int) ≤ (s.size : Int) - 1 := by omega
                    have is2 : (s.size : Int) - 1 < (s.size : Int) := by omega
                    clear hx3 hw3 hk3 htk3 ho3
                    go_enter Try.func6, Try.ntmps6
                    go_wp2_with fail
                    refine (awake_any w).mono ?_
                    rintro e w1 ⟨rfl, hb1⟩
                    have HB1 := Lib.hid hb1
                    clear hb1
                    go_wp2_with fail
                    refine (lw_write s A n c l 0 cb HX1.out kb HKB.out w1 hs hn (Nat.le_trans hnc hc) (HV.out.on HB1.out) HTM.out).mono ?_
                    rintro e w3 ⟨A3, c3, rfl, h31, h32, hy3, hb3⟩
                    have HB3 : Hid (Below w.heap.size w w3) := bel_on HB1.out hb3
                    have HY3 := Lib.hid hy3
                    clear hy3 hb3
                    go_wp2_with fail
                    refine (large_any s A n c l w3 hs hn (Nat.le_trans hnc hc) (HV.out.on HB3.out) HT.out).mono ?_
                    rintro e w2 ⟨big, rfl, rfl, hbig⟩
                    cases big with
                    | true =>
                      go_wp2
                      go_ret
                      exact ⟨rfl, HB3.out⟩
                    | false =>
                      have h300 := (hbig rfl).1
                      have h40 := (hbig rfl).2
                      clear hbig
                      have HNE : Hid (∃ z, cb[0]? = some z) := some_at cb 0 (by rw [HKB.out]; omega)
                      obtain ⟨z0, hz0'⟩ := HNE.out
                      obtain ⟨ad, hA3, _, _⟩ := BytesIn.at_ HY3.out hz0'
                      subst hA3
                      clear hz0' HNE
                      have j0 : (0 : Int) ≤ (a : Int) := by omega
                      have j9 : (a : Int) ≤ (c3 : Int) := by omega
                      have HYF : Hid (BytesIn w3 w3.heap.size (some ad) (cb.take a)) := HY3.out.front a
                      go_wp2_with fail
                      refine (aw_read s hs (some ad) a c3 (cb.take a) q2 [] HX2.out 0 rfl w3 HLA.out (by omega) h32 HYF.out).mono ?_
                      rintro e w4 ⟨A4, c4, rfl, h41, h42, hv4, hb4⟩
                      have HB4 : Hid (Below w.heap.size w w4) := bel_on HB3.out hb4
                      have HV4 := Lib.hid hv4
                      have HY4 := Lib.hid (CellsIn.on HY3.out hb4)
                      clear hv4 hb4 HY3
                      go_wp2_with fail
                      go_quiet (fail)
                      have HBW : Hid (Below w.heap.size w (w4.drewN nq)) := bel_drew HB4.out nq
                      have HYW : Hid (BytesIn (w4.drewN nq) (w4.drewN nq).heap.size (some ad) cb) := HY4.out
                      generalize w4.drewN nq = w9 at *
                      have hk0 : kb + 1 ≤ 30000 := by omega
                      have HG9 := Lib.hid HBW.out.size
                      have B1 : Hid ((w9.alloc (.cells #[] 5)).ownsRow w9.heap.size 5 1 (.slice (some ⟨w9.heap.size, 0, none⟩) 0 0) 0 []) := own_empty w9
                      have B2 : Hid (∀ j u, (cb.map bv)[j]? = some u → (w9.alloc (.cells #[] 5)).cell? (ad.add j) = some u) := src_at HYW.out (.cells #[] 5)
                      have B3 : Hid (∀ u ∈ cb.map bv, u.oneCell' = true) := fun u hu => by obtain ⟨z, _, rfl⟩ := List.mem_map.1 hu; rfl
                      have B4 : Hid (0 + kb ≤ maxLen ∧ (0 + kb) * 1 ≤ 140737488355328 ∧ kb + 1 ≤ maxLen ∧ (kb + 1) * 1 ≤ 140737488355328) := by unfold Hid maxLen; omega
                      have B5 : Hid (w9.heap.size ≤ (w9.alloc (.cells #[] 5)).heap.size) := by unfold Hid; simp
                      have B6 : Hid ((cb.map bv).length = kb * 1) := by unfold Hid; rw [List.length_map, HKB.out]; omega
                      have B7 : Hid (∀ w5, (w9.alloc (.cells #[] 5)).grownBy w5 (some w9.heap.size) → Below w9.heap.size w9 w5) := fun w5 hg => ((Below.refl _ _).alloc (Nat.le_refl _) _).grown hg (by simp) (fun k e => by obtain rfl := Option.some.inj e; exact Nat.le_refl _)
                      have B8 : Hid (∀ (w5 w6 : World) (v5 v6 : Value), Below w9.heap.size w9 w5 → w5.ownsRow w9.heap.size 5 1 v5 kb (cb.map bv) → (w5.alloc (.cells #[.int .u8 (y.toNat : Int)] 5)).grownBy w6 v5.ownBlock → w6.ownsRow w9.heap.size 5 1 v6 (kb + 1) (cb.map bv ++ [.int .u8 (y.toNat : Int)]) → Below w9.heap.size w9 w6 ∧ w6.ownsRow w9.heap.size 5 1 v6 (kb + 1) ((cb ++ [y]).map bv)) := fun w5 w6 v5 v6 h1 h2 h3 h4 =>
                        ⟨(h1.alloc h1.size _).grown h3 (by have := h1.size; simp; omega) (fun k e => (h2.lt k e).1), by rw [List.map_append]; exact h4⟩
                      have B9 : Hid (∀ w5 : World, w9.heap.size ≤ w5.heap.size → w9.heap.size ≤ (w5.alloc (.cells #[.int .u8 (y.toNat : Int)] 5)).heap.size) := fun w5 h => by simp; omega
                      have B10 : Hid (∀ u ∈ [Value.int .u8 (y.toNat : Int)], u.oneCell' = true) := fun u hu => by simp at hu; subst hu; rfl
                      obtain ⟨i0, hi0, hz0, hz1, hz2⟩ := info_parts3 byte_info
                      have HI := Lib.hid hi0
                      have HZ0 := Lib.hid hz0
                      have HZ1 := Lib.hid hz1
                      have HZ2 := Lib.hid hz2
                      clear hi0 hz0 hz1 hz2
                      go_wp2_with (first
                        | (at_builtin; refine wpList_append_own_at (w9.alloc (.cells #[] 5)) rfl (.tmp 83) (.tmp 84) 25 rfl w9.heap.size 5 i0 (.int .u8 0) 1 1 Try.underlying25 HI.out HZ0.out HZ1.out HZ2.out rfl Nat.one_pos (.slice (some ⟨w9.heap.size, 0, none⟩) 0 0) 0 [] rfl B1.out ad kb c3 (cb.map bv) rfl B6.out B2.out B3.out B4.out.1 B4.out.2.1 B5.out ?_; intro v5 w5 ho5 hg5 _ _; rw [Nat.zero_add, List.nil_append] at ho5; have HO5 := Lib.hid ho5; have HB5 := Lib.hid (B7.out w5 hg5); clear ho5 hg5)
                        | (at_builtin; refine wpList_append_own_at (w5.alloc (.cells #[.int .u8 (y.toNat : Int)] 5)) rfl (.tmp 85) (.tmp 87) 25 rfl w9.heap.size 5 i0 (.int .u8 0) 1 1 Try.underlying25 HI.out HZ0.out HZ1.out HZ2.out rfl Nat.one_pos v5 kb (cb.map bv) rfl (HO5.out.alloc (.cells #[.int .u8 (y.toNat : Int)] 5)) ⟨w5.heap.size, 0, none⟩ 1 1 [.int .u8 (y.toNat : Int)] rfl rfl (cell_one_new w5 (.int .u8 (y.toNat : Int)) 5) B10.out B4.out.2.2.1 B4.out.2.2.2 (B9.out w5 HB5.out.size) ?_; intro v6 w6 ho6 hg6 _ _; have HQ6 := Lib.hid (B8.out w5 w6 v5 v6 HB5.out HO5.out hg6 ho6); clear ho6 hg6))
                      have HBX : Hid (Below w.heap.size w w6) := bel_on HBW.out HQ6.out.1
                      obtain ⟨A7, c7, rfl, h71, h72, hy7, _⟩ := ownsRow_slice HQ6.out.2
                      have HY7 : Hid (BytesIn w6 w6.heap.size A7 (cb ++ [y])) := hy7
                      clear hy7 HQ6
                      refine (aw_read s hs A7 (kb + 1) c7 (cb ++ [y]) 0 m3 HX3.out k3 HK3.out w6 HLY.out h71 h72 HY7.out).mono ?_
                      rintro e w7 ⟨A8, c8, rfl, h81, h82, hv8, hb8⟩
                      have HBY : Hid (Below w.heap.size w w7) := bel_on HBX.out hb8
                      have HV8 := Lib.hid (cells_front2 hv8 n)
                      rw [HT3.out] at HV8
                      clear hv8 hb8
                      have j3 : (0 : Int) ≤ (n : Int) := by omega
                      have j4 : (n : Int) ≤ (c8 : Int) := by omega
                      go_wp2_with fail
                      refine (lw_own A8 n c8 l w7 hn (by omega) HV8.out).mono ?_
                      rintro e wa ⟨A9, c9, rfl, h91, h92, hv9, hb9⟩
                      have HBA : Hid (Below w.heap.size w wa) := bel_on HBY.out hb9
                      have HV9 := Lib.hid hv9
                      clear hv9 hb9
                      go_wp2_with fail
                      refine (lw_own A n c l wa hn (by omega) (HV.out.on HBA.out)).mono ?_
                      rintro e wb ⟨Aa, ca, rfl, ha1, ha2, hva, hba⟩
                      have HBB : Hid (Below w.heap.size w wb) := bel_on HBA.out hba
                      have HVA := Lib.hid hva
                      have HV9' := Lib.hid (CellsIn.on HV9.out hba)
                      clear hva hba
                      go_wp2_with fail
                      refine (lw_same A9 Aa n n c9 ca l l wb hn hn (Nat.le_trans hnc hc) (Nat.le_trans hnc hc) HV9'.out HVA.out).mono ?_
                      rintro e wc ⟨rfl, hbc⟩
                      have HBC : Hid (Below w.heap.size w wc) := bel_on HBB.out hbc
                      clear hbc
                      rw [decide_eq_true (rfl : l = l)]
                      go_wp2
                      go_ret
                      exact ⟨rfl, HBC.out⟩
                  · have hm3 : m3 = [] := by
                      have := Pk.rres_err (bs s) (cb ++ [y]) (by rw [hx3]; exact hq3)
                      rw [hx3] at this
                      exact this
                    subst hm3
                    have HX3 := Lib.hid hx3
                    have d6 : ((q3 : Int) != 0) = true := bne_iff_ne.2 (by omega)
                    clear hx3 hq3
                    go_enter Try.func6, Try.ntmps6
                    go_wp2_with fail
                    refine (awake_any w).mono ?_
                    rintro e w1 ⟨rfl, hb1⟩
                    have HB1 := Lib.hid hb1
                    clear hb1
                    go_wp2_with fail
                    refine (lw_write s A n c l 0 cb HX1.out kb HKB.out w1 hs hn (Nat.le_trans hnc hc) (HV.out.on HB1.out) HTM.out).mono ?_
                    rintro e w3 ⟨A3, c3, rfl, h31, h32, hy3, hb3⟩
                    have HB3 : Hid (Below w.heap.size w w3) := bel_on HB1.out hb3
                    have HY3 := Lib.hid hy3
                    clear hy3 hb3
                    go_wp2_with fail
                    refine (large_any s A n c l w3 hs hn (Nat.le_trans hnc hc) (HV.out.on HB3.out) HT.out).mono ?_
                    rintro e w2 ⟨big, rfl, rfl, hbig⟩
                    cases big with
                    | true =>
                      go_wp2
                      go_ret
                      exact ⟨rfl, HB3.out⟩
                    | false =>
                      have h300 := (hbig rfl).1
                      have h40 := (hbig rfl).2
                      clear hbig
                      have HNE : Hid (∃ z, cb[0]? = some z) := some_at cb 0 (by rw [HKB.out]; omega)
                      obtain ⟨z0, hz0'⟩ := HNE.out
                      obtain ⟨ad, hA3, _, _⟩ := BytesIn.at_ HY3.out hz0'
                      subst hA3
                      clear hz0' HNE
                      have j0 : (0 : Int) ≤ (a : Int) := by omega
                      have j9 : (a : Int) ≤ (c3 : Int) := by omega
                      have HYF : Hid (BytesIn w3 w3.heap.size (some ad) (cb.take a)) := HY3.out.front a
                      go_wp2_with fail
                      refine (aw_read s hs (some ad) a c3 (cb.take a) q2 [] HX2.out 0 rfl w3 HLA.out (by omega) h32 HYF.out).mono ?_
                      rintro e w4 ⟨A4, c4, rfl, h41, h42, hv4, hb4⟩
                      have HB4 : Hid (Below w.heap.size w w4) := bel_on HB3.out hb4
                      have HV4 := Lib.hid hv4
                      have HY4 := Lib.hid (CellsIn.on HY3.out hb4)
                      clear hv4 hb4 HY3
                      go_wp2_with fail
                      go_quiet (fail)
                      have HBW : Hid (Below w.heap.size w (w4.drewN nq)) := bel_drew HB4.out nq
                      have HYW : Hid (BytesIn (w4.drewN nq) (w4.drewN nq).heap.size (some ad) cb) := HY4.out
                      generalize w4.drewN nq = w9 at *
                      have hk0 : kb + 1 ≤ 30000 := by omega
                      have HG9 := Lib.hid HBW.out.size
                      have B1 : Hid ((w9.alloc (.cells #[] 5)).ownsRow w9.heap.size 5 1 (.slice (some ⟨w9.heap.size, 0, none⟩) 0 0) 0 []) := own_empty w9
                      have B2 : Hid (∀ j u, (cb.map bv)[j]? = some u → (w9.alloc (.cells #[] 5)).cell? (ad.add j) = some u) := src_at HYW.out (.cells #[] 5)
                      have B3 : Hid (∀ u ∈ cb.map bv, u.oneCell' = true) := fun u hu => by obtain ⟨z, _, rfl⟩ := List.mem_map.1 hu; rfl
                      have B4 : Hid (0 + kb ≤ maxLen ∧ (0 + kb) * 1 ≤ 140737488355328 ∧ kb + 1 ≤ maxLen ∧ (kb + 1) * 1 ≤ 140737488355328) := by unfold Hid maxLen; omega
                      have B5 : Hid (w9.heap.size ≤ (w9.alloc (.cells #[] 5)).heap.size) := by unfold Hid; simp
                      have B6 : Hid ((cb.map bv).length = kb * 1) := by unfold Hid; rw [List.length_map, HKB.out]; omega
                      have B7 : Hid (∀ w5, (w9.alloc (.cells #[] 5)).grownBy w5 (some w9.heap.size) → Below w9.heap.size w9 w5) := fun w5 hg => ((Below.refl _ _).alloc (Nat.le_refl _) _).grown hg (by simp) (fun k e => by obtain rfl := Option.some.inj e; exact Nat.le_refl _)
                      have B8 : Hid (∀ (w5 w6 : World) (v5 v6 : Value), Below w9.heap.size w9 w5 → w5.ownsRow w9.heap.size 5 1 v5 kb (cb.map bv) → (w5.alloc (.cells #[.int .u8 (y.toNat : Int)] 5)).grownBy w6 v5.ownBlock → w6.ownsRow w9.heap.size 5 1 v6 (kb + 1) (cb.map bv ++ [.int .u8 (y.toNat : Int)]) → Below w9.heap.size w9 w6 ∧ w6.ownsRow w9.heap.size 5 1 v6 (kb + 1) ((cb ++ [y]).map bv)) := fun w5 w6 v5 v6 h1 h2 h3 h4 =>
                        ⟨(h1.alloc h1.size _).grown h3 (by have := h1.size; simp; omega) (fun k e => (h2.lt k e).1), by rw [List.map_append]; exact h4⟩
                      have B9 : Hid (∀ w5 : World, w9.heap.size ≤ w5.heap.size → w9.heap.size ≤ (w5.alloc (.cells #[.int .u8 (y.toNat : Int)] 5)).heap.size) := fun w5 h => by simp; omega
                      have B10 : Hid (∀ u ∈ [Value.int .u8 (y.toNat : Int)], u.oneCell' = true) := fun u hu => by simp at hu; subst hu; rfl
                      obtain ⟨i0, hi0, hz0, hz1, hz2⟩ := info_parts3 byte_info
                      have HI := Lib.hid hi0
                      have HZ0 := Lib.hid hz0
                      have HZ1 := Lib.hid hz1
                      have HZ2 := Lib.hid hz2
                      clear hi0 hz0 hz1 hz2
                      go_wp2_with (first
                        | (at_builtin; refine wpList_append_own_at (w9.alloc (.cells #[] 5)) rfl (.tmp 83) (.tmp 84) 25 rfl w9.heap.size 5 i0 (.int .u8 0) 1 1 Try.underlying25 HI.out HZ0.out HZ1.out HZ2.out rfl Nat.one_pos (.slice (some ⟨w9.heap.size, 0, none⟩) 0 0) 0 [] rfl B1.out ad kb c3 (cb.map bv) rfl B6.out B2.out B3.out B4.out.1 B4.out.2.1 B5.out ?_; intro v5 w5 ho5 hg5 _ _; rw [Nat.zero_add, List.nil_append] at ho5; have HO5 := Lib.hid ho5; have HB5 := Lib.hid (B7.out w5 hg5); clear ho5 hg5)
                        | (at_builtin; refine wpList_append_own_at (w5.alloc (.cells #[.int .u8 (y.toNat : Int)] 5)) rfl (.tmp 85) (.tmp 87) 25 rfl w9.heap.size 5 i0 (.int .u8 0) 1 1 Try.underlying25 HI.out HZ0.out HZ1.out HZ2.out rfl Nat.one_pos v5 kb (cb.map bv) rfl (HO5.out.alloc (.cells #[.int .u8 (y.toNat : Int)] 5)) ⟨w5.heap.size, 0, none⟩ 1 1 [.int .u8 (y.toNat : Int)] rfl rfl (cell_one_new w5 (.int .u8 (y.toNat : Int)) 5) B10.out B4.out.2.2.1 B4.out.2.2.2 (B9.out w5 HB5.out.size) ?_; intro v6 w6 ho6 hg6 _ _; have HQ6 := Lib.hid (B8.out w5 w6 v5 v6 HB5.out HO5.out hg6 ho6); clear ho6 hg6))
                      have HBX : Hid (Below w.heap.size w w6) := bel_on HBW.out HQ6.out.1
                      obtain ⟨A7, c7, rfl, h71, h72, hy7, _⟩ := ownsRow_slice HQ6.out.2
                      have HY7 : Hid (BytesIn w6 w6.heap.size A7 (cb ++ [y])) := hy7
                      clear hy7 HQ6
                      refine (aw_read s hs A7 (kb + 1) c7 (cb ++ [y]) q3 [] HX3.out 0 rfl w6 HLY.out h71 h72 HY7.out).mono ?_
                      rintro e w7 ⟨A8, c8, rfl, h81, h82, hv8, hb8⟩
                      have HBY : Hid (Below w.heap.size w w7) := bel_on HBX.out hb8
                      clear hv8 hb8
                      go_wp2
                      go_ret
                      exact ⟨rfl, HBY.out⟩
    · have d1 : ((q : Int) != 0) = true := bne_iff_ne.2 (by omega)
      clear hx1 hkb hq
      go_enter Try.func6, Try.ntmps6
      go_wp2_with fail
      refine (awake_any w).mono ?_
      rintro e w1 ⟨rfl, hb1⟩
      have HB1 := Lib.hid hb1
      clear hb1
      go_wp2_with fail
      refine (lw_write s A n c l q cb HX1.out kb HKB.out w1 hs hn (Nat.le_trans hnc hc) (HV.out.on HB1.out) HTM.out).mono ?_
      rintro e w3 ⟨A3, c3, rfl, h31, h32, hy3, hb3⟩
      have HB3 : Hid (Below w.heap.size w w3) := bel_on HB1.out hb3
      have HY3 := Lib.hid hy3
      clear hy3 hb3
      go_wp2_with fail
      refine (large_any s A n c l w3 hs hn (Nat.le_trans hnc hc) (HV.out.on HB3.out) HT.out).mono ?_
      rintro e w2 ⟨big, rfl, rfl, hbig⟩
      cases big with
      | true =>
        go_wp2
        go_ret
        exact ⟨rfl, HB3.out⟩
      | false =>
        clear hbig
        go_wp2
        go_ret
        exact ⟨rfl, HB3.out⟩

set_option maxRecDepth 100000 in
theorem lifted (os : Os) (started : os.Started) (H : Type) (enc : TypeId × Value → H) :
    ReturnsInHanded {} Try.checked os 6 .any (Rows.packCutSpec.pre6 enc Try.prog Try.f6 Rows.packCutRow.domain false) (Rows.packCutSpec.post enc Try.prog Try.f6 false true false false) := by
  refine returnsInHanded_of_change_sized (C := Try.checked) own started (by kernel_rfl) Try.func6
    (ChangeSpec.witness6 (enc := enc) (C := Try.checked) false ⟨#[], #[.string ByteArray.empty, .slice none 0 0, .int .i64 0, .int .u8 0], []⟩ 8 (by kernel_rfl) (by kernel_rfl) (by kernel_rfl) (by kernel_rfl)) ?_
  intro W base args ds gs before hval0 hW _ hsz0 _
  have hsz : (DataW.weightsEach Try.prog (Try.f6.params.toList ++ Rows.packCutSpec.plain.varTypes Try.prog) (ds ++ gs)).all (· ≤ reachBytes) = true := hsz0
  have hval : ∀ (j : Nat) t v, Try.f6.params[j]? = some t → args[j]? = some v → Value.okWide Try.prog W .any base t v := hval0
  have hW' := hW
  obtain ⟨p, q, hA0, hV, rfl, hfz, hnd⟩ := hW
  have hA : DataW.TrodAll enc Try.prog W 0 (fun _ => true) true Try.f6.params.toList args.toList ds p := hA0
  rw [Try.params6] at hA hval hsz
  obtain ⟨v0, vs0, d0, ds0, p0, q0, hargs, rfl, rfl, h0, r0⟩ := trodAll_cons hA
  obtain ⟨v1, vs1, d1, ds1, p1, q1, rfl, rfl, rfl, h1, r1⟩ := trodAll_cons r0
  obtain ⟨v2, vs2, d2, ds2, p2, q2, rfl, rfl, rfl, h2, r2⟩ := trodAll_cons r1
  obtain ⟨v3, vs3, d3, ds3, p3, q3, rfl, rfl, rfl, h3, r3⟩ := trodAll_cons r2
  obtain ⟨rfl, rfl, rfl⟩ := trodAll_nil r3
  obtain rfl : args = #[v0, v1, v2, v3] := by cases args; simp_all
  obtain ⟨rfl, rfl⟩ := trodVars_none hV
  obtain ⟨a0, rfl, rfl, rfl, w0⟩ := open_string Try.underlying9 (hval 0 9 v0 rfl rfl) h0
  obtain ⟨a1, len1, cap1, rfl⟩ := okWide_slice Try.underlying22 (hval 1 22 v1 rfl rfl)
  have k1 := h1
  have lt1 : ∀ x ∈ p1, x.block < W.heap.size := by obtain ⟨m, hm⟩ := k1; exact DataW.trod_lt m _ _ _ hm
  obtain ⟨l1, hl1, hlc1, hcm1, hv1, _, hw1⟩ := open_vals h1
  have hs1 : ∀ v ∈ l1, v.2.size ≤ 140737488355328 := fun v hv => by
    have := List.all_eq_true.1 hsz _ (DataW.weights_mem_each (j := 1) (t := 22) (d := d1) rfl rfl v.2.size (hw1 v hv))
    have h2 : v.2.size ≤ reachBytes := by simpa using this
    have h3 := reachBytes_lt
    omega
  obtain ⟨a2, rfl, rfl, rfl, w2⟩ := open_int Try.underlying3 (hval 2 3 v2 rfl rfl) h2
  obtain ⟨a3, rfl, rfl, rfl, w3⟩ := open_int Try.underlying5 (hval 3 5 v3 rfl rfl) h3
  clear hA0 hval0
  refine (walk a0 w0 a1 len1 cap1 l1 hl1 hlc1 hcm1 hv1 hs1 a2 w2 a3 w3).mono fun e W' ⟨he, bel⟩ => ?_
  subst he
  exact ⟨_, rfl, _, _, _, [], _, [], hW', trodAll_mk1 (shut_bool Try.underlying4 _), (trodAll_cons_mk (shut_string Try.underlying9 w0) (trodAll_cons_mk (Below.trod laidOut (by kernel_rfl) (of_decide_eq_true (by kernel_rfl)) k1 bel lt1) (trodAll_cons_mk (shut_int Try.underlying3 w2) (trodAll_cons_mk (shut_int Try.underlying5 w3) trodAll_mk0)))), rfl, bel.frame _, fun h => by cases h⟩

theorem over : Rows.packCutRow.holds Try.pinned (OpenSpec.ofChange Rows.packCutSpec) :=
  OpenClaim.holds_of_wide 6 Try.f6 rfl rfl rfl rfl rfl rfl rfl ⟨rfl, rfl, rfl, rfl, rfl⟩ rfl rfl rfl rfl rfl (by kernel_rfl) Try.func6 (by kernel_rfl)
    (of_decide_eq_true (by kernel_rfl)) (by unfold Func.isWrapper; first | (rw [if_pos (by decide +kernel)]; kernel_rfl) | (rw [if_neg (by decide +kernel)]; exact ⟨rfl, rfl⟩))
    (fun os started H enc _ => lifted os started H enc)

theorem proved : Rows.PackCutSaid := over
end Go.Proofs.Ythncabfeieombaa.packCut
