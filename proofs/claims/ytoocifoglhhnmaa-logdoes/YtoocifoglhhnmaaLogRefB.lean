/- The document's log: Laid. -/
import Derived.Test.YtoocifoglhhnmaaLogRefA
namespace Go.Proofs.Ytoocifoglhhnmaa
open Go.RowKit
set_option linter.unusedVariables false

theorem rsum5_any (F : Nat → Prop) (A : Option Addr) (m c : Nat) (l : Dk.Bs) (w : World) (hm : l.length = m) (hl : m ≤ 100000) (hb : BytesIn F w A l) :
    Calls Try.prog 56 #[.slice A m c] w fun e w' => e = .returned (.int .u32 (Lg.crc l : Nat)) ∧ w = w' := by
  have := Cc.rsum_any A c (Lg.nats l) w (by unfold Lg.nats maxLen; rw [List.length_map]; omega) (bytesAt_of hb)
  rw [show (Lg.nats l).length = m by unfold Lg.nats; rw [List.length_map]; exact hm] at this
  exact this

/-- a row that is ours, and nothing old has turned -/
structure RowO (w W : World) (v : Value) (l : Dk.Bs) : Prop where
  own : OwnB W w.heap.size v l
  bel : Below w.heap.size w W
theorem OwnB.below {W W' : World} {base : Nat} {v : Value} {l : Dk.Bs} (h : OwnB W base v l) (hb : Below W.heap.size W W') : OwnB W' base v l := own_keep h (Kept.of_below (F := No) hb) (fun _ _ => id)
theorem RowO.below {w W W' : World} {v : Value} {l : Dk.Bs} (h : RowO w W v l) (hb : Below W.heap.size W W') : RowO w W' v l := ⟨h.own.below hb, h.bel.trans (hb.mono h.bel.size)⟩
def RowR (w : World) (l : Dk.Bs) (m : Nat) (v' : Value) (w' : World) : Prop := ∃ A c, v' = .slice A m c ∧ Hid (RowO w w' (.slice A m c) l)
theorem RowO.app {w W : World} {v : Value} {l : Dk.Bs} (h : RowO w W v l) (F : Nat → Prop) (A : Option Addr) (m c : Nat) (b : Dk.Bs) (hm : b.length = m) (hby : BytesIn F W A b) (k : Nat) (hk : l.length + m = k) (hs : k ≤ 100000) :
    ∃ v' w', (Builtin.append_ #[38, 38] 38 #[v, .slice A m c]).run Try.prog W = .ok v' w' ∧ RowR w (l ++ b) k v' w' := by
  obtain ⟨v', w', h1, A', c', e, h2⟩ := ownb_app h.own h.bel.size F A m c b hm hby (by omega)
  subst hk
  exact ⟨v', w', h1, A', c', e, ⟨by rw [← e]; exact h2.out.1, h.bel.trans h2.out.2⟩⟩

theorem be2 (m : Nat) : Lg.be 2 m = [UInt8.ofNat (m / 256), UInt8.ofNat m] := by simp [Lg.be]

set_option maxHeartbeats 2000000 in
set_option maxRecDepth 100000 in
theorem rlaid_any (A : Option Addr) (m c : Nat) (b : Dk.Bs) (g p : Nat) (w : World) (hm : b.length = m) (hm1 : m ≤ 200) (hmc : m ≤ c) (hc : c ≤ maxLen) (hg : g ≤ 4294967295) (hp : p ≤ 4294967295) (hb : BytesIn No w A b) :
    Calls Try.prog 28 #[.slice A m c, .int .i64 g, .int .i64 p] w fun e w' => ∃ A' c', e = .returned (.slice A' (32 * Lg.secs m) c') ∧ OwnB w' w.heap.size (.slice A' (32 * Lg.secs m) c') (Lg.recd b g p) ∧ Below w.heap.size w w' := by
  have HM := Lib.hid hm
  have HB := Lib.hid hb
  clear hm hb
  have HZ : Hid (OwnB (w.alloc (.cells #[.int .u8 ((m : Int) / 256), .int .u8 (m : Int)] 5)) w.heap.size (.slice (some ⟨w.heap.size, 0, none⟩) 2 2) (Lg.be 2 m)) := by
    have e0 : Value.int .u8 ((m : Int) / 256) = bv (UInt8.ofNat (m / 256)) := by rw [← bv_of]; congr 1; omega
    have e1 : Value.int .u8 (m : Int) = bv (UInt8.ofNat m) := by rw [← bv_of]; congr 1; omega
    unfold Hid OwnB
    rw [be2, e0, e1]
    exact ⟨by simp, .inr ⟨w.heap.size, 2, _, rfl, Nat.le_refl _, heap_alloc_new w _, by simp, by decide, by simp, by simp⟩⟩
  obtain ⟨W0, hW0⟩ : ∃ W0, w.alloc (.cells #[.int .u8 ((m : Int) / 256), .int .u8 (m : Int)] 5) = W0 := ⟨_, rfl⟩
  have HR0 : Hid (RowO w W0 (.slice (some ⟨w.heap.size, 0, none⟩) 2 2) (Lg.be 2 m)) := by rw [← hW0]; exact ⟨HZ.out, (Below.refl _ _).alloc (Nat.le_refl _) _⟩
  have HBY : Hid (∀ W, Below w.heap.size w W → BytesIn No W A b) := fun W hb => CellsIn.keep HB.out (Kept.of_below hb)
  have HW0 := Lib.hid hW0
  clear HZ hW0 HB
  obtain ⟨n17, hn17⟩ : ∃ n17, min m 17 = n17 := ⟨_, rfl⟩
  have hn17a : n17 ≤ m := by omega
  have hn17b : n17 ≤ 17 := by omega
  have hsf := slice_front A m c n17 hmc hn17a
  obtain ⟨A9, c9, hsb, hsbb⟩ := slice_back A m c n17 hmc hn17a
  have HSB := Lib.hid hsbb
  have HN17 := Lib.hid hn17
  have hmin : min (m : Int) 17 = (n17 : Int) := by omega
  clear hsbb hn17
  go_enter Try.func28, Try.ntmps28
  go_wp2_with fail
  rw [HW0.out]
  clear HW0
  refine (rfour_any g hg W0).mono ?_
  rintro e w1 ⟨rfl, h1, hb1⟩
  have HA1 : Hid (∃ v' w', (Builtin.append_ #[38, 38] 38 #[.slice (some ⟨w.heap.size, 0, none⟩) 2 2, .slice (some ⟨W0.heap.size, 0, none⟩) 4 4]).run Try.prog w1 = .ok v' w' ∧ RowR w (Lg.be 2 m ++ Lg.be 4 g) 6 v' w') := (HR0.out.below hb1).app No _ 4 4 (Lg.be 4 g) (Lg.be_len _ _) (h1.bytes id) 6 (by rw [Lg.be_len]) (by omega)
  clear h1 hb1 HR0
  go_wp2_with (at_builtin; refine wpList_append_any rfl (.tmp 18) (.tmp 20) 38 38 rfl _ _ rfl rfl _ HA1.out ?_; intro v2 w2 hap; obtain ⟨A2, c2, rfl, HAP⟩ := hap)
  clear HA1
  refine (rfour_any p hp w2).mono ?_
  rintro e w3 ⟨rfl, h3, hb3⟩
  have HA3 : Hid (∃ v' w', (Builtin.append_ #[38, 38] 38 #[.slice A2 6 c2, .slice (some ⟨w2.heap.size, 0, none⟩) 4 4]).run Try.prog w3 = .ok v' w' ∧ RowR w (Lg.top m g p) 10 v' w') := (HAP.out.below hb3).app No _ 4 4 (Lg.be 4 p) (Lg.be_len _ _) (h3.bytes id) 10 (by rw [List.length_append, Lg.be_len, Lg.be_len]) (by omega)
  clear h3 hb3 HAP
  have HTL : Hid ((Lg.top m g p).length = 10) := Lg.top_len _ _ _
  have HF4 : Hid (∀ w4 A4 c4, RowO w w4 (.slice A4 10 c4) (Lg.top m g p) → ∃ v' w', (Builtin.append_ #[38, 38] 38 #[.slice (some ⟨w4.heap.size, 0, none⟩) 0 0, .slice A4 10 c4]).run Try.prog (w4.alloc (.cells #[] 5)) = .ok v' w' ∧ RowR w4 (Lg.top m g p) 10 v' w') := fun w4 A4 c4 h => by
    have h' := h.below (below_alloc w4 (.cells #[] 5))
    obtain ⟨A', c', e, _, _, hby⟩ := h'.own.slice
    injection e with e1 e2 e3
    subst e1
    have ho : RowO w4 (w4.alloc (.cells #[] 5)) (.slice (some ⟨w4.heap.size, 0, none⟩) 0 0) [] := ⟨own_empty w4 w4.heap.size (Nat.le_refl _) 5 1, below_alloc _ _⟩
    exact ho.app No A4 10 c4 (Lg.top m g p) HTL.out (hby No (fun _ h => h.elim)) 10 rfl (by omega)
  have HF5 : Hid (∀ w4 w5 A4 c4 A5 c5, RowO w w4 (.slice A4 10 c4) (Lg.top m g p) → RowO w4 w5 (.slice A5 10 c5) (Lg.top m g p) → ∃ v' w', (Builtin.append_ #[38, 38] 38 #[.slice A5 10 c5, .slice A m c]).run Try.prog w5 = .ok v' w' ∧ RowR w4 (Lg.top m g p ++ b) (10 + m) v' w') := fun w4 w5 A4 c4 A5 c5 h h5 =>
    h5.app No A m c b HM.out (HBY.out w5 (h.bel.trans (h5.bel.mono h.bel.size))) (10 + m) (by rw [HTL.out]) (by omega)
  go_wp2_with (at_builtin; first
    | (refine wpList_append_any rfl (.tmp 27) (.tmp 28) 38 38 rfl _ _ rfl rfl _ (HF5.out w4 w5 A4 c4 A5 c5 HT.out HT5.out) ?_; intro v6 w6 hap; obtain ⟨A6, c6, rfl, HT6⟩ := hap)
    | (refine wpList_append_any rfl (.tmp 25) (.tmp 26) 38 38 rfl _ _ rfl rfl _ (HF4.out w4 A4 c4 HT.out) ?_; intro v5 w5 hap; obtain ⟨A5, c5, rfl, HT5⟩ := hap)
    | (refine wpList_append_any rfl (.tmp 21) (.tmp 23) 38 38 rfl _ _ rfl rfl _ HA3.out ?_; intro v4 w4 hap; obtain ⟨A4, c4, rfl, HT⟩ := hap))
  have HSL := Lib.hid HT6.out.own.slice
  have HTT : Hid (RowO w w6 (.slice A4 10 c4) (Lg.top m g p)) := HT.out.below HT6.out.bel
  obtain ⟨X, hX⟩ : ∃ X, Lg.crc (Lg.top m g p ++ b) = X := ⟨_, rfl⟩
  have hXl : X ≤ 4294967295 := by rw [← hX]; have := Lg.crc_lt (Lg.top m g p ++ b); omega
  have HSUM : Hid (Calls Try.prog 56 #[.slice A6 (10 + m) c6] w6 fun e w' => e = .returned (.int .u32 (X : Nat)) ∧ w6 = w') := by
    obtain ⟨A', c', e, _, _, hby⟩ := HSL.out
    injection e with e1 e2 e3
    subst e1
    have := rsum5_any No A6 (10 + m) c6 (Lg.top m g p ++ b) w6 (by rw [List.length_append, HTL.out, HM.out]) (by omega) (hby No (fun _ h => h.elim))
    rw [hX] at this
    exact this
  have HX := Lib.hid hX
  clear hX HSL HT HT5 HT6 HF4 HF5 HA3
  refine HSUM.out.mono ?_
  rintro e w' ⟨rfl, rfl⟩
  clear HSUM
  by_cases h17 : m ≤ 17
  · have hi17 : (m : Int) ≤ 17 := by omega
    obtain rfl : m = n17 := by have := HN17.out; omega
    have hwX : IntKind.i64.wrap (X : Int) = (X : Int) := by rw [IntKind.wrap_i64]; omega
    have HG4 := Lib.hid (rfour_any X hXl w6.drew)
    have HG5 : Hid (∀ w7, Blk w7 w6.heap.size (Lg.be 4 X) → Below w6.drew.heap.size w6.drew w7 → ∃ v' w', (Builtin.append_ #[38, 38] 38 #[.slice A4 10 c4, .slice (some ⟨w6.heap.size, 0, none⟩) 4 4]).run Try.prog w7 = .ok v' w' ∧ RowR w (Lg.top m g p ++ Lg.be 4 X) 14 v' w') := fun w7 h7 hb7 =>
      (HTT.out.below (W' := w7) ⟨hb7.os, hb7.tape, hb7.output, hb7.size, hb7.block⟩).app No _ 4 4 (Lg.be 4 X) (Lg.be_len _ _) (h7.bytes id) 14 (by rw [HTL.out]) (by omega)
    have HTK : Hid ((b.take 17).length = m) := by unfold Hid; rw [List.length_take, HM.out]; omega
    have HTE : Hid (b.take m = b.take 17) := by
      unfold Hid
      first
        | rfl
        | (rw [List.take_eq_take_iff, HM.out]; omega)
    have HG6 : Hid (∀ w8 A8 c8, RowO w w8 (.slice A8 14 c8) (Lg.top m g p ++ Lg.be 4 X) → ∃ v' w', (Builtin.append_ #[38, 38] 38 #[.slice A8 14 c8, .slice A m c]).run Try.prog w8 = .ok v' w' ∧ RowR w (Lg.mid b g p) (14 + m) v' w') := fun w8 A8 c8 h8 => by
      have hby : BytesIn No w8 A (b.take m) := by
        have := CellsIn.take (HBY.out w8 h8.bel) m
        rw [← List.map_take] at this
        exact this
      rw [HTE.out] at hby
      have := h8.app No A m c (b.take 17) HTK.out hby (14 + m) (by rw [List.length_append, HTL.out, Lg.be_len]) (by omega)
      rw [show Lg.top m g p ++ Lg.be 4 X ++ b.take 17 = Lg.mid b g p by unfold Lg.mid; rw [HM.out, HX.out]] at this
      exact this
    have HML : Hid ((Lg.mid b g p).length = 14 + m) := by unfold Hid Lg.mid; rw [List.length_append, List.length_append, HM.out, HTL.out, Lg.be_len, HTK.out]
    have HG7 : Hid (∀ wx Ax cx, RowO w wx (.slice Ax (14 + m) cx) (Lg.mid b g p) → Calls Try.prog 57 #[.slice Ax (14 + m) cx] wx fun e wb => ∃ Ab cb, e = .returned (.slice Ab 32 cb) ∧ Hid (RowO w wb (.slice Ab 32 cb) (Lg.mid b g p ++ Lg.zeros (17 - m) ++ [165]))) := fun wx Ax cx hx => by
      obtain ⟨A', c', e, _, _, hby⟩ := hx.own.slice
      injection e with e1 e2 e3
      subst e1
      refine (rfilled_any Ax (14 + m) cx (Lg.mid b g p) wx HML.out (by omega) (hby No (fun _ h => h.elim))).mono fun e wb ⟨Ab, cb, e1, e2, e3⟩ => ⟨Ab, cb, e1, ?_⟩
      rw [show 31 - (14 + m) = 17 - m by omega] at e2
      exact ⟨e2.mono hx.bel.size, hx.bel.trans (e3.mono hx.bel.size)⟩
    clear HTT
    go_wp2_with fail
    go_region_held3 (fun _ => True) (exact trivial)
      (first
        | (go_at_call 57; refine (HG7.out w9 Ax cx HR9.out).mono ?_; rintro e wb ⟨Ab, cb, rfl, HRB⟩)
        | (refine step_append_run (by rfl) (.tmp 38) (.tmp 41) 38 38 (by rfl) _ _ (by rfl) (by rfl) _ (HG6.out w8 A8 c8 HR8.out) ?_
           intro v9 w9 h9
           obtain ⟨Ax, cx, rfl, HR9⟩ := h9)
        | (refine step_append_run (by rfl) (.tmp 34) (.tmp 37) 38 38 (by rfl) _ _ (by rfl) (by rfl) _ (HG5.out w7 hb7 hk7) ?_
           intro v8 w8 h8
           obtain ⟨A8, c8, rfl, HR8⟩ := h8)
        | (go_at_call 55; refine HG4.out.mono ?_; rintro e w7 ⟨rfl, hb7, hk7⟩))
    clear HG4 HG5 HG6 HG7 HR8 HR9 hb7 hk7
    have HFL : Hid ((Lg.mid b g p ++ Lg.zeros (17 - m) ++ [165]).length = 32) := by unfold Hid; rw [List.length_append, List.length_append, HML.out, Lg.zeros_len, List.length_singleton]; omega
    obtain ⟨r, hr⟩ : ∃ r, m - m = r := ⟨_, rfl⟩
    rw [hr] at hsb
    have HDE : Hid (b.drop m = b.drop 17) := by
      unfold Hid
      first
        | rfl
        | rw [List.drop_eq_nil_of_le (by rw [HM.out]; omega), List.drop_eq_nil_of_le (by rw [HM.out]; omega)]
    have HDL : Hid ((b.drop 17).length = r) := by unfold Hid; rw [List.length_drop, HM.out]; omega
    have HG8 : Hid (∃ v' w', (Builtin.append_ #[38, 38] 38 #[.slice Ab 32 cb, .slice A9 r c9]).run Try.prog wb = .ok v' w' ∧ RowR w (Lg.mid b g p ++ Lg.zeros (17 - m) ++ [165] ++ b.drop 17) (32 + r) v' w') := by
      have hby := HSB.out No wb b HM.out (HBY.out wb HRB.out.bel)
      rw [HDE.out] at hby
      exact HRB.out.app No A9 r c9 (b.drop 17) HDL.out hby (32 + r) (by rw [HFL.out]) (by omega)
    obtain ⟨K, hK⟩ : ∃ K, 32 * (Lg.secs m - 1) - (m - 17) = K := ⟨_, rfl⟩
    have hsq : Lg.secs m = 1 + (m - 17 + 31) / 32 := rfl
    have hK1 : 32 + r + K = 32 * Lg.secs m := by omega
    have hK2 : K ≤ 31 := by omega
    have HXE : Hid (∀ l : Dk.Bs, l = Lg.mid b g p ++ Lg.zeros (17 - m) ++ [165] ++ b.drop 17 → l ++ Lg.zeros K = Lg.recd b g p) := fun l hl => by
      subst hl
      unfold Lg.recd
      rw [HM.out, hK]
      simp only [List.append_assoc]
    have HYL : Hid ((Lg.mid b g p ++ Lg.zeros (17 - m) ++ [165] ++ b.drop 17).length = 32 + r) := by unfold Hid; rw [List.length_append, HFL.out, HDL.out]
    have HXE2 := Lib.hid (HXE.out _ rfl)
    clear HRB HXE hsf hK
    generalize Lg.mid b g p ++ Lg.zeros (17 - m) ++ [165] ++ b.drop 17 = Y at *
    have hr2 : r ≤ 200 := by omega
    have HK1 := Lib.hid hK1
    clear hsq hK1
    clear hr
    go_wp2_with (at_builtin; refine wpList_append_any rfl (.tmp 44) (.tmp 47) 38 38 rfl _ _ rfl rfl _ HG8.out ?_; intro vc wc hap; obtain ⟨Ac, cc, rfl, HRC⟩ := hap)
    clear HG8 hsb
    go_loopg [10] K (fun gk s10 W => ∃ (k : Nat) (A' : Option Addr) (c' q : Nat), k + gk = K ∧ s10 = .slice A' q c' ∧ Hid (q = 32 + r + k) ∧ Hid (RowO w W (.slice A' q c') (Y ++ Lg.zeros k)))
    case atStart =>
      refine ⟨0, Ac, cc, _, by omega, rfl, rfl, ?_⟩
      rw [show Y ++ Lg.zeros 0 = Y by simp [Lg.zeros]]
      exact HRC.out
    case round =>
      clear HRC
      obtain ⟨k, A', c', q, hkg, rfl, HQQ, HR⟩ := hrel
      have hq := HQQ.out
      have hYl : Hid ((Y ++ Lg.zeros k).length = q) := by unfold Hid; rw [List.length_append, HYL.out, Lg.zeros_len]; omega
      cases gk with
      | zero =>
        obtain rfl : k = K := by omega
        have dz : (((q : Int) % 32) != 0) = false := by have := HK1.out; rw [bne_eq_false_iff_eq]; omega
        have HQ : Hid (q = 32 * Lg.secs m) := by have := HK1.out; unfold Hid; omega
        have HRF : Hid (RowO w wr (.slice A' q c') (Lg.recd b g p)) := by rw [← HXE2.out]; exact HR.out
        clear HR hq
        go_wp2
        go_ret
        exact ⟨A', c', by rw [← HQ.out]; rfl, by rw [← HQ.out]; exact HRF.out.own, HRF.out.bel⟩
      | succ j =>
        have dz : (((q : Int) % 32) != 0) = true := by have := HK1.out; rw [bne_iff_ne]; omega
        have HA1 : Hid (∃ v' w', (Builtin.append_ #[38, 38] 38 #[.slice A' q c', .slice (some ⟨wr.heap.size, 0, none⟩) 1 1]).run Try.prog (wr.alloc (.cells #[.int .u8 0] 5)) = .ok v' w' ∧ RowR w (Y ++ Lg.zeros (k + 1)) (q + 1) v' w') := by
          have := (HR.out.below (below_alloc wr (.cells #[.int .u8 0] 5))).app No (some ⟨wr.heap.size, 0, none⟩) 1 1 [0] rfl (CellsIn.of_block (cs := [0].map bv) (heap_alloc_new wr _) id) (q + 1) (by rw [hYl.out]) (by omega)
          rw [show Y ++ Lg.zeros k ++ [0] = Y ++ Lg.zeros (k + 1) by unfold Lg.zeros; rw [List.replicate_succ', List.append_assoc]] at this
          exact this
        clear HR hq
        go_wp2_with (at_builtin; refine wpList_append_any rfl (.tmp 53) (.tmp 54) 38 38 rfl _ _ rfl rfl _ HA1.out ?_; intro vd wd hap; obtain ⟨Ad, cd, rfl, HRD⟩ := hap)
        go_roundg j
        case measure => omega
        case rel => exact ⟨k + 1, Ad, cd, q + 1, by omega, rfl, by have := HQQ.out; unfold Hid; omega, HRD.out⟩
  · have hi17 : ¬ ((m : Int) ≤ 17) := by omega
    obtain rfl : n17 = 17 := by have := HN17.out; omega
    rw [show ((17 : Nat) : Int) = 17 from rfl] at hsf hsb
    have hwX : IntKind.i64.wrap (X : Int) = (X : Int) := by rw [IntKind.wrap_i64]; omega
    have HG4 := Lib.hid (rfour_any X hXl w6.drew)
    have HG5 : Hid (∀ w7, Blk w7 w6.heap.size (Lg.be 4 X) → Below w6.drew.heap.size w6.drew w7 → ∃ v' w', (Builtin.append_ #[38, 38] 38 #[.slice A4 10 c4, .slice (some ⟨w6.heap.size, 0, none⟩) 4 4]).run Try.prog w7 = .ok v' w' ∧ RowR w (Lg.top m g p ++ Lg.be 4 X) 14 v' w') := fun w7 h7 hb7 =>
      (HTT.out.below (W' := w7) ⟨hb7.os, hb7.tape, hb7.output, hb7.size, hb7.block⟩).app No _ 4 4 (Lg.be 4 X) (Lg.be_len _ _) (h7.bytes id) 14 (by rw [HTL.out]) (by omega)
    have HTK : Hid ((b.take 17).length = 17) := by unfold Hid; rw [List.length_take, HM.out]; omega
    have HTE : Hid (b.take 17 = b.take 17) := by
      unfold Hid
      first
        | rfl
        | (rw [List.take_eq_take_iff, HM.out]; omega)
    have HG6 : Hid (∀ w8 A8 c8, RowO w w8 (.slice A8 14 c8) (Lg.top m g p ++ Lg.be 4 X) → ∃ v' w', (Builtin.append_ #[38, 38] 38 #[.slice A8 14 c8, .slice A 17 c]).run Try.prog w8 = .ok v' w' ∧ RowR w (Lg.mid b g p) (14 + 17) v' w') := fun w8 A8 c8 h8 => by
      have hby : BytesIn No w8 A (b.take 17) := by
        have := CellsIn.take (HBY.out w8 h8.bel) 17
        rw [← List.map_take] at this
        exact this
      rw [HTE.out] at hby
      have := h8.app No A 17 c (b.take 17) HTK.out hby (14 + 17) (by rw [List.length_append, HTL.out, Lg.be_len]) (by omega)
      rw [show Lg.top m g p ++ Lg.be 4 X ++ b.take 17 = Lg.mid b g p by unfold Lg.mid; rw [HM.out, HX.out]] at this
      exact this
    have HML : Hid ((Lg.mid b g p).length = 14 + 17) := by unfold Hid Lg.mid; rw [List.length_append, List.length_append, HM.out, HTL.out, Lg.be_len, HTK.out]
    have HG7 : Hid (∀ wx Ax cx, RowO w wx (.slice Ax (14 + 17) cx) (Lg.mid b g p) → Calls Try.prog 57 #[.slice Ax (14 + 17) cx] wx fun e wb => ∃ Ab cb, e = .returned (.slice Ab 32 cb) ∧ Hid (RowO w wb (.slice Ab 32 cb) (Lg.mid b g p ++ Lg.zeros (17 - m) ++ [165]))) := fun wx Ax cx hx => by
      obtain ⟨A', c', e, _, _, hby⟩ := hx.own.slice
      injection e with e1 e2 e3
      subst e1
      refine (rfilled_any Ax (14 + 17) cx (Lg.mid b g p) wx HML.out (by omega) (hby No (fun _ h => h.elim))).mono fun e wb ⟨Ab, cb, e1, e2, e3⟩ => ⟨Ab, cb, e1, ?_⟩
      rw [show 31 - (14 + 17) = 17 - m by omega] at e2
      exact ⟨e2.mono hx.bel.size, hx.bel.trans (e3.mono hx.bel.size)⟩
    clear HTT
    go_wp2_with fail
    go_region_held3 (fun _ => True) (exact trivial)
      (first
        | (go_at_call 57; refine (HG7.out w9 Ax cx HR9.out).mono ?_; rintro e wb ⟨Ab, cb, rfl, HRB⟩)
        | (refine step_append_run (by rfl) (.tmp 38) (.tmp 41) 38 38 (by rfl) _ _ (by rfl) (by rfl) _ (HG6.out w8 A8 c8 HR8.out) ?_
           intro v9 w9 h9
           obtain ⟨Ax, cx, rfl, HR9⟩ := h9)
        | (refine step_append_run (by rfl) (.tmp 34) (.tmp 37) 38 38 (by rfl) _ _ (by rfl) (by rfl) _ (HG5.out w7 hb7 hk7) ?_
           intro v8 w8 h8
           obtain ⟨A8, c8, rfl, HR8⟩ := h8)
        | (go_at_call 55; refine HG4.out.mono ?_; rintro e w7 ⟨rfl, hb7, hk7⟩))
    clear HG4 HG5 HG6 HG7 HR8 HR9 hb7 hk7
    have HFL : Hid ((Lg.mid b g p ++ Lg.zeros (17 - m) ++ [165]).length = 32) := by unfold Hid; rw [List.length_append, List.length_append, HML.out, Lg.zeros_len, List.length_singleton]; omega
    obtain ⟨r, hr⟩ : ∃ r, m - 17 = r := ⟨_, rfl⟩
    rw [hr] at hsb
    have HDE : Hid (b.drop 17 = b.drop 17) := by
      unfold Hid
      first
        | rfl
        | rw [List.drop_eq_nil_of_le (by rw [HM.out]; omega), List.drop_eq_nil_of_le (by rw [HM.out]; omega)]
    have HDL : Hid ((b.drop 17).length = r) := by unfold Hid; rw [List.length_drop, HM.out]; omega
    have HG8 : Hid (∃ v' w', (Builtin.append_ #[38, 38] 38 #[.slice Ab 32 cb, .slice A9 r c9]).run Try.prog wb = .ok v' w' ∧ RowR w (Lg.mid b g p ++ Lg.zeros (17 - m) ++ [165] ++ b.drop 17) (32 + r) v' w') := by
      have hby := HSB.out No wb b HM.out (HBY.out wb HRB.out.bel)
      rw [HDE.out] at hby
      exact HRB.out.app No A9 r c9 (b.drop 17) HDL.out hby (32 + r) (by rw [HFL.out]) (by omega)
    obtain ⟨K, hK⟩ : ∃ K, 32 * (Lg.secs m - 1) - (m - 17) = K := ⟨_, rfl⟩
    have hsq : Lg.secs m = 1 + (m - 17 + 31) / 32 := rfl
    have hK1 : 32 + r + K = 32 * Lg.secs m := by omega
    have hK2 : K ≤ 31 := by omega
    have HXE : Hid (∀ l : Dk.Bs, l = Lg.mid b g p ++ Lg.zeros (17 - m) ++ [165] ++ b.drop 17 → l ++ Lg.zeros K = Lg.recd b g p) := fun l hl => by
      subst hl
      unfold Lg.recd
      rw [HM.out, hK]
      simp only [List.append_assoc]
    have HYL : Hid ((Lg.mid b g p ++ Lg.zeros (17 - m) ++ [165] ++ b.drop 17).length = 32 + r) := by unfold Hid; rw [List.length_append, HFL.out, HDL.out]
    have HXE2 := Lib.hid (HXE.out _ rfl)
    clear HRB HXE hsf hK
    generalize Lg.mid b g p ++ Lg.zeros (17 - m) ++ [165] ++ b.drop 17 = Y at *
    have hr2 : r ≤ 200 := by omega
    have HK1 := Lib.hid hK1
    clear hsq hK1
    clear hr
    go_wp2_with (at_builtin; refine wpList_append_any rfl (.tmp 44) (.tmp 47) 38 38 rfl _ _ rfl rfl _ HG8.out ?_; intro vc wc hap; obtain ⟨Ac, cc, rfl, HRC⟩ := hap)
    clear HG8 hsb
    go_loopg [10] K (fun gk s10 W => ∃ (k : Nat) (A' : Option Addr) (c' q : Nat), k + gk = K ∧ s10 = .slice A' q c' ∧ Hid (q = 32 + r + k) ∧ Hid (RowO w W (.slice A' q c') (Y ++ Lg.zeros k)))
    case atStart =>
      refine ⟨0, Ac, cc, _, by omega, rfl, rfl, ?_⟩
      rw [show Y ++ Lg.zeros 0 = Y by simp [Lg.zeros]]
      exact HRC.out
    case round =>
      clear HRC
      obtain ⟨k, A', c', q, hkg, rfl, HQQ, HR⟩ := hrel
      have hq := HQQ.out
      have hYl : Hid ((Y ++ Lg.zeros k).length = q) := by unfold Hid; rw [List.length_append, HYL.out, Lg.zeros_len]; omega
      cases gk with
      | zero =>
        obtain rfl : k = K := by omega
        have dz : (((q : Int) % 32) != 0) = false := by have := HK1.out; rw [bne_eq_false_iff_eq]; omega
        have HQ : Hid (q = 32 * Lg.secs m) := by have := HK1.out; unfold Hid; omega
        have HRF : Hid (RowO w wr (.slice A' q c') (Lg.recd b g p)) := by rw [← HXE2.out]; exact HR.out
        clear HR hq
        go_wp2
        go_ret
        exact ⟨A', c', by rw [← HQ.out]; rfl, by rw [← HQ.out]; exact HRF.out.own, HRF.out.bel⟩
      | succ j =>
        have dz : (((q : Int) % 32) != 0) = true := by have := HK1.out; rw [bne_iff_ne]; omega
        have HA1 : Hid (∃ v' w', (Builtin.append_ #[38, 38] 38 #[.slice A' q c', .slice (some ⟨wr.heap.size, 0, none⟩) 1 1]).run Try.prog (wr.alloc (.cells #[.int .u8 0] 5)) = .ok v' w' ∧ RowR w (Y ++ Lg.zeros (k + 1)) (q + 1) v' w') := by
          have := (HR.out.below (below_alloc wr (.cells #[.int .u8 0] 5))).app No (some ⟨wr.heap.size, 0, none⟩) 1 1 [0] rfl (CellsIn.of_block (cs := [0].map bv) (heap_alloc_new wr _) id) (q + 1) (by rw [hYl.out]) (by omega)
          rw [show Y ++ Lg.zeros k ++ [0] = Y ++ Lg.zeros (k + 1) by unfold Lg.zeros; rw [List.replicate_succ', List.append_assoc]] at this
          exact this
        clear HR hq
        go_wp2_with (at_builtin; refine wpList_append_any rfl (.tmp 53) (.tmp 54) 38 38 rfl _ _ rfl rfl _ HA1.out ?_; intro vd wd hap; obtain ⟨Ad, cd, rfl, HRD⟩ := hap)
        go_roundg j
        case measure => omega
        case rel => exact ⟨k + 1, Ad, cd, q + 1, by omega, rfl, by have := HQQ.out; unfold Hid; omega, HRD.out⟩

end Go.Proofs.Ytoocifoglhhnmaa
