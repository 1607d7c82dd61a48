/- The document's log: number. -/
import Derived.Test.YtoocifoglhhnmaaLogRefB
namespace Go.Proofs.Ytoocifoglhhnmaa
open Go.RowKit
set_option linter.unusedVariables false

set_option maxHeartbeats 1000000 in
theorem rnumber_any (F : Nat → Prop) (A : Option Addr) (m c : Nat) (l : Dk.Bs) (w : World) (hm : l.length = m) (h4 : m ≤ 4) (hb : BytesIn F w A l) :
    Calls Try.prog 66 #[.slice A m c] w fun e w' => e = .returned (.int .i64 (Lg.num l : Nat)) ∧ w = w' := by
  have HB := Lib.hid hb
  have HM := Lib.hid hm
  clear hb hm
  go_enter Try.func66, Try.ntmps66
  go_wp2
  go_loopg [3, 4] m (fun gk s3 s4 W => ∃ (k : Nat), k + gk = m ∧ s3 = .int .i64 ((Lg.num (l.take k) : Nat) : Int) ∧ s4 = .int .i64 k ∧ W = w)
  case atStart => exact ⟨0, by omega, rfl, rfl, rfl⟩
  case round =>
    obtain ⟨k, hkg, rfl, rfl, rfl⟩ := hrel
    cases gk with
    | zero =>
      obtain rfl : k = m := by omega
      have HE : Hid (l.take k = l) := List.take_of_length_le (by rw [HM.out]; exact Nat.le_refl _)
      rw [HE.out]
      go_wp2
      go_ret
      exact ⟨rfl, rfl⟩
    | succ r =>
      obtain ⟨b, hb⟩ := some_at l k (by rw [HM.out]; omega)
      obtain ⟨ad, rfl, _, _, hc⟩ := BytesIn.at_ HB.out hb
      have HN := Lib.hid (Lg.num_take l k b hb)
      have hlt : Lg.num (l.take k) < 16777216 := by
        have h1 := Lg.num_lt (l.take k)
        have h2 : (l.take k).length ≤ 3 := by rw [List.length_take]; omega
        have h3 := Nat.pow_le_pow_right (n := 256) (by omega) h2
        omega
      have hb8 := b.toNat_lt
      clear hb
      generalize Lg.num (l.take k) = y at *
      go_wp2
      go_roundg r
      case measure => omega
      case rel => exact ⟨k + 1, by omega, by rw [HN.out]; first | rfl | go_num, by first | rfl | go_num, rfl⟩

set_option maxHeartbeats 1000000 in
set_option maxRecDepth 100000 in
theorem rhead_any (g : Nat) (hg : g ≤ 4294967295) (w : World) :
    Calls Try.prog 38 #[.int .i64 g] w fun e w' => ∃ A' c', e = .returned (.slice A' 32 c') ∧ OwnB w' w.heap.size (.slice A' 32 c') (Lg.head g) ∧ Below w.heap.size w w' := by
  go_enter Try.func38, Try.ntmps38
  go_wp2_with fail
  refine (rfour_any g hg w).mono ?_
  rintro e w1 ⟨rfl, h1, hb1⟩
  obtain ⟨X, hX⟩ : ∃ X, Lg.crc (Lg.be 4 g) = X := ⟨_, rfl⟩
  have hXl : X ≤ 4294967295 := by rw [← hX]; have := Lg.crc_lt (Lg.be 4 g); omega
  have HX := Lib.hid hX
  have HB1 := Lib.hid hb1
  have HA1 : Hid (∃ v' w', (Builtin.append_ #[38, 38] 38 #[.slice (some ⟨w1.heap.size, 0, none⟩) 0 0, .slice (some ⟨w.heap.size, 0, none⟩) 4 4]).run Try.prog (w1.alloc (.cells #[] 5)) = .ok v' w' ∧ RowR w1 (Lg.be 4 g) 4 v' w') := by
    have ho : RowO w1 (w1.alloc (.cells #[] 5)) (.slice (some ⟨w1.heap.size, 0, none⟩) 0 0) [] := ⟨own_empty w1 w1.heap.size (Nat.le_refl _) 5 1, below_alloc _ _⟩
    exact ho.app No _ 4 4 (Lg.be 4 g) (Lg.be_len _ _) ((h1.keep (Kept.of_below (F := No) (below_alloc w1 _)) id).bytes id) 4 rfl (by omega)
  have HBL : Hid (Blk w1 w.heap.size (Lg.be 4 g)) := h1
  clear h1 hb1 hX
  go_wp2_with (at_builtin; refine wpList_append_any rfl (.tmp 6) (.tmp 7) 38 38 rfl _ _ rfl rfl _ HA1.out ?_; intro v2 w2 hap; obtain ⟨A2, c2, rfl, HT2⟩ := hap)
  have hsu := rsum5_any No (some ⟨w.heap.size, 0, none⟩) 4 4 (Lg.be 4 g) w2 (Lg.be_len _ _) (by omega) ((HBL.out.keep (Kept.of_below (F := No) HT2.out.bel) id).bytes id)
  rw [HX.out] at hsu
  refine hsu.mono ?_
  rintro e w' ⟨rfl, rfl⟩
  clear hsu HA1 HBL
  go_wp2_with fail
  refine (rfour_any X hXl w2).mono ?_
  rintro e w3 ⟨rfl, h3, hb3⟩
  have HA3 : Hid (∃ v' w', (Builtin.append_ #[38, 38] 38 #[.slice A2 4 c2, .slice (some ⟨w2.heap.size, 0, none⟩) 4 4]).run Try.prog w3 = .ok v' w' ∧ RowR w1 (Lg.be 4 g ++ Lg.be 4 X) 8 v' w') := (HT2.out.below hb3).app No _ 4 4 (Lg.be 4 X) (Lg.be_len _ _) (h3.bytes id) 8 (by rw [Lg.be_len]) (by omega)
  clear h3 hb3 HT2
  go_wp2_with (at_builtin; refine wpList_append_any rfl (.tmp 8) (.tmp 12) 38 38 rfl _ _ rfl rfl _ HA3.out ?_; intro v4 w4 hap; obtain ⟨A4, c4, rfl, HT4⟩ := hap)
  obtain ⟨A', c', e4, _, _, hby⟩ := HT4.out.own.slice
  injection e4 with e5 e6 e7
  subst e5
  refine (rfilled_any A4 8 c4 (Lg.be 4 g ++ Lg.be 4 X) w4 (by rw [List.length_append, Lg.be_len, Lg.be_len]) (by omega) (hby No (fun _ h => h.elim))).mono ?_
  rintro e w5 ⟨A5, c5, rfl, ho5, hb5⟩
  have HB4 : Hid (Below w.heap.size w w4) := HB1.out.trans (HT4.out.bel.mono HB1.out.size)
  have HO5 : Hid (OwnB w5 w.heap.size (.slice A5 32 c5) (Lg.head g)) := by
    have := ho5.mono HB4.out.size
    unfold Lg.head
    rw [HX.out]
    exact this
  have HB5 := Lib.hid (HB4.out.trans (hb5.mono HB4.out.size))
  clear ho5 hb5 hby HA3 HT4
  go_wp2
  go_ret
  exact ⟨A5, c5, rfl, HO5.out, HB5.out⟩
end Go.Proofs.Ytoocifoglhhnmaa
