/- Contract: package disk's Turn. -/
import Derived.Test.YtoocifoglhhnmaaDiskB
namespace Go.Proofs.Ytoocifoglhhnmaa
open Go.RowKit

theorem xor_u8 (b y : UInt8) : bits BinOp.xor IntKind.u8 (b.toNat : Int) (y.toNat : Int) = ((b ^^^ y).toNat : Int) := by
  rw [u8_xor_nat b.toNat y.toNat b.toNat_lt y.toNat_lt, UInt8.toNat_xor]

theorem DiskAt.turn {w : World} {g s n : Nat} {d : Dk.D} (h : DiskAt w g s n d) (k : Nat) (hk : k < 32 * n) (b y : UInt8) (hb : d.b[k]? = some b) : DiskAt (w.setCell ⟨s, k, none⟩ (.int .u8 ((b ^^^ y).toNat : Int))).drew g s n (Dk.tstate n d k y) := by
  have e : Dk.tstate n d k y = { d with b := d.b.set k (b ^^^ y) } := by
    unfold Dk.tstate
    rw [if_pos ⟨by omega, by omega⟩, Int.toNat_natCast, List.getD_eq_getElem?_getD, hb]; rfl
  rw [e]
  refine ⟨?_, ?_, ⟨by simpa using h.good.len, h.good.t0, h.good.t1, h.good.f0, h.good.f1, h.good.w0⟩, h.n0, h.n1⟩
  · show (w.setCell ⟨s, k, none⟩ _).heap[g]? = _
    rw [Below.heap_setCell _ _ _ _ h.ne]
    exact h.top
  · show (w.setCell ⟨s, k, none⟩ _).heap[s]? = _
    rw [setCell_eq_setRow w s k _ _ _ _ h.row, setRow_heap w s _ _ _ _ h.row]
    simp [List.map_set, bv]

set_option maxHeartbeats 1000000 in
set_option maxRecDepth 100000 in
theorem turn_any (g s n : Nat) (d : Dk.D) (k : Int) (y : UInt8) (w : World) (h : DiskAt w g s n d) (hk : k ≤ 9223372036854775807) :
    Calls Try.prog 14 #[.pointer (some ⟨g, 0, none⟩), .int .i64 k, .int .u8 (y.toNat : Int)] w fun e w' => e = .returned (.int .i64 (Dk.tcode n k)) ∧ DiskAt w' g s n (Dk.tstate n d k y) ∧ Kept (Two g s) w w' := by
  have hn1 := h.n1
  by_cases h1 : k < 0
  · have HC : Hid (Dk.tcode n k = 5) := by unfold Hid Dk.tcode; rw [if_neg (by omega)]
    have HS : Hid (Dk.tstate n d k y = d) := by unfold Hid Dk.tstate; rw [if_neg (by omega)]
    have d1 : decide (k < 0) = true := decide_eq_true h1
    have H := Lib.hid h
    clear h
    go_enter Try.func14, Try.ntmps14
    go_wp2
    go_ret
    exact ⟨by rw [HC.out]; rfl, by rw [HS.out]; exact H.out, Kept.refl _ _⟩
  obtain ⟨j, rfl⟩ := Int.eq_ofNat_of_zero_le (show 0 ≤ k by omega)
  have d1 : decide ((j : Int) < 0) = false := decide_eq_false (by omega)
  have hhas := has_any g s n d ((j / 32 : Nat) : Int) w h
  have e1 : (j : Int) / 32 = ((j / 32 : Nat) : Int) := by omega
  have e2 : (j : Int) % 32 = ((j % 32 : Nat) : Int) := by omega
  by_cases h2 : j < 32 * n
  · have HC : Hid (Dk.tcode n j = 0) := by unfold Hid Dk.tcode; rw [if_pos (by omega)]
    obtain ⟨b, hb⟩ := some_at d.b j (by rw [h.good.len]; exact h2)
    have ht := h.turn j h2 b y hb
    rw [UInt8.toNat_xor] at ht
    have HT := Lib.hid ht
    clear ht
    have hcell := h.byte hb
    have hfz := h.fzs j
    have c0 := h.c0
    have hx := xor_u8 b y
    rw [Dk.has_iff.2 ⟨by omega, by omega⟩] at hhas
    have HAS := Lib.hid hhas
    have e3 : j / 32 * 32 + j % 32 = j := by omega
    have e4 : 32 * (j / 32) + j % 32 = j := by omega
    have i1 : (0 : Int) ≤ ((j / 32 : Nat) : Int) := by omega
    have i2 : ((j / 32 : Nat) : Int) < (n : Int) := by omega
    have i3 : (0 : Int) ≤ ((j % 32 : Nat) : Int) := by omega
    have i4 : ((j % 32 : Nat) : Int) < 32 := by omega
    have HNE : Hid (g ≠ s) := h.ne
    clear h hb hhas
    generalize j / 32 = q at *
    generalize j % 32 = r at *
    go_enter Try.func14, Try.ntmps14
    go_wp2_with (go_at_call 41; refine HAS.out.mono ?_; rintro e w' ⟨rfl, rfl⟩)
    go_region
    go_wp2
    go_ret
    exact ⟨by rw [HC.out]; rfl, HT.out, ((Kept.refl _ _).setCell (p := ⟨s, j, none⟩) (.inl (.inr rfl)) _).drew⟩
  · have HC : Hid (Dk.tcode n j = 5) := by unfold Hid Dk.tcode; rw [if_neg (by omega)]
    have HS : Hid (Dk.tstate n d j y = d) := by unfold Hid Dk.tstate; rw [if_neg (by omega)]
    rw [show Dk.has n ((j / 32 : Nat) : Int) = false by rw [Bool.eq_false_iff]; intro e; have := (Dk.has_iff.1 e).2; omega] at hhas
    have HAS := Lib.hid hhas
    have H := Lib.hid h
    have i5 : ((j / 32 : Nat) : Int) ≤ 9223372036854775807 := by omega
    have i6 : (0 : Int) ≤ ((j / 32 : Nat) : Int) := by omega
    clear h hhas e2
    generalize j / 32 = q at *
    go_enter Try.func14, Try.ntmps14
    go_wp2_with (go_at_call 41; refine HAS.out.mono ?_; rintro e w' ⟨rfl, rfl⟩)
    go_ret
    exact ⟨by rw [HC.out]; rfl, by rw [HS.out]; exact H.out, Kept.refl _ _⟩

end Go.Proofs.Ytoocifoglhhnmaa
