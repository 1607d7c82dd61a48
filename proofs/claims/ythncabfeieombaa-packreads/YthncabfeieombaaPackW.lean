/- Contracts: package pack writes. -/
import Derived.Test.YthncabfeieombaaPackMem
namespace Go.Proofs.Ythncabfeieombaa
open Go.RowKit

theorem isEmpty_size (t : ByteArray) : t.toList.isEmpty = decide (t.size = 0) := by
  rw [toList_bs, ← bs_length]
  cases bs t <;> simp

theorem isVal_n (n : Int) (t : ByteArray) : Pk.isVal 110 (n, t) = (decide (t.size = 0) && (decide (-4611686018427387904 ≤ n) && decide (n ≤ 4611686018427387904))) := rfl
theorem isVal_t (c : UInt8) (n : Int) (t : ByteArray) (h : c ≠ 110) : Pk.isVal c (n, t) = (decide (n = 0) && decide (t.size ≤ 1000)) := by unfold Pk.isVal; rw [if_neg h]

set_option maxHeartbeats 400000 in
theorem isValue_any (c : UInt8) (v : Pk.V) (w : World) (hn : v.2.size ≤ maxLen) :
    Calls Try.prog 28 #[.int .u8 (c.toNat : Int), .agg #[.int .i64 v.1, .string v.2]] w fun e w' => e = .returned (.bool (Pk.isVal c v)) ∧ Below w.heap.size w w' := by
  obtain ⟨n, t⟩ := v
  unfold maxLen at hn
  simp only at hn ⊢
  have HB : Hid (∀ o, Below w.heap.size w (w.alloc o)) := fun o => (Below.refl _ _).alloc (Nat.le_refl _) o
  by_cases hc : c = 110
  · subst hc
    have HE := Lib.hid (isVal_n n t)
    have hi := isEmpty_size t
    generalize Pk.isVal 110 (n, t) = r at *
    cases d0 : decide (t.size = 0) <;> rw [d0] at HE hi <;> cases d1 : decide (-4611686018427387904 ≤ n) <;> rw [d1] at HE <;> cases d2 : decide (n ≤ 4611686018427387904) <;> rw [d2] at HE <;>
      (clear d0
       go_enter Try.func28, Try.ntmps28
       go_wp2
       go_ret
       exact ⟨by rw [HE.out]; rfl, HB.out _⟩)
  · have HE := Lib.hid (isVal_t c n t hc)
    have hc' : ((c.toNat : Int) == 110) = false := beq_eq_false_iff_ne.2 (u8_ne hc)
    clear hc
    generalize Pk.isVal c (n, t) = r at *
    by_cases d0 : n = 0
    · subst d0
      cases d1 : decide (t.size ≤ 1000) with
      | true =>
        have d2 : decide ((t.size : Int) ≤ 1000) = true := decide_eq_true (by have := of_decide_eq_true d1; omega)
        rw [d1] at HE
        clear d1
        go_enter Try.func28, Try.ntmps28
        go_wp2
        go_ret
        exact ⟨by rw [HE.out]; rfl, HB.out _⟩
      | false =>
        have d2 : decide ((t.size : Int) ≤ 1000) = false := decide_eq_false (by have := of_decide_eq_false d1; omega)
        rw [d1] at HE
        clear d1
        go_enter Try.func28, Try.ntmps28
        go_wp2
        go_ret
        exact ⟨by rw [HE.out]; rfl, HB.out _⟩
    · have d1 : (n == 0) = false := beq_eq_false_iff_ne.2 d0
      rw [decide_eq_false d0] at HE
      clear d0
      go_enter Try.func28, Try.ntmps28
      go_wp2
      go_ret
      exact ⟨by rw [HE.out]; rfl, HB.out _⟩

set_option maxHeartbeats 400000 in
theorem wfolded_any (n : Int) (w : World) (h1 : -4611686018427387904 ≤ n) (h2 : n ≤ 4611686018427387904) :
    Calls Try.prog 34 #[.int .i64 n] w fun e w' => e = .returned (.int .u64 (Pk.zig n : Nat)) ∧ w = w' := by
  by_cases h : n < 0
  · have HE : Hid (((Pk.zig n : Nat) : Int) = -1 - 2 * n) := by show _ = _; unfold Pk.zig; rw [if_pos h]; omega
    go_enter Try.func34, Try.ntmps34
    go_wp2
    go_ret
    exact ⟨by rw [HE.out]; rfl, rfl⟩
  · have HE : Hid (((Pk.zig n : Nat) : Int) = 2 * n) := by show _ = _; unfold Pk.zig; rw [if_neg h]; omega
    go_enter Try.func34, Try.ntmps34
    go_wp2
    go_ret
    exact ⟨by rw [HE.out]; rfl, rfl⟩

end Go.Proofs.Ythncabfeieombaa
