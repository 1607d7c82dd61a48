/- A list of orders cut in two. -/
import Derived.Test.YtbacakblboodeaaLoadOpen
import Derived.Deep.DeepCutAuto
namespace Go.Proofs.Ytbacakblboodeaa
open Go.RowKit
set_option maxRecDepth 100000
set_option linter.unusedVariables false

theorem sizeOs (W : World) : (sizeOf (Try.prog.elem 25)).run Try.prog W = .ok 8 W := by kernel_rfl
theorem take_flat {α : Type} (f : α → List Int) (c : Nat) (hf : ∀ x, (f x).length = c) (l : List α) (k : Nat) : (l.take k).flatMap f = (l.flatMap f).take (k * c) := by
  induction l generalizing k with
  | nil => simp
  | cons x r ih =>
    cases k with
    | zero => simp
    | succ k =>
      have e1 : (f x).take (c + k * c) = f x := List.take_of_length_le (by rw [hf]; omega)
      rw [List.take_succ_cons, List.flatMap_cons, List.flatMap_cons, ih k, List.take_append, hf, Nat.succ_mul, Nat.add_comm (k * c) c, Nat.add_sub_cancel_left, e1]
theorem drop_flat {α : Type} (f : α → List Int) (c : Nat) (hf : ∀ x, (f x).length = c) (l : List α) (k : Nat) : (l.drop k).flatMap f = (l.flatMap f).drop (k * c) := by
  induction l generalizing k with
  | nil => simp
  | cons x r ih =>
    cases k with
    | zero => simp
    | succ k =>
      have e1 : (f x).drop (c + k * c) = [] := List.drop_of_length_le (by rw [hf]; omega)
      rw [List.drop_succ_cons, List.flatMap_cons, ih k, List.drop_append, hf, Nat.succ_mul, Nat.add_comm (k * c) c, Nat.add_sub_cancel_left, e1, List.nil_append]
theorem OrdersAt.take {W : World} {A : Option Addr} {l : List Ld.O} (h : OrdersAt W A l) (k : Nat) : OrdersAt W A (l.take k) := by
  intro j z hz
  rw [take_flat _ 8 oints_len] at hz
  have hj : j < k * 8 := by have := (List.getElem?_eq_some_iff.1 hz).1; rw [List.length_take] at this; omega
  rw [List.getElem?_take_of_lt hj] at hz
  exact h j z hz
theorem OrdersAt.drop {W : World} {A : Option Addr} {l : List Ld.O} (h : OrdersAt W A l) (k : Nat) : OrdersAt W (A.map (·.add (k * 8))) (l.drop k) := by
  intro j z hz
  rw [drop_flat _ 8 oints_len, List.getElem?_drop] at hz
  obtain ⟨ad, e, hc⟩ := h _ z hz
  subst e
  refine ⟨ad.add (k * 8), rfl, ?_⟩
  rw [add_plus]
  exact hc
/-- l[:k] and l[k:] -/
theorem front_os (A : Option Addr) (n c k : Nat) (hnc : n ≤ c) (hk : k ≤ n) :
    ∀ W : World, (Instr.slice 25 (.slice A n c) none (some (.int .i64 (k : Int))) none).run Try.prog W = .ok (.slice A k c) W := by
  intro W
  rw [run_slice_h W 25 A n c (by kernel_rfl) .i64 _ (by omega) (by omega), sizeOs W]
  simp [sliced, Result.andThen]
  intro _
  cases A <;> rfl
theorem back_os (A : Option Addr) (n c k : Nat) (hnc : n ≤ c) (hk : k ≤ n) :
    ∃ A' c', (∀ W : World, (Instr.slice 25 (.slice A n c) (some (.int .i64 (k : Int))) none none).run Try.prog W = .ok (.slice A' (n - k) c') W) ∧
      ∀ (W : World) (l : List Ld.O), l.length = n → OrdersAt W A l → OrdersAt W A' (l.drop k) := by
  refine ⟨if c = k then A else A.map (·.add (k * 8)), c - k, fun W => ?_, fun W l hl h => ?_⟩
  · rw [run_slice_l W 25 A n c (by kernel_rfl) .i64 _ (by omega) (by omega), sizeOs W]
    simp [sliced, Result.andThen]
  · by_cases e : k = n
    · rw [List.drop_eq_nil_of_le (by omega)]
      exact IntsAt.nil _ _
    · rw [if_neg (by omega)]
      exact h.drop k
end Go.Proofs.Ytbacakblboodeaa
