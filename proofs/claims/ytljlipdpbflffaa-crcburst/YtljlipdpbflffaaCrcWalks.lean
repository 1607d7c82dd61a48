/- Contracts of package crc and of the document's answer: the eight times; the document's sums. -/
import Derived.Test.YtljlipdpbflffaaProg
import Derived.Test.YtljlipdpbflffaaCrcMath
import Derived.WalkKit
import Derived.WalkSpells
import Derived.WalkLawsBesides
import Derived.Laws.BitsAllLaws
import Derived.Lib.Hide
namespace Go.Proofs.Ytljlipdpbflffaa
open Go.RowKit

theorem and1 (y : Nat) (h : y < 4294967296) : bits BinOp.and IntKind.u32 (y : Int) 1 = ((y % 2 : Nat) : Int) := by
  have := u32_and_nat y 1 h (by omega)
  rw [Nat.and_one_is_mod] at this
  exact this

theorem xorD (y : Nat) (h : y < 4294967296) : bits BinOp.xor IntKind.u32 ((y : Int) / 2) 3988292384 = ((y / 2 ^^^ 3988292384 : Nat) : Int) := by
  have := u32_xor_nat (y / 2) 3988292384 (by omega) (by omega)
  rw [Int.natCast_ediv] at this
  exact this

theorem T_odd (y : Nat) (h : y < 4294967296) (ho : y % 2 = 1) : bits BinOp.xor IntKind.u32 ((y : Int) / 2) 3988292384 = ((Crc.T y : Nat) : Int) := by
  rw [xorD y h]; unfold Crc.T; rw [if_pos ho]

theorem T_even (y : Nat) (ho : ¬ y % 2 = 1) : (y : Int) / 2 = ((Crc.T y : Nat) : Int) := by
  unfold Crc.T; rw [if_neg ho, Int.natCast_ediv]; rfl

theorem u32_eq {a b : Int} (h : a = b) : Value.int .u32 a = Value.int .u32 b := by rw [h]

set_option maxHeartbeats 400000 in
theorem eight_any (x : Nat) (w : World) (hx : x < 4294967296) :
    Calls Try.prog 13 #[.int .u32 x] w fun e w' => e = .returned (.int .u32 (Crc.e8 x : Nat)) ∧ w = w' := by
  go_enter Try.func13, Try.ntmps13
  go_wp2
  go_loop [0, 4] (fun n i => ∃ k : Nat, k ≤ 8 ∧ i = .int .i64 k ∧ n = .int .u32 (Crc.Tn k x : Nat)) (fun _ i => 8 - (intOf i).toNat)
  case atStart => exact ⟨0, by omega, rfl, rfl⟩
  case round =>
    obtain ⟨k, hk, rfl, rfl⟩ := hrel
    have hy := Crc.Tn_lt k x hx
    have HN := Lib.hid (Crc.Tn_last k x)
    by_cases hlt : k < 8
    · generalize Crc.Tn k x = y at *
      by_cases ho : y % 2 = 1
      · have ha : (bits BinOp.and IntKind.u32 (y : Int) 1 == 1) = true := by rw [and1 y hy, ho]; rfl
        have HO := Lib.hid ho
        clear ho
        go_wp2
        go_round
        case rel => exact ⟨k + 1, by omega, by go_num, u32_eq (by rw [HN.out]; exact T_odd y hy HO.out)⟩
        case measure => simp [intOf]; omega
      · have ha : (bits BinOp.and IntKind.u32 (y : Int) 1 == 1) = false := by rw [and1 y hy]; simp; omega
        have HO := Lib.hid ho
        clear ho
        go_wp2
        go_round
        case rel => exact ⟨k + 1, by omega, by go_num, u32_eq (by rw [HN.out]; exact T_even y HO.out)⟩
        case measure => simp [intOf]; omega
    · obtain rfl : k = 8 := by omega
      clear HN
      go_wp2
      go_ret
      exact ⟨rfl, rfl⟩

set_option maxHeartbeats 400000 in
theorem reight_any (x : Nat) (w : World) (hx : x < 4294967296) :
    Calls Try.prog 12 #[.int .u32 x] w fun e w' => e = .returned (.int .u32 (Crc.e8 x : Nat)) ∧ w = w' := by
  go_enter Try.func12, Try.ntmps12
  go_wp2
  go_loop [0, 3] (fun n i => ∃ k : Nat, k ≤ 8 ∧ i = .int .i64 k ∧ n = .int .u32 (Crc.Tn k x : Nat)) (fun _ i => 8 - (intOf i).toNat)
  case atStart => exact ⟨0, by omega, rfl, rfl⟩
  case round =>
    obtain ⟨k, hk, rfl, rfl⟩ := hrel
    have hy := Crc.Tn_lt k x hx
    have HN := Lib.hid (Crc.Tn_last k x)
    by_cases hlt : k < 8
    · generalize Crc.Tn k x = y at *
      by_cases ho : y % 2 = 1
      · have ha : ((y : Int) % 2 == 1) = true := by simp; omega
        have HO := Lib.hid ho
        clear ho
        go_wp2
        go_round
        case rel => exact ⟨k + 1, by omega, by go_num, u32_eq (by rw [HN.out]; exact T_odd y hy HO.out)⟩
        case measure => simp [intOf]; omega
      · have ha : ((y : Int) % 2 == 1) = false := by simp; omega
        have HO := Lib.hid ho
        clear ho
        go_wp2
        go_round
        case rel => exact ⟨k + 1, by omega, by go_num, u32_eq (by rw [HN.out]; exact T_even y HO.out)⟩
        case measure => simp [intOf]; omega
    · obtain rfl : k = 8 := by omega
      clear HN
      go_wp2
      go_ret
      exact ⟨rfl, rfl⟩

/-- The cells of a slice of bytes: 'l', from the address on. -/
def BytesAt (w : World) (A : Option Addr) (l : List Nat) : Prop :=
  ∀ k b : Nat, l[k]? = some b → b < 256 ∧ ∃ ad, A = some ad ∧ w.cell? (ad.add k) = some (.int .u8 (b : Int))

theorem list_at {α : Type} (l : List α) (k : Nat) (h : k < l.length) : ∃ x, l[k]? = some x := ⟨l[k], List.getElem?_eq_getElem h⟩

theorem bytesAt_lt {w : World} {A : Option Addr} {l : List Nat} (h : BytesAt w A l) : ∀ b ∈ l, b < 256 := by
  intro b hb
  obtain ⟨k, hk⟩ := List.getElem?_of_mem hb
  exact (h k b hk).1

theorem take_lt {l : List Nat} (h : ∀ b ∈ l, b < 256) (k : Nat) : ∀ b ∈ l.take k, b < 256 := fun b hb => h b (List.mem_of_mem_take hb)

theorem xorB (y b : Nat) (hy : y < 4294967296) (hb : b < 256) : bits BinOp.xor IntKind.u32 (y : Int) (b : Int) = ((y ^^^ b : Nat) : Int) :=
  u32_xor_nat y b hy (by omega)

set_option maxHeartbeats 1000000 in
theorem rmore_any (s : Nat) (A : Option Addr) (c : Nat) (l : List Nat) (w : World) (hs : s < 4294967296) (hl : l.length ≤ maxLen) (hc : BytesAt w A l) :
    Calls Try.prog 11 #[.int .u32 s, .slice A l.length c] w fun e w' => e = .returned (.int .u32 (Crc.more s l : Nat)) ∧ w = w' := by
  unfold maxLen at hl
  have HL := Lib.hid (bytesAt_lt hc)
  have HC := Lib.hid hc
  clear hc
  go_enter Try.func11, Try.ntmps11
  go_wp2
  go_loop [5, 6] (fun n i => ∃ k : Nat, k ≤ l.length ∧ i = .int .i64 k ∧ n = .int .u32 (Crc.st (4294967295 - s) (l.take k) : Nat)) (fun _ i => l.length - (intOf i).toNat)
  case atStart => exact ⟨0, by omega, rfl, u32_eq (by rw [List.take_zero, Crc.st_nil]; omega)⟩
  case round =>
    obtain ⟨k, hk, rfl, rfl⟩ := hrel
    have hy := Crc.st_lt (4294967295 - s) (l.take k) (by omega) (take_lt HL.out k)
    by_cases hlt : k < l.length
    · obtain ⟨b, hb⟩ := list_at l k hlt
      obtain ⟨hb8, ad, rfl, hcell⟩ := HC.out k b hb
      have HN := Lib.hid (Crc.st_take (4294967295 - s) l k b hb)
      clear hb
      generalize Crc.st (4294967295 - s) (l.take k) = y at *
      have hx := xorB y b hy hb8
      have hlt2 := Crc.xor_lt32 y b hy (by omega)
      go_wp2_with (go_at_call 12; refine (reight_any _ _ hlt2).mono ?_; rintro e w' ⟨rfl, rfl⟩)
      go_round
      case rel => exact ⟨k + 1, by omega, by go_num, u32_eq (by rw [HN.out])⟩
      case measure => simp [intOf]; omega
    · obtain rfl : k = l.length := by omega
      rw [List.take_length] at hy
      rw [List.take_length]
      have HE : Hid (Crc.more s l = 4294967295 - Crc.st (4294967295 - s) l) := rfl
      generalize Crc.st (4294967295 - s) l = y at *
      go_wp2
      go_ret
      exact ⟨by rw [HE.out]; exact congrArg _ (u32_eq (by omega)), rfl⟩

set_option maxHeartbeats 400000 in
theorem rsum_any (A : Option Addr) (c : Nat) (l : List Nat) (w : World) (hl : l.length ≤ maxLen) (hc : BytesAt w A l) :
    Calls Try.prog 9 #[.slice A l.length c] w fun e w' => e = .returned (.int .u32 (Crc.more 0 l : Nat)) ∧ w = w' := by
  have HC := Lib.hid hc
  clear hc
  go_enter Try.func9, Try.ntmps9
  go_wp2_with (go_at_call 11; refine (rmore_any 0 _ _ l _ (by omega) hl HC.out).mono ?_; rintro e w' ⟨rfl, rfl⟩)
  go_ret
  exact ⟨rfl, rfl⟩

end Go.Proofs.Ytljlipdpbflffaa
