/- Contract: the document's answer takes a number from bytes. -/
import Derived.Test.YthncabfeieombaaPackRf
namespace Go.Proofs.Ythncabfeieombaa
open Go.RowKit

/-- what the document's take tells -/
def RTupleV (u n t : Nat) : Value := .tuple #[.int .i64 (Pk.zag u), .int .i64 ((n - t : Nat) : Int), .int .i64 0]
def RTakePost (X : Except Nat (Nat × Pk.Bs)) (n : Nat) (w : World) (e : Ending) (w' : World) : Prop :=
  match X with
  | .error q => e = .returned (.tuple #[.int .i64 0, .int .i64 0, .int .i64 (q : Int)]) ∧ Below w.heap.size w w'
  | .ok (u, t) => e = .returned (RTupleV u n t.length) ∧ Below w.heap.size w w'

theorem mayZag (U : Nat) (hU : U < 18446744073709551616) (w : World) :
    Calls Try.prog 22 #[.agg #[.int .i64 (Pk.zag U), .string ⟨#[]⟩], .int .u8 110] w fun e w' => e = .returned (.bool (decide (U ≤ 9223372036854775808))) ∧ Below w.heap.size w w' := by
  refine (may_any 110 (Pk.zag U, ⟨#[]⟩) w (show (⟨#[]⟩ : ByteArray).size ≤ maxLen by decide)).mono ?_
  rintro e w' ⟨rfl, hb⟩
  refine ⟨?_, hb⟩
  rw [isVal_n]
  have h0 : decide ((⟨#[]⟩ : ByteArray).size = 0) = true := by decide
  rw [h0, Bool.true_and, ← Bool.decide_and]
  by_cases h : U ≤ 9223372036854775808
  · rw [decide_eq_true h, decide_eq_true (Pk.zag_in h)]
  · rw [decide_eq_false h, decide_eq_false (Pk.zag_out (by omega))]

set_option maxHeartbeats 8000000 in
set_option maxRecDepth 100000 in
theorem rtake_any (A : Option Addr) (n c at_ : Nat) (l : Pk.Bs) (w : World) (hn : l.length = n) (hlen : n ≤ 100000) (hat : at_ ≤ n) (hb : BytesIn w w.heap.size A l) :
    Calls Try.prog 26 #[.slice A n c, .int .i64 at_] w fun e w' => RTakePost (Pk.fold 0 0 (l.drop at_)) n w e w' := by
  have HBY := Lib.hid hb
  have HN := Lib.hid hn
  clear hb hn
  generalize hX : Pk.fold 0 0 (l.drop at_) = X
  have HX := Lib.hid hX
  clear hX
  go_enter Try.func26, Try.ntmps26
  go_wp2
  go_loop [1, 7, 8, 9] (fun s1 s7 s8 s9 => ∃ (k u P : Nat), k ≤ 9 ∧ at_ + k ≤ n ∧ s1 = .int .i64 at_ ∧ s7 = .int .u64 u ∧ s8 = .int .u64 P ∧ s9 = .int .i64 k ∧ u < P ∧ Hid (P = 128 ^ k) ∧ Hid (Pk.fold k u (l.drop (at_ + k)) = X)) (fun _ _ _ s9 => 10 - (intOf s9).toNat)
  case atStart => exact ⟨0, 0, 1, by omega, by omega, rfl, rfl, rfl, rfl, by omega, rfl, HX.out⟩
  case round =>
    obtain ⟨k, u, P, hk9, hkn, rfl, rfl, rfl, rfl, huP, HP, HF⟩ := hrel
    have hP63 : P ≤ 9223372036854775808 := by
      rw [HP.out]
      have h9 : 128 ^ k ≤ 128 ^ 9 := Nat.pow_le_pow_right (by omega) hk9
      have h8 : (128 : Nat) ^ 9 = 9223372036854775808 := by decide
      omega
    have hP8 : k ≤ 8 → P ≤ 72057594037927936 := fun h => by
      rw [HP.out]
      have h9 : 128 ^ k ≤ 128 ^ 8 := Nat.pow_le_pow_right (by omega) h
      have h8 : (128 : Nat) ^ 8 = 72057594037927936 := by decide
      omega
    by_cases hkl : at_ + k < n
    · obtain ⟨b, hb⟩ := some_at l (at_ + k) (by rw [HN.out]; exact hkl)
      obtain ⟨ad, rfl, _, hcell⟩ := BytesIn.at_ HBY.out hb
      rw [drop_cons hb, Pk.fold, if_neg (by omega)] at HF
      clear hb
      have hx := Pk.u8_lt b
      have HDT : Hid (((n - (l.drop (at_ + k + 1)).length : Nat) : Int) = (at_ : Int) + (k : Int) + 1) := by unfold Hid; rw [List.length_drop, HN.out]; omega
      have i1 : (0 : Int) ≤ (at_ : Int) + (k : Int) := by omega
      have i2 : (at_ : Int) + (k : Int) < (n : Int) := by omega
      have d0 : decide ((n : Int) ≤ (at_ : Int) + (k : Int)) = false := decide_eq_false (by omega)
      by_cases h1 : 0 < k ∧ b.toNat = 0
      · have d1 : decide ((0 : Int) < (k : Int)) = true := decide_eq_true (by omega)
        have d2 : ((b.toNat : Int) == 0) = true := by rw [h1.2]; rfl
        rw [if_neg (by omega), if_pos (.inl ⟨h1.2, h1.1⟩)] at HF
        have hk0 := h1.1
        clear h1
        go_wp2
        go_ret3
        rw [← HF.out]
        exact ⟨rfl, Below.refl _ _⟩
      · by_cases h2 : k = 9 ∧ 1 < b.toNat
        · obtain ⟨hk9', h2⟩ := h2
          have hk0 : 0 < k := by omega
          have e9 : ((k : Int) == 9) = true := by rw [hk9']; rfl
          have d3 : decide ((1 : Int) < (b.toNat : Int)) = true := decide_eq_true (by omega)
          have d2 : ((b.toNat : Int) == 0) = false := beq_eq_false_iff_ne.2 (by omega)
          have HXE : Hid (Except.error 2 = X) := by
            unfold Hid
            rw [← HF.out]
            by_cases hg : 128 ≤ b.toNat
            · rw [if_pos hg]
              rw [hk9']
              cases l.drop (at_ + 9 + 1) <;> rfl
            · rw [if_neg hg, if_pos (.inr (.inl ⟨h2, hk9'⟩))]
          clear HF h1 hk9'
          go_wp2
          go_ret3
          rw [← HXE.out]
          exact ⟨rfl, Below.refl _ _⟩
        · have d1 : (decide ((0 : Int) < (k : Int)) && ((b.toNat : Int) == 0)) = false := by
            by_cases hk0 : 0 < k
            · have : ((b.toNat : Int) == 0) = false := beq_eq_false_iff_ne.2 (fun e => h1 ⟨hk0, by omega⟩)
              rw [this, Bool.and_false]
            · rw [decide_eq_false (by omega)]; rfl
          obtain ⟨M, hM⟩ : ∃ M : Nat, b.toNat % 128 * P = M := ⟨_, rfl⟩
          have hMI : ((b.toNat : Int) % 128) * (P : Int) = (M : Int) := by rw [← hM]; simp
          have hMle : M ≤ 127 * P := by rw [← hM]; exact Nat.mul_le_mul_right _ (by omega)
          have hMl1 : k = 9 → M ≤ P := fun h => by
            rw [← hM]
            have : b.toNat % 128 ≤ 1 := by have : ¬ 1 < b.toNat := fun e => h2 ⟨h, e⟩; omega
            have := Nat.mul_le_mul_right P this
            omega
          have hUl : u + M < 18446744073709551616 := by
            by_cases h9 : k = 9
            · have := hMl1 h9; omega
            · have := hP8 (by omega); omega
          rw [← HP.out, hM] at HF
          obtain ⟨U, hU⟩ : ∃ U : Nat, u + M = U := ⟨_, rfl⟩
          have hUI : (u : Int) + (M : Int) = (U : Int) := by omega
          rw [hU] at HF hUl
          by_cases hk0 : 0 < k
          · have e0 : decide ((0 : Int) < (k : Int)) = true := decide_eq_true (by omega)
            have e2 : ((b.toNat : Int) == 0) = false := beq_eq_false_iff_ne.2 (fun e => h1 ⟨hk0, by omega⟩)
            clear d1
            by_cases h9 : k = 9
            · have e9 : ((k : Int) == 9) = true := by rw [h9]; rfl
              have hb1' : b.toNat ≤ 1 := by
                rcases Nat.lt_or_ge 1 b.toNat with h | h
                · exact absurd ⟨h9, h⟩ h2
                · exact h
              have H9 := Lib.hid h9
              clear h9
              have e3 : decide ((1 : Int) < (b.toNat : Int)) = false := decide_eq_false (by omega)
              have e4 : decide ((b.toNat : Int) < 128) = true := decide_eq_true (by omega)
              have HXU : Hid (X = if 9223372036854775808 < U then .error 2 else .ok (U, l.drop (at_ + k + 1))) := by
                unfold Hid
                rw [← HF.out, if_neg (by omega)]
                by_cases hbb : 9223372036854775808 < U
                · rw [if_pos (.inr (.inr hbb)), if_pos hbb]
                · rw [if_neg hbb, if_neg]
                  rintro (h | h | h)
                  · exact h1 ⟨h.2, h.1⟩
                  · exact h2 ⟨h.2, h.1⟩
                  · exact hbb h
              have HMY := Lib.hid (mayZag U hUl)
              clear HF h1 h2 hM hMle hMl1 hP8 hU
              have hU64 : U < 18446744073709551616 := hUl
              by_cases hodd : U % 2 = 1
              · have e1 : ((U : Int) % 2 == 1) = true := by
                  have : (U : Int) % 2 = 1 := by omega
                  rw [this]; rfl
                have HZ : Hid (Pk.zag U = -1 - (U : Int) / 2) := by unfold Hid Pk.zag; rw [if_pos hodd]; omega
                rw [HZ.out] at HMY
                clear hodd
                by_cases hbig : 9223372036854775808 < U
                · rw [decide_eq_false (by omega)] at HMY
                  have HXE : Hid (X = .error 2) := HXU.out.trans (if_pos hbig)
                  clear hbig HXU
                  go_wp2_with (go_at_call 22; refine (HMY.out _).mono ?_; rintro e w1 ⟨rfl, hb1⟩; have HB1 := Lib.hid hb1; clear hb1)
                  go_ret3
                  rw [HXE.out]
                  exact ⟨rfl, HB1.out⟩
                · rw [decide_eq_true (by omega)] at HMY
                  have HXO : Hid (X = .ok (U, l.drop (at_ + k + 1))) := HXU.out.trans (if_neg hbig)
                  clear hbig HXU
                  go_wp2_with (go_at_call 22; refine (HMY.out _).mono ?_; rintro e w1 ⟨rfl, hb1⟩; have HB1 := Lib.hid hb1; clear hb1)
                  go_ret3
                  rw [HXO.out]
                  exact ⟨by unfold RTupleV; rw [HZ.out, HDT.out]; rfl, HB1.out⟩
              · have e1 : ((U : Int) % 2 == 1) = false := beq_eq_false_iff_ne.2 (by omega)
                have HZ : Hid (Pk.zag U = (U : Int) / 2) := by unfold Hid Pk.zag; rw [if_neg hodd]; omega
                rw [HZ.out] at HMY
                clear hodd
                by_cases hbig : 9223372036854775808 < U
                · rw [decide_eq_false (by omega)] at HMY
                  have HXE : Hid (X = .error 2) := HXU.out.trans (if_pos hbig)
                  clear hbig HXU
                  go_wp2_with (go_at_call 22; refine (HMY.out _).mono ?_; rintro e w1 ⟨rfl, hb1⟩; have HB1 := Lib.hid hb1; clear hb1)
                  go_ret3
                  rw [HXE.out]
                  exact ⟨rfl, HB1.out⟩
                · rw [decide_eq_true (by omega)] at HMY
                  have HXO : Hid (X = .ok (U, l.drop (at_ + k + 1))) := HXU.out.trans (if_neg hbig)
                  clear hbig HXU
                  go_wp2_with (go_at_call 22; refine (HMY.out _).mono ?_; rintro e w1 ⟨rfl, hb1⟩; have HB1 := Lib.hid hb1; clear hb1)
                  go_ret3
                  rw [HXO.out]
                  exact ⟨by unfold RTupleV; rw [HZ.out, HDT.out]; rfl, HB1.out⟩
            · have e9 : ((k : Int) == 9) = false := beq_eq_false_iff_ne.2 (by omega)
              have hp8 := hP8 (by omega)
              by_cases hg : 128 ≤ b.toNat
              · have e4 : decide ((b.toNat : Int) < 128) = false := decide_eq_false (by omega)
                rw [if_pos hg] at HF
                have HP' : Hid (128 * P = 128 ^ (k + 1)) := by unfold Hid; rw [Nat.pow_succ, ← HP.out]; omega
                have hUP : U < 128 * P := by omega
                clear h1 h2 hM hMl1 hP8 hU hg
                go_wp2
                go_round
                case rel => exact ⟨k + 1, U, 128 * P, by omega, by omega, rfl, by first | rfl | go_num, by first | rfl | go_num, by first | rfl | go_num, hUP, HP'.out, by rw [← HF.out]; rfl⟩
                case measure => simp [intOf]; omega
              · have e4 : decide ((b.toNat : Int) < 128) = true := decide_eq_true (by omega)
                have HXU : Hid (X = if 9223372036854775808 < U then .error 2 else .ok (U, l.drop (at_ + k + 1))) := by
                  unfold Hid
                  rw [← HF.out, if_neg (by omega)]
                  by_cases hbb : 9223372036854775808 < U
                  · rw [if_pos (.inr (.inr hbb)), if_pos hbb]
                  · rw [if_neg hbb, if_neg]
                    rintro (h | h | h)
                    · exact h1 ⟨h.2, h.1⟩
                    · exact h2 ⟨h.2, h.1⟩
                    · exact hbb h
                have HMY := Lib.hid (mayZag U hUl)
                clear HF h1 h2 hM hMle hMl1 hP8 hU
                have hU64 : U < 18446744073709551616 := hUl
                by_cases hodd : U % 2 = 1
                · have e1 : ((U : Int) % 2 == 1) = true := by
                    have : (U : Int) % 2 = 1 := by omega
                    rw [this]; rfl
                  have HZ : Hid (Pk.zag U = -1 - (U : Int) / 2) := by unfold Hid Pk.zag; rw [if_pos hodd]; omega
                  rw [HZ.out] at HMY
                  clear hodd
                  by_cases hbig : 9223372036854775808 < U
                  · rw [decide_eq_false (by omega)] at HMY
                    have HXE : Hid (X = .error 2) := HXU.out.trans (if_pos hbig)
                    clear hbig HXU
                    go_wp2_with (go_at_call 22; refine (HMY.out _).mono ?_; rintro e w1 ⟨rfl, hb1⟩; have HB1 := Lib.hid hb1; clear hb1)
                    go_ret3
                    rw [HXE.out]
                    exact ⟨rfl, HB1.out⟩
                  · rw [decide_eq_true (by omega)] at HMY
                    have HXO : Hid (X = .ok (U, l.drop (at_ + k + 1))) := HXU.out.trans (if_neg hbig)
                    clear hbig HXU
                    go_wp2_with (go_at_call 22; refine (HMY.out _).mono ?_; rintro e w1 ⟨rfl, hb1⟩; have HB1 := Lib.hid hb1; clear hb1)
                    go_ret3
                    rw [HXO.out]
                    exact ⟨by unfold RTupleV; rw [HZ.out, HDT.out]; rfl, HB1.out⟩
                · have e1 : ((U : Int) % 2 == 1) = false := beq_eq_false_iff_ne.2 (by omega)
                  have HZ : Hid (Pk.zag U = (U : Int) / 2) := by unfold Hid Pk.zag; rw [if_neg hodd]; omega
                  rw [HZ.out] at HMY
                  clear hodd
                  by_cases hbig : 9223372036854775808 < U
                  · rw [decide_eq_false (by omega)] at HMY
                    have HXE : Hid (X = .error 2) := HXU.out.trans (if_pos hbig)
                    clear hbig HXU
                    go_wp2_with (go_at_call 22; refine (HMY.out _).mono ?_; rintro e w1 ⟨rfl, hb1⟩; have HB1 := Lib.hid hb1; clear hb1)
                    go_ret3
                    rw [HXE.out]
                    exact ⟨rfl, HB1.out⟩
                  · rw [decide_eq_true (by omega)] at HMY
                    have HXO : Hid (X = .ok (U, l.drop (at_ + k + 1))) := HXU.out.trans (if_neg hbig)
                    clear hbig HXU
                    go_wp2_with (go_at_call 22; refine (HMY.out _).mono ?_; rintro e w1 ⟨rfl, hb1⟩; have HB1 := Lib.hid hb1; clear hb1)
                    go_ret3
                    rw [HXO.out]
                    exact ⟨by unfold RTupleV; rw [HZ.out, HDT.out]; rfl, HB1.out⟩
          · have e0 : decide ((0 : Int) < (k : Int)) = false := decide_eq_false (by omega)
            have e9 : ((k : Int) == 9) = false := beq_eq_false_iff_ne.2 (by omega)
            have hp8 := hP8 (by omega)
            clear d1
            by_cases hg : 128 ≤ b.toNat
            · have e4 : decide ((b.toNat : Int) < 128) = false := decide_eq_false (by omega)
              rw [if_pos hg] at HF
              have HP' : Hid (128 * P = 128 ^ (k + 1)) := by unfold Hid; rw [Nat.pow_succ, ← HP.out]; omega
              have hUP : U < 128 * P := by omega
              clear h1 h2 hM hMl1 hP8 hU hg
              go_wp2
              go_round
              case rel => exact ⟨k + 1, U, 128 * P, by omega, by omega, rfl, by first | rfl | go_num, by first | rfl | go_num, by first | rfl | go_num, hUP, HP'.out, by rw [← HF.out]; rfl⟩
              case measure => simp [intOf]; omega
            · have e4 : decide ((b.toNat : Int) < 128) = true := decide_eq_true (by omega)
              have HXU : Hid (X = if 9223372036854775808 < U then .error 2 else .ok (U, l.drop (at_ + k + 1))) := by
                unfold Hid
                rw [← HF.out, if_neg (by omega)]
                by_cases hbb : 9223372036854775808 < U
                · rw [if_pos (.inr (.inr hbb)), if_pos hbb]
                · rw [if_neg hbb, if_neg]
                  rintro (h | h | h)
                  · exact h1 ⟨h.2, h.1⟩
                  · exact h2 ⟨h.2, h.1⟩
                  · exact hbb h
              have HMY := Lib.hid (mayZag U hUl)
              clear HF h1 h2 hM hMle hMl1 hP8 hU
              have hU64 : U < 18446744073709551616 := hUl
              by_cases hodd : U % 2 = 1
              · have e1 : ((U : Int) % 2 == 1) = true := by
                  have : (U : Int) % 2 = 1 := by omega
                  rw [this]; rfl
                have HZ : Hid (Pk.zag U = -1 - (U : Int) / 2) := by unfold Hid Pk.zag; rw [if_pos hodd]; omega
                rw [HZ.out] at HMY
                clear hodd
                by_cases hbig : 9223372036854775808 < U
                · rw [decide_eq_false (by omega)] at HMY
                  have HXE : Hid (X = .error 2) := HXU.out.trans (if_pos hbig)
                  clear hbig HXU
                  go_wp2_with (go_at_call 22; refine (HMY.out _).mono ?_; rintro e w1 ⟨rfl, hb1⟩; have HB1 := Lib.hid hb1; clear hb1)
                  go_ret3
                  rw [HXE.out]
                  exact ⟨rfl, HB1.out⟩
                · rw [decide_eq_true (by omega)] at HMY
                  have HXO : Hid (X = .ok (U, l.drop (at_ + k + 1))) := HXU.out.trans (if_neg hbig)
                  clear hbig HXU
                  go_wp2_with (go_at_call 22; refine (HMY.out _).mono ?_; rintro e w1 ⟨rfl, hb1⟩; have HB1 := Lib.hid hb1; clear hb1)
                  go_ret3
                  rw [HXO.out]
                  exact ⟨by unfold RTupleV; rw [HZ.out, HDT.out]; rfl, HB1.out⟩
              · have e1 : ((U : Int) % 2 == 1) = false := beq_eq_false_iff_ne.2 (by omega)
                have HZ : Hid (Pk.zag U = (U : Int) / 2) := by unfold Hid Pk.zag; rw [if_neg hodd]; omega
                rw [HZ.out] at HMY
                clear hodd
                by_cases hbig : 9223372036854775808 < U
                · rw [decide_eq_false (by omega)] at HMY
                  have HXE : Hid (X = .error 2) := HXU.out.trans (if_pos hbig)
                  clear hbig HXU
                  go_wp2_with (go_at_call 22; refine (HMY.out _).mono ?_; rintro e w1 ⟨rfl, hb1⟩; have HB1 := Lib.hid hb1; clear hb1)
                  go_ret3
                  rw [HXE.out]
                  exact ⟨rfl, HB1.out⟩
                · rw [decide_eq_true (by omega)] at HMY
                  have HXO : Hid (X = .ok (U, l.drop (at_ + k + 1))) := HXU.out.trans (if_neg hbig)
                  clear hbig HXU
                  go_wp2_with (go_at_call 22; refine (HMY.out _).mono ?_; rintro e w1 ⟨rfl, hb1⟩; have HB1 := Lib.hid hb1; clear hb1)
                  go_ret3
                  rw [HXO.out]
                  exact ⟨by unfold RTupleV; rw [HZ.out, HDT.out]; rfl, HB1.out⟩
    · have d0 : decide ((n : Int) ≤ (at_ : Int) + (k : Int)) = true := decide_eq_true (by omega)
      have HXE : Hid (Except.error 3 = X) := by
        unfold Hid
        rw [← HF.out, List.drop_of_length_le (by rw [HN.out]; omega), Pk.fold, if_neg (by omega)]
      clear HF
      go_wp2
      go_ret3
      rw [← HXE.out]
      exact ⟨rfl, Below.refl _ _⟩

end Go.Proofs.Ythncabfeieombaa
