/- Contracts: the document's answer on forms and numbers. -/
import Derived.Test.YthncabfeieombaaPackHeld
namespace Go.Proofs.Ythncabfeieombaa
open Go.RowKit

set_option maxHeartbeats 4000000 in
theorem letters_any (s : ByteArray) (w : World) (hs : s.size ≤ maxLen) :
    Calls Try.prog 21 #[.string s] w fun e w' => e = .returned (.tuple #[.string (letsS s), .bool (Pk.often (bs s)), .bool (Pk.fine (bs s))]) ∧ w = w' := by
  unfold maxLen at hs
  by_cases h0 : s.size = 0
  · have d0 : (s.toList == []) = true := by rw [toList_bs, List.eq_nil_of_length_eq_zero (show (bs s).length = 0 by rw [bs_length]; exact h0)]; rfl
    have ho : Pk.often (bs s) = false := by
      cases e : Pk.often (bs s) with
      | false => rfl
      | true => have := size_of_often e; omega
    have HE : Hid (letsS s = s) := by unfold Hid letsS; rw [ho]; rfl
    have HF : Hid (Pk.fine (bs s) = false) := not_fine_nil _ (by rw [← bs_letsS, HE.out]; exact List.eq_nil_of_length_eq_zero (by rw [bs_length]; exact h0))
    have d1 : decide ((s.size : Int) ≤ 20) = true := decide_eq_true (by omega)
    rw [ho]
    clear ho
    generalize letsS s = T at *
    go_enter Try.func21, Try.ntmps21
    go_wp2
    go_loop [7, 8] (fun x y => ∃ k : Nat, k ≤ s.size ∧ y = .int .i64 k ∧ x = .bool false) (fun _ y => s.size - (intOf y).toNat)
    case atStart => exact ⟨0, by omega, rfl, rfl⟩
    case round =>
      obtain ⟨k, hk, rfl, rfl⟩ := hrel
      by_cases hlt : k < s.size
      · exact absurd hlt (by omega)
      · have hkl : k = s.size := by omega
        subst hkl
        go_wp2
        go_ret3
        exact ⟨by rw [HF.out, HE.out]; rfl, rfl⟩
  · have hpos : 0 < s.size := by omega
    have d0 : (s.toList == []) = false := by
      rw [toList_bs]
      cases e : bs s with
      | nil => have := bs_length s; rw [e] at this; simp at this; omega
      | cons x y => rfl
    have HL := Lib.hid (bs_letsS s)
    have is1 : (0 : Int) ≤ (s.size : Int) - 1 := by omega
    have is2 : (s.size : Int) - 1 < (s.size : Int) := by omega
    have hlt1 : s.size - 1 < s.size := by omega
    have hlast : Pk.often (bs s) = (s[s.size - 1]'hlt1 == 43) := by
      unfold Pk.often
      rw [List.getLast?_eq_getElem?, bs_length, bs_get s _ hlt1]
      simp
    clear h0
    cases ho : Pk.often (bs s) with
    | true =>
      have h43 : ((s[s.size - 1]'hlt1).toNat : Int) = 43 := by
        rw [ho] at hlast
        have : s[s.size - 1]'hlt1 = 43 := by simpa using hlast.symm
        rw [this]; rfl
      have HE : Hid (letsS s = s.extract 0 (s.size - 1)) := by unfold Hid letsS; rw [ho]; rfl
      rw [HE.out] at HL
      have hls : (s.extract 0 (s.size - 1)).size ≤ 9223372036854775807 := by rw [ByteArray.size_extract]; omega
      clear ho hlast
      generalize letsS s = T at *
      by_cases hlong : s.size ≤ 20
      · have d1 : decide ((s.size : Int) ≤ 20) = true := decide_eq_true (by omega)
        by_cases hnil : bs (s.extract 0 (s.size - 1)) = []
        · have d2 : ((s.extract 0 (s.size - 1)).toList == []) = true := by rw [toList_bs, hnil]; rfl
          have HF : Hid (Pk.fine (bs s) = false) := not_fine_nil _ (by rw [← HL.out]; exact hnil)
          clear hnil
          go_enter Try.func21, Try.ntmps21
          go_wp2
          generalize s.extract 0 (s.size - 1) = L at *
          go_loop [7, 8] (fun x y => ∃ k : Nat, k ≤ L.size ∧ y = .int .i64 k ∧ x = .bool false) (fun _ y => L.size - (intOf y).toNat)
          case atStart => exact ⟨0, by omega, rfl, rfl⟩
          case round =>
            obtain ⟨k, hk, rfl, rfl⟩ := hrel
            by_cases hlt : k < L.size
            · go_wp2
              go_round
              case rel => exact ⟨k + 1, by omega, by go_num, rfl⟩
              case measure => simp [intOf]; omega
            · have hkl : k = L.size := by omega
              subst hkl
              go_wp2
              go_ret3
              exact ⟨by rw [HF.out, HE.out]; rfl, rfl⟩
        · have d2 : ((s.extract 0 (s.size - 1)).toList == []) = false := by
            rw [toList_bs]
            cases e : bs (s.extract 0 (s.size - 1)) with
            | nil => exact absurd e hnil
            | cons x y => rfl
          have HF : Hid (Pk.fine (bs s) = (bs (s.extract 0 (s.size - 1))).all Pk.isLet) := by
            have := fine_of (bs s) (by rw [bs_length]; exact hlong) (by rw [← HL.out]; exact hnil)
            rw [← HL.out] at this; exact this
          clear hnil
          go_enter Try.func21, Try.ntmps21
          go_wp2
          generalize s.extract 0 (s.size - 1) = L at *
          go_loop [7, 8] (fun x y => ∃ (k : Nat) (v : Bool), k ≤ L.size ∧ y = .int .i64 k ∧ x = .bool v ∧ Hid (((bs L).take k).all Pk.isLet = v)) (fun _ y => L.size - (intOf y).toNat)
          case atStart => exact ⟨0, true, by omega, rfl, rfl, rfl⟩
          case round =>
            obtain ⟨k, v, hk, rfl, rfl, HA⟩ := hrel
            by_cases hlt : k < L.size
            · have HCL := Lib.hid (bs_get L k hlt)
              have HAT := Lib.hid (all_take (bs L) Pk.isLet k _ HCL.out)
              rw [HA.out] at HAT
              cases v with
              | false =>
                go_wp2
                go_round
                case rel => exact ⟨k + 1, false, by omega, by go_num, rfl, HAT.out⟩
                case measure => simp [intOf]; omega
              | true =>
                by_cases c1 : L[k]'hlt = 110
                · have b1 : ((L[k]'hlt).toNat : Int) = 110 := by rw [c1]; rfl
                  rw [c1] at HAT
                  clear c1 HCL
                  go_wp2
                  go_round
                  case rel => exact ⟨k + 1, true, by omega, by go_num, rfl, HAT.out⟩
                  case measure => simp [intOf]; omega
                · have b1 : (((L[k]'hlt).toNat : Int) == 110) = false := beq_eq_false_iff_ne.2 (u8_ne c1)
                  by_cases c2 : L[k]'hlt = 116
                  · have b2 : (((L[k]'hlt).toNat : Int) == 116) = true := by rw [c2]; rfl
                    rw [c2] at HAT
                    clear c1 c2 HCL
                    go_wp2
                    go_round
                    case rel => exact ⟨k + 1, true, by omega, by go_num, rfl, HAT.out⟩
                    case measure => simp [intOf]; omega
                  · have b2 : (((L[k]'hlt).toNat : Int) == 116) = false := beq_eq_false_iff_ne.2 (u8_ne c2)
                    have HN : Hid (((bs L).take (k + 1)).all Pk.isLet = false) := by
                      unfold Hid
                      rw [HAT.out]
                      unfold Pk.isLet
                      rw [beq_eq_false_iff_ne.2 c1, beq_eq_false_iff_ne.2 c2]
                      rfl
                    clear c1 c2 HAT HCL
                    go_wp2
                    go_round
                    case rel => exact ⟨k + 1, false, by omega, by go_num, rfl, HN.out⟩
                    case measure => simp [intOf]; omega
            · have hkl : k = L.size := by omega
              have HR : Hid (v = Pk.fine (bs s)) := by
                unfold Hid
                rw [HF.out, ← HA.out, hkl, ← bs_length, List.take_length]
              subst hkl
              go_wp2
              go_ret3
              exact ⟨by rw [← HR.out, HE.out]; rfl, rfl⟩
      · have d1 : decide ((s.size : Int) ≤ 20) = false := decide_eq_false (by omega)
        have HF : Hid (Pk.fine (bs s) = false) := not_fine_long _ (by rw [bs_length]; exact hlong)
        clear hlong
        go_enter Try.func21, Try.ntmps21
        go_wp2
        generalize s.extract 0 (s.size - 1) = L at *
        go_loop [7, 8] (fun x y => ∃ k : Nat, k ≤ L.size ∧ y = .int .i64 k ∧ x = .bool false) (fun _ y => L.size - (intOf y).toNat)
        case atStart => exact ⟨0, by omega, rfl, rfl⟩
        case round =>
          obtain ⟨k, hk, rfl, rfl⟩ := hrel
          by_cases hlt : k < L.size
          · go_wp2
            go_round
            case rel => exact ⟨k + 1, by omega, by go_num, rfl⟩
            case measure => simp [intOf]; omega
          · have hkl : k = L.size := by omega
            subst hkl
            go_wp2
            go_ret3
            exact ⟨by rw [HF.out, HE.out]; rfl, rfl⟩
    | false =>
      have h43 : (((s[s.size - 1]'hlt1).toNat : Int) == 43) = false := by
        rw [ho] at hlast
        exact beq_eq_false_iff_ne.2 (u8_ne (by simpa using hlast.symm))
      have HE : Hid (letsS s = s) := by unfold Hid letsS; rw [ho]; rfl
      rw [HE.out] at HL
      clear ho hlast
      generalize letsS s = T at *
      by_cases hlong : s.size ≤ 20
      · have d1 : decide ((s.size : Int) ≤ 20) = true := decide_eq_true (by omega)
        by_cases hnil : bs s = []
        · exfalso
          rw [toList_bs, hnil] at d0
          exact absurd d0 (by decide)
        · have HF : Hid (Pk.fine (bs s) = (bs s).all Pk.isLet) := by
            have := fine_of (bs s) (by rw [bs_length]; exact hlong) (by rw [← HL.out]; exact hnil)
            rw [← HL.out] at this; exact this
          clear hnil
          go_enter Try.func21, Try.ntmps21
          go_wp2
          go_loop [7, 8] (fun x y => ∃ (k : Nat) (v : Bool), k ≤ s.size ∧ y = .int .i64 k ∧ x = .bool v ∧ Hid (((bs s).take k).all Pk.isLet = v)) (fun _ y => s.size - (intOf y).toNat)
          case atStart => exact ⟨0, true, by omega, rfl, rfl, rfl⟩
          case round =>
            obtain ⟨k, v, hk, rfl, rfl, HA⟩ := hrel
            by_cases hlt : k < s.size
            · have HCL := Lib.hid (bs_get s k hlt)
              have HAT := Lib.hid (all_take (bs s) Pk.isLet k _ HCL.out)
              rw [HA.out] at HAT
              cases v with
              | false =>
                go_wp2
                go_round
                case rel => exact ⟨k + 1, false, by omega, by go_num, rfl, HAT.out⟩
                case measure => simp [intOf]; omega
              | true =>
                by_cases c1 : s[k]'hlt = 110
                · have b1 : ((s[k]'hlt).toNat : Int) = 110 := by rw [c1]; rfl
                  rw [c1] at HAT
                  clear c1 HCL
                  go_wp2
                  go_round
                  case rel => exact ⟨k + 1, true, by omega, by go_num, rfl, HAT.out⟩
                  case measure => simp [intOf]; omega
                · have b1 : (((s[k]'hlt).toNat : Int) == 110) = false := beq_eq_false_iff_ne.2 (u8_ne c1)
                  by_cases c2 : s[k]'hlt = 116
                  · have b2 : (((s[k]'hlt).toNat : Int) == 116) = true := by rw [c2]; rfl
                    rw [c2] at HAT
                    clear c1 c2 HCL
                    go_wp2
                    go_round
                    case rel => exact ⟨k + 1, true, by omega, by go_num, rfl, HAT.out⟩
                    case measure => simp [intOf]; omega
                  · have b2 : (((s[k]'hlt).toNat : Int) == 116) = false := beq_eq_false_iff_ne.2 (u8_ne c2)
                    have HN : Hid (((bs s).take (k + 1)).all Pk.isLet = false) := by
                      unfold Hid
                      rw [HAT.out]
                      unfold Pk.isLet
                      rw [beq_eq_false_iff_ne.2 c1, beq_eq_false_iff_ne.2 c2]
                      rfl
                    clear c1 c2 HAT HCL
                    go_wp2
                    go_round
                    case rel => exact ⟨k + 1, false, by omega, by go_num, rfl, HN.out⟩
                    case measure => simp [intOf]; omega
            · have hkl : k = s.size := by omega
              have HR : Hid (v = Pk.fine (bs s)) := by
                unfold Hid
                rw [HF.out, ← HA.out, hkl, ← bs_length, List.take_length]
              subst hkl
              go_wp2
              go_ret3
              exact ⟨by rw [← HR.out, HE.out]; rfl, rfl⟩
      · have d1 : decide ((s.size : Int) ≤ 20) = false := decide_eq_false (by omega)
        have HF : Hid (Pk.fine (bs s) = false) := not_fine_long _ (by rw [bs_length]; exact hlong)
        clear hlong
        go_enter Try.func21, Try.ntmps21
        go_wp2
        go_loop [7, 8] (fun x y => ∃ k : Nat, k ≤ s.size ∧ y = .int .i64 k ∧ x = .bool false) (fun _ y => s.size - (intOf y).toNat)
        case atStart => exact ⟨0, by omega, rfl, rfl⟩
        case round =>
          obtain ⟨k, hk, rfl, rfl⟩ := hrel
          by_cases hlt : k < s.size
          · go_wp2
            go_round
            case rel => exact ⟨k + 1, by omega, by go_num, rfl⟩
            case measure => simp [intOf]; omega
          · have hkl : k = s.size := by omega
            subst hkl
            go_wp2
            go_ret3
            exact ⟨by rw [HF.out, HE.out]; rfl, rfl⟩

set_option maxHeartbeats 400000 in
theorem may_any (c : UInt8) (v : Pk.V) (w : World) (hn : v.2.size ≤ maxLen) :
    Calls Try.prog 22 #[.agg #[.int .i64 v.1, .string v.2], .int .u8 (c.toNat : Int)] w fun e w' => e = .returned (.bool (Pk.isVal c v)) ∧ Below w.heap.size w w' := by
  obtain ⟨n, t⟩ := v
  unfold maxLen at hn
  simp only at hn ⊢
  have HB : Hid (∀ o, Below w.heap.size w (w.alloc o)) := fun o => (Below.refl _ _).alloc (Nat.le_refl _) o
  by_cases hc : c = 110
  · subst hc
    have HE := Lib.hid (isVal_n n t)
    have hi := isEmpty_size t
    generalize Pk.isVal 110 (n, t) = r at *
    cases d0 : decide (t.size = 0) <;> rw [d0] at HE hi <;> cases d1 : decide (-4611686018427387904 ≤ n) <;> rw [d1] at HE <;> cases d2 : decide (n ≤ 4611686018427387904) <;> rw [d2] at HE <;>
      (clear d0
       go_enter Try.func22, Try.ntmps22
       go_wp2
       go_ret
       exact ⟨by rw [HE.out]; rfl, HB.out _⟩)
  · have HE := Lib.hid (isVal_t c n t hc)
    have hc' : ((c.toNat : Int) == 110) = false := beq_eq_false_iff_ne.2 (u8_ne hc)
    clear hc
    generalize Pk.isVal c (n, t) = r at *
    by_cases d0 : n = 0
    · subst d0
      cases d1 : decide (t.size ≤ 1000) with
      | true =>
        have d2 : decide ((t.size : Int) ≤ 1000) = true := decide_eq_true (by have := of_decide_eq_true d1; omega)
        rw [d1] at HE
        clear d1
        go_enter Try.func22, Try.ntmps22
        go_wp2
        go_ret
        exact ⟨by rw [HE.out]; rfl, HB.out _⟩
      | false =>
        have d2 : decide ((t.size : Int) ≤ 1000) = false := decide_eq_false (by have := of_decide_eq_false d1; omega)
        rw [d1] at HE
        clear d1
        go_enter Try.func22, Try.ntmps22
        go_wp2
        go_ret
        exact ⟨by rw [HE.out]; rfl, HB.out _⟩
    · have d1 : (n == 0) = false := beq_eq_false_iff_ne.2 d0
      rw [decide_eq_false d0] at HE
      clear d0
      go_enter Try.func22, Try.ntmps22
      go_wp2
      go_ret
      exact ⟨by rw [HE.out]; rfl, HB.out _⟩

end Go.Proofs.Ythncabfeieombaa
