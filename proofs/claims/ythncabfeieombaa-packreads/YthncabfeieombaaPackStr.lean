/- Contracts: a form's letters, by package pack (strings.CutSuffix among it) and by the document's answer. -/
import Derived.Test.YthncabfeieombaaProg
import Derived.Test.YthncabfeieombaaPackMath
import Derived.WalkKit
import Derived.WalkSpells
import Derived.WalkLawsBesides
import Derived.Laws.BitsAllLaws
import Derived.Lib.Hide
namespace Go.Proofs.Ythncabfeieombaa
open Go.RowKit

def bs (s : ByteArray) : Pk.Bs := s.data.toList

theorem bs_length (s : ByteArray) : (bs s).length = s.size := Array.length_toList
theorem bs_ext {s t : ByteArray} (h : bs s = bs t) : s = t := by
  cases s; cases t; congr 1; exact Array.toList_inj.1 h
theorem toList_bs (s : ByteArray) : s.toList = bs s := ByteArray.toList_eq s
theorem bs_mk (l : Pk.Bs) : bs ⟨l.toArray⟩ = l := rfl

theorem bs_extract (s : ByteArray) (a b : Nat) : bs (s.extract a b) = ((bs s).take b).drop a := by
  unfold bs
  rw [ByteArray.data_extract]
  simp [List.extract_eq_take_drop, List.drop_take]

theorem bs_get (s : ByteArray) (k : Nat) (h : k < s.size) : (bs s)[k]? = some (s[k]'h) := by
  unfold bs
  rw [Array.getElem?_toList, Array.getElem?_eq_getElem (show k < s.data.size from h)]
  rfl

theorem last_eq (l : Pk.Bs) (k : Nat) (h : l.length = k + 1) : (l.drop k == [43]) = Pk.often l := by
  unfold Pk.often
  rw [List.getLast?_eq_getElem?, h, Nat.add_sub_cancel]
  have hk : k < l.length := by omega
  rw [List.drop_eq_getElem_cons hk, List.getElem?_eq_getElem hk, List.drop_eq_nil_of_le (by omega)]
  simp

theorem size_of_often {s : ByteArray} (h : Pk.often (bs s) = true) : 0 < s.size := by
  rw [← bs_length]
  unfold Pk.often at h
  cases e : bs s with
  | nil => rw [e] at h; simp at h
  | cons x y => simp

set_option maxHeartbeats 400000 in
theorem hasSuffix_plus (s : ByteArray) (w : World) (hs : s.size ≤ maxLen) :
    Calls Try.prog 37 #[.string s, .string ⟨#[43]⟩] w fun e w' => e = .returned (.bool (Pk.often (bs s))) ∧ w = w' := by
  unfold maxLen at hs
  have h1 : (⟨#[43]⟩ : ByteArray).size = 1 := rfl
  by_cases h0 : s.size = 0
  · have d1 : decide ((1 : Int) ≤ (s.size : Int)) = false := decide_eq_false (by omega)
    have HO : Hid (Pk.often (bs s) = false) := by
      cases e : Pk.often (bs s) with
      | false => rfl
      | true => have := size_of_often e; omega
    go_enter Try.func37, Try.ntmps37
    go_wp2
    go_ret
    exact ⟨by rw [HO.out]; rfl, rfl⟩
  · have d1 : decide ((1 : Int) ≤ (s.size : Int)) = true := decide_eq_true (by omega)
    have HO : Hid (((s.extract (s.size - 1) s.size).toList == [43]) = Pk.often (bs s)) := by
      show _ = _
      rw [toList_bs, bs_extract, ← bs_length, List.take_length]
      exact last_eq _ _ (by rw [bs_length]; omega)
    go_enter Try.func37, Try.ntmps37
    go_wp2
    go_ret
    exact ⟨by rw [← HO.out]; rfl, rfl⟩

/-- a form's letters, as a text -/
def letsS (s : ByteArray) : ByteArray := if Pk.often (bs s) then s.extract 0 (s.size - 1) else s
theorem bs_letsS (s : ByteArray) : bs (letsS s) = Pk.lets (bs s) := by
  unfold letsS Pk.lets
  split
  · rw [bs_extract, List.drop_zero, List.dropLast_eq_take, bs_length]
  · rfl

set_option maxHeartbeats 400000 in
theorem cutSuffixL_plus (s : ByteArray) (w : World) (hs : s.size ≤ maxLen) :
    Calls Try.prog 33 #[.string s, .string ⟨#[43]⟩] w fun e w' => e = .returned (.tuple #[.string (letsS s), .bool (Pk.often (bs s))]) ∧ w = w' := by
  have HS := Lib.hid hs
  unfold maxLen at hs
  have h1 : (⟨#[43]⟩ : ByteArray).size = 1 := rfl
  have HE : Hid (letsS s = if Pk.often (bs s) then s.extract 0 (s.size - 1) else s) := rfl
  cases ho : Pk.often (bs s) with
  | false =>
    have HO := Lib.hid ho
    clear ho
    go_enter Try.func33, Try.ntmps33
    go_wp2_with (go_at_call 37; refine (hasSuffix_plus s _ HS.out).mono ?_; rintro e w' ⟨rfl, rfl⟩; rw [HO.out])
    go_ret2
    exact ⟨by rw [HE.out, HO.out]; rfl, rfl⟩
  | true =>
    have hpos := size_of_often ho
    have HO := Lib.hid ho
    clear ho
    go_enter Try.func33, Try.ntmps33
    go_wp2_with (go_at_call 37; refine (hasSuffix_plus s _ HS.out).mono ?_; rintro e w' ⟨rfl, rfl⟩; rw [HO.out])
    go_ret2
    exact ⟨by rw [HE.out, HO.out]; rfl, rfl⟩

set_option maxHeartbeats 400000 in
theorem cutSuffix_plus (s : ByteArray) (w : World) (hs : s.size ≤ maxLen) :
    Calls Try.prog 27 #[.string s, .string ⟨#[43]⟩] w fun e w' => e = .returned (.tuple #[.string (letsS s), .bool (Pk.often (bs s))]) ∧ w = w' := by
  have HS := Lib.hid hs
  clear hs
  go_enter Try.func27, Try.ntmps27
  go_wp2_with (go_at_call 33; refine (cutSuffixL_plus s _ HS.out).mono ?_; rintro e w' ⟨rfl, rfl⟩)
  go_ret2
  exact ⟨rfl, rfl⟩

theorem fine_of (f : Pk.Bs) (h1 : f.length ≤ 20) (h2 : Pk.lets f ≠ []) : Pk.fine f = (Pk.lets f).all Pk.isLet := by
  unfold Pk.fine
  rw [decide_eq_true h1]
  cases e : Pk.lets f with
  | nil => exact absurd e h2
  | cons x y => simp

theorem not_fine_long (f : Pk.Bs) (h : ¬ f.length ≤ 20) : Pk.fine f = false := by unfold Pk.fine; rw [decide_eq_false h]; rfl
theorem not_fine_nil (f : Pk.Bs) (h : Pk.lets f = []) : Pk.fine f = false := by unfold Pk.fine; rw [h]; simp

theorem all_take (l : Pk.Bs) (p : UInt8 → Bool) (k : Nat) (c : UInt8) (h : l[k]? = some c) : (l.take (k + 1)).all p = ((l.take k).all p && p c) := by
  rw [List.take_add_one, h]; simp
theorem all_not (l : Pk.Bs) (p : UInt8 → Bool) (k : Nat) (c : UInt8) (h : l[k]? = some c) (hc : p c = false) : l.all p = false := by
  rw [List.all_eq_false]
  exact ⟨c, List.mem_of_getElem? h, by simp [hc]⟩

theorem u8_ne {c d : UInt8} (h : c ≠ d) : ¬ (c.toNat : Int) = (d.toNat : Int) := fun e => h (UInt8.toNat_inj.1 (by omega))

/-- what the program's parts tells -/
def partsR (s : ByteArray) : Value := if Pk.fine (bs s) then .tuple #[.string (letsS s), .bool (Pk.often (bs s)), .bool true] else .tuple #[.string ⟨#[]⟩, .bool false, .bool false]
theorem partsR_fine {s : ByteArray} (h : Pk.fine (bs s) = true) : partsR s = .tuple #[.string (letsS s), .bool (Pk.often (bs s)), .bool true] := by unfold partsR; rw [if_pos h]
theorem partsR_not {s : ByteArray} (h : Pk.fine (bs s) = false) : partsR s = .tuple #[.string ⟨#[]⟩, .bool false, .bool false] := by unfold partsR; rw [if_neg (by rw [h]; decide)]

set_option maxHeartbeats 1000000 in
theorem parts_any (s : ByteArray) (w : World) (hs : s.size ≤ maxLen) :
    Calls Try.prog 18 #[.string s] w fun e w' => e = .returned (partsR s) ∧ w = w' := by
  have HS := Lib.hid hs
  unfold maxLen at hs
  have HL := Lib.hid (bs_letsS s)
  by_cases hlong : s.size ≤ 20
  · have d1 : decide ((20 : Int) < (s.size : Int)) = false := decide_eq_false (by omega)
    by_cases hnil : bs (letsS s) = []
    · have d2 : ((letsS s).toList == []) = true := by rw [toList_bs, hnil]; rfl
      have HF : Hid (Pk.fine (bs s) = false) := not_fine_nil _ (by rw [← HL.out]; exact hnil)
      clear hnil
      go_enter Try.func18, Try.ntmps18
      go_wp2_with (go_at_call 27; refine (cutSuffix_plus s _ HS.out).mono ?_; rintro e w' ⟨rfl, rfl⟩)
      go_ret3
      exact ⟨by rw [partsR_not HF.out]; rfl, rfl⟩
    · have d2 : ((letsS s).toList == []) = false := by
        rw [toList_bs]
        cases e : bs (letsS s) with
        | nil => exact absurd e hnil
        | cons x y => rfl
      have HF : Hid (Pk.fine (bs s) = (bs (letsS s)).all Pk.isLet) := by
        have := fine_of (bs s) (by rw [bs_length]; exact hlong) (by rw [← HL.out]; exact hnil)
        rw [← HL.out] at this; exact this
      have hLS : (letsS s).size ≤ 20 := by
        unfold letsS
        split
        · rw [ByteArray.size_extract]; omega
        · exact hlong
      clear hnil
      go_enter Try.func18, Try.ntmps18
      go_wp2_with (go_at_call 27; refine (cutSuffix_plus s _ HS.out).mono ?_; rintro e w' ⟨rfl, rfl⟩)
      have HP := Lib.hid (@partsR_fine s)
      have HQ := Lib.hid (@partsR_not s)
      generalize letsS s = L at *
      clear d1 d2
      generalize Pk.often (bs s) = o at *
      go_loop [2, 3, 4, 20] (fun a b c n => a = .string L ∧ b = .bool o ∧ c = .bool false ∧ ∃ k : Nat, k ≤ L.size ∧ n = .int .i64 k ∧ Hid (((bs L).take k).all Pk.isLet = true)) (fun _ _ _ n => L.size - (intOf n).toNat)
      case atStart => exact ⟨rfl, rfl, rfl, 0, by omega, rfl, rfl⟩
      case round =>
        obtain ⟨rfl, rfl, rfl, k, hk, rfl, HA⟩ := hrel
        by_cases hlt : k < L.size
        · have HCL := Lib.hid (bs_get L k hlt)
          by_cases c1 : L[k]'hlt = 110
          · have b1 : ((L[k]'hlt).toNat : Int) = 110 := by rw [c1]; rfl
            have HN : Hid (((bs L).take (k + 1)).all Pk.isLet = true) := by
              show _ = _
              rw [all_take _ _ k _ HCL.out, HA.out, c1]; rfl
            clear c1
            go_wp2
            go_round
            case rel => exact ⟨rfl, rfl, rfl, k + 1, by omega, by go_num, HN.out⟩
            case measure => simp [intOf]; omega
          · have b1 : (((L[k]'hlt).toNat : Int) != 110) = true := bne_iff_ne.2 (u8_ne c1)
            by_cases c2 : L[k]'hlt = 116
            · have b2 : ((L[k]'hlt).toNat : Int) = 116 := by rw [c2]; rfl
              have HN : Hid (((bs L).take (k + 1)).all Pk.isLet = true) := by
                show _ = _
                rw [all_take _ _ k _ HCL.out, HA.out, c2]; rfl
              clear c1 c2
              go_wp2
              go_round
              case rel => exact ⟨rfl, rfl, rfl, k + 1, by omega, by go_num, HN.out⟩
              case measure => simp [intOf]; omega
            · have b2 : (((L[k]'hlt).toNat : Int) != 116) = true := bne_iff_ne.2 (u8_ne c2)
              have HN : Hid (Pk.fine (bs s) = false) := by
                show _ = _
                rw [HF.out]
                exact all_not _ _ k _ HCL.out (by unfold Pk.isLet; rw [beq_eq_false_iff_ne.2 c1, beq_eq_false_iff_ne.2 c2]; rfl)
              clear c1 c2
              go_wp2
              go_ret3
              exact ⟨by rw [HQ.out HN.out]; rfl, rfl⟩
        · obtain rfl : k = L.size := by omega
          have HN : Hid (Pk.fine (bs s) = true) := by
            show _ = _
            rw [HF.out, ← HA.out, ← bs_length, List.take_length]
          go_wp2
          go_ret3
          exact ⟨by rw [HP.out HN.out]; rfl, rfl⟩
  · have d1 : decide ((20 : Int) < (s.size : Int)) = true := decide_eq_true (by omega)
    have HF : Hid (Pk.fine (bs s) = false) := not_fine_long _ (by rw [bs_length]; exact hlong)
    cases d2 : ((letsS s).toList == []) with
    | false =>
      go_enter Try.func18, Try.ntmps18
      go_wp2_with (go_at_call 27; refine (cutSuffix_plus s _ HS.out).mono ?_; rintro e w' ⟨rfl, rfl⟩)
      go_ret3
      exact ⟨by rw [partsR_not HF.out]; rfl, rfl⟩
    | true =>
      go_enter Try.func18, Try.ntmps18
      go_wp2_with (go_at_call 27; refine (cutSuffix_plus s _ HS.out).mono ?_; rintro e w' ⟨rfl, rfl⟩)
      go_ret3
      exact ⟨by rw [partsR_not HF.out]; rfl, rfl⟩

end Go.Proofs.Ythncabfeieombaa
