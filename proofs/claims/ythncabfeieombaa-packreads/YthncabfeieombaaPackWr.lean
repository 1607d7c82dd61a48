/- Contract: package pack writes values. -/
import Derived.Test.YthncabfeieombaaPackV
namespace Go.Proofs.Ythncabfeieombaa
open Go.RowKit

theorem encV_len {c : UInt8} {v : Pk.V} (h : Pk.isVal c v = true) : (Pk.encV c v).length ≤ 1010 := by
  obtain ⟨n, t⟩ := v
  unfold Pk.encV
  by_cases hc : c = 110
  · subst hc
    rw [isVal_n] at h
    simp only [Bool.and_eq_true, decide_eq_true_eq] at h
    rw [if_pos rfl]
    have := Pk.num_ten (Pk.zig_le h.2.1 h.2.2)
    simp only at this ⊢
    omega
  · rw [isVal_t c n t hc] at h
    simp only [Bool.and_eq_true, decide_eq_true_eq] at h
    rw [if_neg hc, List.length_append]
    have h1 := Pk.num_ten (u := 2 * t.size) (by omega)
    have h2 : t.data.toList.length = t.size := Array.length_toList
    simp only at h1 ⊢
    omega

theorem enc_len (ls : Pk.Bs) : ∀ (l : List Pk.V) (i : Nat), Pk.okVals ls i l = true → (Pk.enc ls i l).length ≤ 1010 * l.length := by
  intro l
  induction l with
  | nil => intro i _; simp [Pk.enc]
  | cons v l ih =>
    intro i h
    rw [Pk.okVals, Bool.and_eq_true] at h
    rw [Pk.enc, List.length_append, List.length_cons]
    have h1 := encV_len h.1
    have h2 := ih (i + 1) h.2
    omega

theorem okVals_front (ls : Pk.Bs) (l : List Pk.V) (k : Nat) (h : Pk.okVals ls 0 l = true) : Pk.okVals ls 0 (l.take k) = true := by
  rw [← List.take_append_drop k l, Pk.okVals_append, Bool.and_eq_true] at h
  exact h.1

theorem letsS_len {s : ByteArray} (hf : Pk.fine (bs s) = true) : 0 < (letsS s).size ∧ (letsS s).size ≤ 1000 := by
  unfold Pk.fine at hf
  simp only [Bool.and_eq_true, decide_eq_true_eq, Bool.not_eq_true'] at hf
  obtain ⟨h1, h2, _⟩ := hf
  rw [← bs_letsS] at h2
  rw [bs_length] at h1
  constructor
  · rw [← bs_length]
    cases e : bs (letsS s) with
    | nil => rw [e] at h2; simp at h2
    | cons x y => simp
  · unfold letsS
    split
    · rw [ByteArray.size_extract]; omega
    · omega

theorem wres_1 {f : Pk.Bs} {l : List Pk.V} (h : Pk.fine f = false) : Pk.wres f l = (1, []) := by unfold Pk.wres; rw [if_pos h]
theorem wres_2 {f : Pk.Bs} {l : List Pk.V} (h : Pk.fine f = true) (h2 : (Pk.shape (Pk.lets f) (Pk.often f) l.length && Pk.okVals (Pk.lets f) 0 l) = false) : Pk.wres f l = (2, []) := by
  unfold Pk.wres; rw [if_neg (by rw [h]; decide), if_pos h2]
theorem wres_4 {f : Pk.Bs} {l : List Pk.V} (h : Pk.fine f = true) (h2 : (Pk.shape (Pk.lets f) (Pk.often f) l.length && Pk.okVals (Pk.lets f) 0 l) = true) (h3 : 200 < l.length) : Pk.wres f l = (4, []) := by
  unfold Pk.wres; rw [if_neg (by rw [h]; decide), if_neg (by rw [h2]; decide), if_pos h3]
theorem wres_0 {f : Pk.Bs} {l : List Pk.V} (h : Pk.fine f = true) (h2 : (Pk.shape (Pk.lets f) (Pk.often f) l.length && Pk.okVals (Pk.lets f) 0 l) = true) (h3 : ¬ 200 < l.length) : Pk.wres f l = (0, Pk.enc (Pk.lets f) 0 l) := by
  unfold Pk.wres; rw [if_neg (by rw [h]; decide), if_neg (by rw [h2]; decide), if_neg h3]

set_option maxHeartbeats 2000000 in
set_option maxRecDepth 100000 in
theorem write_any (s : ByteArray) (A : Option Addr) (n c : Nat) (l : List Pk.V) (w : World) (hs : s.size ≤ maxLen) (hn : l.length = n) (hc : n ≤ maxLen)
    (hl : ValsIn w w.heap.size A l) (ht : ∀ v ∈ l, v.2.size ≤ maxLen) :
    Calls Try.prog 9 #[.string s, .slice A n c] w fun e w' => ∃ v', e = .returned (.tuple #[v', .int .i64 ((Pk.wres (bs s) l).1 : Nat)]) ∧
      w'.ownsRow w.heap.size 5 1 v' (Pk.wres (bs s) l).2.length ((Pk.wres (bs s) l).2.map bv) ∧ Below w.heap.size w w' := by
  have HV := Lib.hid hl
  have HT := Lib.hid ht
  have HN := Lib.hid hn
  have HS := Lib.hid hs
  have HCM := Lib.hid hc
  clear hl ht hn hs
  have HP := Lib.hid (fun w => parts_any s w HS.out)
  cases hf : Pk.fine (bs s) with
  | false =>
    have HW := Lib.hid (wres_1 (l := l) hf)
    have HPR := Lib.hid (partsR_not hf)
    rw [HPR.out] at HP
    clear hf
    generalize Pk.wres (bs s) l = r at *
    go_enter Try.func9, Try.ntmps9
    go_wp2_with (go_at_call 18; refine (HP.out _).mono ?_; rintro e w' ⟨rfl, rfl⟩)
    go_ret2
    exact ⟨.slice none 0 0, by rw [HW.out]; rfl, by rw [HW.out]; exact World.ownsRow_nil _ _ _ _, Below.refl _ _⟩
  | true =>
    have HPR := Lib.hid (partsR_fine hf)
    rw [HPR.out] at HP
    obtain ⟨hL0, hL⟩ := letsS_len hf
    have HAV := Lib.hid (areValues_any (letsS s) (Pk.often (bs s)) A n c l w hL0 hL HN.out hc HV.out HT.out)
    have HLE := Lib.hid (bs_letsS s)
    have hb := Lib.hid (@wres_2 (bs s) l hf)
    have hb4 := Lib.hid (@wres_4 (bs s) l hf)
    have hb0 := Lib.hid (@wres_0 (bs s) l hf)
    rw [← HLE.out, HN.out] at hb hb4 hb0
    clear hf
    generalize Pk.wres (bs s) l = r at *
    cases hok : (Pk.shape (bs (letsS s)) (Pk.often (bs s)) n && Pk.okVals (bs (letsS s)) 0 l) with
    | false =>
      have HW := Lib.hid (hb.out hok)
      rw [hok] at HAV
      clear hok hb hb4 hb0
      go_enter Try.func9, Try.ntmps9
      go_wp2_with (first
        | (go_at_call 18; refine (HP.out _).mono ?_; rintro e w' ⟨rfl, rfl⟩)
        | (go_at_call 19; refine HAV.out.mono ?_; rintro e w1 ⟨rfl, hb1⟩; have HB1 := Lib.hid hb1; clear hb1))
      go_ret2
      exact ⟨.slice none 0 0, by rw [HW.out]; rfl, by rw [HW.out]; exact World.ownsRow_nil _ _ _ _, HB1.out⟩
    | true =>
      have HOK := Lib.hid (Bool.and_eq_true _ _ ▸ hok).2
      rw [hok] at HAV
      by_cases h200 : 200 < n
      · have HW := Lib.hid (hb4.out hok h200)
        have d1 : decide ((200 : Int) < (n : Int)) = true := decide_eq_true (by omega)
        unfold maxLen at hc
        clear hok hb hb4 hb0
        go_enter Try.func9, Try.ntmps9
        go_wp2_with (first
          | (go_at_call 18; refine (HP.out _).mono ?_; rintro e w' ⟨rfl, rfl⟩)
          | (go_at_call 19; refine HAV.out.mono ?_; rintro e w1 ⟨rfl, hb1⟩; have HB1 := Lib.hid hb1; clear hb1))
        go_ret2
        exact ⟨.slice none 0 0, by rw [HW.out]; rfl, by rw [HW.out]; exact World.ownsRow_nil _ _ _ _, HB1.out⟩
      · have HW := Lib.hid (hb0.out hok h200)
        have d1 : decide ((200 : Int) < (n : Int)) = false := decide_eq_false (by omega)
        clear hok hb hb4 hb0 hc
        go_enter Try.func9, Try.ntmps9
        go_wp2_with (first
          | (go_at_call 18; refine (HP.out _).mono ?_; rintro e w' ⟨rfl, rfl⟩)
          | (go_at_call 19; refine HAV.out.mono ?_; rintro e w1 ⟨rfl, hb1⟩; have HB1 := Lib.hid hb1; clear hb1))
        generalize letsS s = L at *
        generalize hB : w.heap.size = B at *
        have HBS : Hid (B ≤ w.heap.size) := by unfold Hid; omega
        have HBE := Lib.hid hB
        clear hB
        go_loopg [9, 30] n (fun gk s9 s30 W => ∃ (k : Nat), k + gk = n ∧ s30 = .int .i64 k ∧ Hid (W.ownsRow B 5 1 s9 (Pk.enc (bs L) 0 (l.take k)).length ((Pk.enc (bs L) 0 (l.take k)).map bv)) ∧ Hid (Below B w W))
        case atStart => exact ⟨0, by omega, rfl, World.ownsRow_nil _ _ _ _, HB1.out⟩
        case round =>
          obtain ⟨k, hkg, rfl, HO, HB⟩ := hrel
          by_cases hlt : k < n
          · obtain ⟨gk, rfl⟩ : ∃ j, gk = j + 1 := ⟨gk - 1, by omega⟩
            obtain ⟨v, hv⟩ := some_at l k (by rw [HN.out]; exact hlt)
            obtain ⟨ad, rfl, hadb, hc1, hc2⟩ := ValsIn.at_ (HV.out.below HB.out (Nat.le_refl _)) hv
            have hml : ((k : Int) % (L.size : Int)).toNat < L.size := by rw [mod_toNat]; exact Nat.mod_lt _ hL0
            have hz : ¬ L.size = 0 := by omega
            have hrem : (k : Int).tmod (L.size : Int) = (k : Int) % (L.size : Int) := Int.tmod_eq_emod_of_nonneg (by omega)
            have i1 : (0 : Int) ≤ (k : Int) % (L.size : Int) := by omega
            have i2 : (k : Int) % (L.size : Int) < (L.size : Int) := by omega
            have HE := Lib.hid (Pk.enc_take (bs L) l k v hv)
            have HIV := Lib.hid (Pk.okVals_at (bs L) l 0 k v hv HOK.out)
            have HLN := Lib.hid (enc_len (bs L) (l.take k) 0 (okVals_front (bs L) l k HOK.out))
            rw [Nat.zero_add, letAt_get L k hml] at HIV
            rw [letAt_get L k hml] at HE
            clear hv
            go_wp2
            have HBW : Hid (Below B w (wr.alloc (.cells #[.int .i64 v.1, .string v.2] 34))) := HB.out.alloc (Nat.le_trans HBS.out HB.out.size) _
            have hS1 : (wr.alloc (.cells #[.int .i64 v.1, .string v.2] 34)).cell? ⟨wr.heap.size, 0, none⟩ = some (.int .i64 v.1) := by simp [go_sem]
            have hS2 : (wr.alloc (.cells #[.int .i64 v.1, .string v.2] 34)).cell? ⟨wr.heap.size, 1, none⟩ = some (.string v.2) := by simp [go_sem]
            have HOW := Lib.hid (HO.out.alloc (.cells #[.int .i64 v.1, .string v.2] 34))
            generalize wr.alloc (.cells #[.int .i64 v.1, .string v.2] 34) = W at *
            generalize wr.heap.size = g at *
            have HCW := Lib.hid (appendValue_any u9 _ _ (L[((k : Int) % (L.size : Int)).toNat]'hml) v B W.drew HIV.out HOW.out (Nat.le_trans HBS.out HBW.out.size) (by have := HLN.out; rw [List.length_take, HN.out] at this; omega))
            go_still_tail 8, (by kernel_rfl)
            go_wp2_with (go_at_call 20
                         refine HCW.out.mono ?_
                         rintro e w2 ⟨v2, rfl, ho2, hb2⟩
                         have HO2 := Lib.hid ho2
                         have HB2 := Lib.hid hb2
                         clear ho2 hb2)
            go_roundg gk
            case measure => omega
            case rel =>
              refine ⟨k + 1, by omega, by first | rfl | go_num, ?_, HBW.out.trans ⟨HB2.out.os, HB2.out.tape, HB2.out.output, HB2.out.size, HB2.out.block⟩⟩
              show World.ownsRow _ _ _ _ _ _ _
              rw [HE.out, List.length_append, List.map_append]
              exact HO2.out
          · have hk : k = n := by omega
            have HO3 := HO.out
            rw [List.take_of_length_le (by rw [HN.out]; omega)] at HO3
            have HO4 := Lib.hid HO3
            clear HO3
            subst hk
            go_wp2
            go_ret2
            have hB := HBE.out
            subst hB
            exact ⟨u9, by rw [HW.out]; rfl, by rw [HW.out]; exact HO4.out, HB.out⟩

end Go.Proofs.Ythncabfeieombaa
