/- Contracts: whether values are of a form; package pack writes them. -/
import Derived.Test.YthncabfeieombaaPackA
import Derived.BigQuiet
import Derived.Deep.QuietTactic
namespace Go.Proofs.Ythncabfeieombaa
open Go.RowKit

theorem mod_toNat (k n : Nat) : ((k : Int) % (n : Int)).toNat = k % n := by rw [← Int.natCast_emod, Int.toNat_natCast]

theorem letAt_get (L : ByteArray) (i : Nat) (h : ((i : Int) % (L.size : Int)).toNat < L.size) : Pk.letAt (bs L) i = L[((i : Int) % (L.size : Int)).toNat]'h := by
  unfold Pk.letAt
  rw [bs_length, List.getD_eq_getElem?_getD, ← mod_toNat, bs_get L _ h]
  rfl

set_option maxHeartbeats 2000000 in
set_option maxRecDepth 100000 in
theorem areValues_any (L : ByteArray) (o : Bool) (A : Option Addr) (n c : Nat) (l : List Pk.V) (w : World) (hL0 : 0 < L.size) (hL : L.size ≤ 1000) (hn : l.length = n) (hc : n ≤ maxLen)
    (hl : ValsIn w w.heap.size A l) (ht : ∀ v ∈ l, v.2.size ≤ maxLen) :
    Calls Try.prog 19 #[.string L, .bool o, .slice A n c] w fun e w' => e = .returned (.bool (Pk.shape (bs L) o n && Pk.okVals (bs L) 0 l)) ∧ Below w.heap.size w w' := by
  unfold maxLen at hc
  have HV := Lib.hid hl
  have HT := Lib.hid ht
  have HN := Lib.hid hn
  have HSH : Hid (Pk.shape (bs L) o n = if o then decide (n % L.size = 0) else decide (n = L.size)) := by unfold Hid Pk.shape; rw [bs_length]
  clear hl ht hn
  generalize Pk.shape (bs L) o n = sh at *
  cases sh with
  | false =>
    cases o with
    | true =>
      have hm : ¬ n % L.size = 0 := by simpa using HSH.out.symm
      have d1 : ((n : Int) % (L.size : Int) != 0) = true := by
        have : (n : Int) % (L.size : Int) ≠ 0 := by omega
        exact bne_iff_ne.2 this
      clear HSH hm
      go_enter Try.func19, Try.ntmps19
      go_wp2
      go_ret
      exact ⟨rfl, Below.refl _ _⟩
    | false =>
      have hm : ¬ n = L.size := by simpa using HSH.out.symm
      have d1 : ((n : Int) != (L.size : Int)) = true := bne_iff_ne.2 (by omega)
      clear HSH hm
      go_enter Try.func19, Try.ntmps19
      go_wp2
      go_ret
      exact ⟨rfl, Below.refl _ _⟩
  | true =>
    cases o with
    | true =>
      have hm : n % L.size = 0 := by simpa using HSH.out.symm
      have d1 : ((n : Int) % (L.size : Int) != 0) = false := by
        have : (n : Int) % (L.size : Int) = 0 := by omega
        rw [this]; rfl
      clear HSH hm
      go_enter Try.func19, Try.ntmps19
      go_wp2
      go_loopg [6, 31] n (fun gk s6 s31 W => ∃ (k : Nat), k + gk = n ∧ s31 = .int .i64 k ∧ s6 = .bool false ∧ Hid (Pk.okVals (bs L) 0 (l.take k) = true) ∧ Hid (Below w.heap.size w W))
      case atStart => exact ⟨0, by omega, rfl, rfl, rfl, Below.refl _ _⟩
      case round =>
        obtain ⟨k, hkg, rfl, rfl, HOK, HB⟩ := hrel
        by_cases hlt : k < n
        · obtain ⟨gk, rfl⟩ : ∃ j, gk = j + 1 := ⟨gk - 1, by omega⟩
          obtain ⟨v, hv⟩ := some_at l k (by rw [HN.out]; exact hlt)
          obtain ⟨ad, rfl, hadb, hc1, hc2⟩ := ValsIn.at_ (HV.out.below HB.out (Nat.le_refl _)) hv
          have hml : ((k : Int) % (L.size : Int)).toNat < L.size := by rw [mod_toNat]; exact Nat.mod_lt _ hL0
          have hz : ¬ L.size = 0 := by omega
          have hrem : (k : Int).tmod (L.size : Int) = (k : Int) % (L.size : Int) := Int.tmod_eq_emod_of_nonneg (by omega)
          have i1 : (0 : Int) ≤ (k : Int) % (L.size : Int) := by omega
          have i2 : (k : Int) % (L.size : Int) < (L.size : Int) := by omega
          have HT1 := Lib.hid (HT.out v (List.mem_of_getElem? hv))
          have HOKN := Lib.hid (Pk.okVals_take (bs L) l k v hv)
          have HOKF : Hid (Pk.isVal (L[((k : Int) % (L.size : Int)).toNat]'hml) v = false → Pk.okVals (bs L) 0 l = false) := fun h => Pk.okVals_not (bs L) l 0 k v hv (by rw [Nat.zero_add, letAt_get L k hml]; exact h)
          rw [HOK.out, letAt_get L k hml] at HOKN
          clear hv
          go_wp2
          have HBW : Hid (Below w.heap.size w (wr.alloc (.cells #[.int .i64 v.1, .string v.2] 34))) := HB.out.alloc HB.out.size _
          have hS1 : (wr.alloc (.cells #[.int .i64 v.1, .string v.2] 34)).cell? ⟨wr.heap.size, 0, none⟩ = some (.int .i64 v.1) := by simp [go_sem]
          have hS2 : (wr.alloc (.cells #[.int .i64 v.1, .string v.2] 34)).cell? ⟨wr.heap.size, 1, none⟩ = some (.string v.2) := by simp [go_sem]
          have hlw : wr.heap.size < (wr.alloc (.cells #[.int .i64 v.1, .string v.2] 34)).heap.size := by simp
          generalize wr.alloc (.cells #[.int .i64 v.1, .string v.2] 34) = W at *
          generalize wr.heap.size = g at *
          have HS : Hid (∀ w1, Below W.heap.size W w1 → w1.cell? ⟨g, 0, none⟩ = some (.int .i64 v.1) ∧ w1.cell? ⟨g, 1, none⟩ = some (.string v.2) ∧ Below w.heap.size w w1) := fun w1 hb =>
            ⟨(hb.cell (p := ⟨g, 0, none⟩) hlw).trans hS1, (hb.cell (p := ⟨g, 1, none⟩) hlw).trans hS2, HBW.out.trans (hb.mono HBW.out.size)⟩
          have HCV : Hid (∀ W' : World, W'.heap = W.heap → W'.os = W.os → W'.tape = W.tape → W'.output = W.output → Calls Try.prog 28 #[.int .u8 ((L[((k : Int) % (L.size : Int)).toNat]'hml).toNat : Int), .agg #[.int .i64 v.1, .string v.2]] W' fun e w1 => e = .returned (.bool (Pk.isVal (L[((k : Int) % (L.size : Int)).toNat]'hml) v)) ∧ Below W.heap.size W w1) := fun W' h1 h2 h3 h4 =>
            (isValue_any (L[((k : Int) % (L.size : Int)).toNat]'hml) v W' HT1.out).mono fun e w1 ⟨he, hb⟩ => ⟨he, ⟨hb.os.trans h2, hb.tape.trans h3, hb.output.trans h4, by rw [← h1]; exact hb.size, fun q hq => by rw [← h1]; exact hb.block q (by rw [h1]; exact hq)⟩⟩
          cases hiv : Pk.isVal (L[((k : Int) % (L.size : Int)).toNat]'hml) v with
          | true =>
            rw [hiv] at HCV HOKN
            clear hiv
            go_region_held3 (fun w' => w'.cell? ⟨g, 0, none⟩ = some (.int .i64 v.1) ∧ w'.cell? ⟨g, 1, none⟩ = some (.string v.2)) (first | go_keep | exact ⟨hk1, hk2⟩)
              (first
                | (go_at_call 28
                   refine (HCV.out W.drew rfl rfl rfl rfl).mono ?_
                   rintro e w1 ⟨rfl, hb1⟩
                   obtain ⟨hk1, hk2, hb2⟩ := HS.out w1 hb1
                   have HB2 := Lib.hid hb2
                   clear hb1 hb2))
            go_wp2
            go_roundg gk
            case measure => omega
            case rel => exact ⟨k + 1, by omega, by first | rfl | go_num, rfl, HOKN.out, HB2.out⟩
          | false =>
            rw [hiv] at HCV
            have HF := Lib.hid (HOKF.out hiv)
            clear hiv
            go_region_held3 (fun w' => w'.cell? ⟨g, 0, none⟩ = some (.int .i64 v.1) ∧ w'.cell? ⟨g, 1, none⟩ = some (.string v.2)) (first | go_keep | exact ⟨hk1, hk2⟩)
              (first
                | (go_at_call 28
                   refine (HCV.out W.drew rfl rfl rfl rfl).mono ?_
                   rintro e w1 ⟨rfl, hb1⟩
                   obtain ⟨hk1, hk2, hb2⟩ := HS.out w1 hb1
                   have HB2 := Lib.hid hb2
                   clear hb1 hb2))
            go_wp2
            go_ret
            exact ⟨by rw [HF.out]; rfl, HB2.out⟩
        · have hk : k = n := by omega
          have HF : Hid (Pk.okVals (bs L) 0 l = true) := by
            have := HOK.out
            rw [List.take_of_length_le (by rw [HN.out]; omega)] at this
            exact this
          subst hk
          go_wp2
          go_ret
          exact ⟨by rw [HF.out]; rfl, HB.out⟩
    | false =>
      have hm : n = L.size := by simpa using HSH.out.symm
      have d1 : ((n : Int) != (L.size : Int)) = false := by rw [hm]; simp
      clear HSH hm
      go_enter Try.func19, Try.ntmps19
      go_wp2
      go_loopg [6, 31] n (fun gk s6 s31 W => ∃ (k : Nat), k + gk = n ∧ s31 = .int .i64 k ∧ s6 = .bool false ∧ Hid (Pk.okVals (bs L) 0 (l.take k) = true) ∧ Hid (Below w.heap.size w W))
      case atStart => exact ⟨0, by omega, rfl, rfl, rfl, Below.refl _ _⟩
      case round =>
        obtain ⟨k, hkg, rfl, rfl, HOK, HB⟩ := hrel
        by_cases hlt : k < n
        · obtain ⟨gk, rfl⟩ : ∃ j, gk = j + 1 := ⟨gk - 1, by omega⟩
          obtain ⟨v, hv⟩ := some_at l k (by rw [HN.out]; exact hlt)
          obtain ⟨ad, rfl, hadb, hc1, hc2⟩ := ValsIn.at_ (HV.out.below HB.out (Nat.le_refl _)) hv
          have hml : ((k : Int) % (L.size : Int)).toNat < L.size := by rw [mod_toNat]; exact Nat.mod_lt _ hL0
          have hz : ¬ L.size = 0 := by omega
          have hrem : (k : Int).tmod (L.size : Int) = (k : Int) % (L.size : Int) := Int.tmod_eq_emod_of_nonneg (by omega)
          have i1 : (0 : Int) ≤ (k : Int) % (L.size : Int) := by omega
          have i2 : (k : Int) % (L.size : Int) < (L.size : Int) := by omega
          have HT1 := Lib.hid (HT.out v (List.mem_of_getElem? hv))
          have HOKN := Lib.hid (Pk.okVals_take (bs L) l k v hv)
          have HOKF : Hid (Pk.isVal (L[((k : Int) % (L.size : Int)).toNat]'hml) v = false → Pk.okVals (bs L) 0 l = false) := fun h => Pk.okVals_not (bs L) l 0 k v hv (by rw [Nat.zero_add, letAt_get L k hml]; exact h)
          rw [HOK.out, letAt_get L k hml] at HOKN
          clear hv
          go_wp2
          have HBW : Hid (Below w.heap.size w (wr.alloc (.cells #[.int .i64 v.1, .string v.2] 34))) := HB.out.alloc HB.out.size _
          have hS1 : (wr.alloc (.cells #[.int .i64 v.1, .string v.2] 34)).cell? ⟨wr.heap.size, 0, none⟩ = some (.int .i64 v.1) := by simp [go_sem]
          have hS2 : (wr.alloc (.cells #[.int .i64 v.1, .string v.2] 34)).cell? ⟨wr.heap.size, 1, none⟩ = some (.string v.2) := by simp [go_sem]
          have hlw : wr.heap.size < (wr.alloc (.cells #[.int .i64 v.1, .string v.2] 34)).heap.size := by simp
          generalize wr.alloc (.cells #[.int .i64 v.1, .string v.2] 34) = W at *
          generalize wr.heap.size = g at *
          have HS : Hid (∀ w1, Below W.heap.size W w1 → w1.cell? ⟨g, 0, none⟩ = some (.int .i64 v.1) ∧ w1.cell? ⟨g, 1, none⟩ = some (.string v.2) ∧ Below w.heap.size w w1) := fun w1 hb =>
            ⟨(hb.cell (p := ⟨g, 0, none⟩) hlw).trans hS1, (hb.cell (p := ⟨g, 1, none⟩) hlw).trans hS2, HBW.out.trans (hb.mono HBW.out.size)⟩
          have HCV : Hid (∀ W' : World, W'.heap = W.heap → W'.os = W.os → W'.tape = W.tape → W'.output = W.output → Calls Try.prog 28 #[.int .u8 ((L[((k : Int) % (L.size : Int)).toNat]'hml).toNat : Int), .agg #[.int .i64 v.1, .string v.2]] W' fun e w1 => e = .returned (.bool (Pk.isVal (L[((k : Int) % (L.size : Int)).toNat]'hml) v)) ∧ Below W.heap.size W w1) := fun W' h1 h2 h3 h4 =>
            (isValue_any (L[((k : Int) % (L.size : Int)).toNat]'hml) v W' HT1.out).mono fun e w1 ⟨he, hb⟩ => ⟨he, ⟨hb.os.trans h2, hb.tape.trans h3, hb.output.trans h4, by rw [← h1]; exact hb.size, fun q hq => by rw [← h1]; exact hb.block q (by rw [h1]; exact hq)⟩⟩
          cases hiv : Pk.isVal (L[((k : Int) % (L.size : Int)).toNat]'hml) v with
          | true =>
            rw [hiv] at HCV HOKN
            clear hiv
            go_region_held3 (fun w' => w'.cell? ⟨g, 0, none⟩ = some (.int .i64 v.1) ∧ w'.cell? ⟨g, 1, none⟩ = some (.string v.2)) (first | go_keep | exact ⟨hk1, hk2⟩)
              (first
                | (go_at_call 28
                   refine (HCV.out W.drew rfl rfl rfl rfl).mono ?_
                   rintro e w1 ⟨rfl, hb1⟩
                   obtain ⟨hk1, hk2, hb2⟩ := HS.out w1 hb1
                   have HB2 := Lib.hid hb2
                   clear hb1 hb2))
            go_wp2
            go_roundg gk
            case measure => omega
            case rel => exact ⟨k + 1, by omega, by first | rfl | go_num, rfl, HOKN.out, HB2.out⟩
          | false =>
            rw [hiv] at HCV
            have HF := Lib.hid (HOKF.out hiv)
            clear hiv
            go_region_held3 (fun w' => w'.cell? ⟨g, 0, none⟩ = some (.int .i64 v.1) ∧ w'.cell? ⟨g, 1, none⟩ = some (.string v.2)) (first | go_keep | exact ⟨hk1, hk2⟩)
              (first
                | (go_at_call 28
                   refine (HCV.out W.drew rfl rfl rfl rfl).mono ?_
                   rintro e w1 ⟨rfl, hb1⟩
                   obtain ⟨hk1, hk2, hb2⟩ := HS.out w1 hb1
                   have HB2 := Lib.hid hb2
                   clear hb1 hb2))
            go_wp2
            go_ret
            exact ⟨by rw [HF.out]; rfl, HB2.out⟩
        · have hk : k = n := by omega
          have HF : Hid (Pk.okVals (bs L) 0 l = true) := by
            have := HOK.out
            rw [List.take_of_length_le (by rw [HN.out]; omega)] at this
            exact this
          subst hk
          go_wp2
          go_ret
          exact ⟨by rw [HF.out]; rfl, HB.out⟩

end Go.Proofs.Ythncabfeieombaa
