/- Contracts: package pack's Read; what the laws on it call besides. -/
import Derived.Test.YthncabfeieombaaPackRall
namespace Go.Proofs.Ythncabfeieombaa
open Go.RowKit

set_option maxHeartbeats 1000000 in
set_option maxRecDepth 100000 in
theorem read_any (s : ByteArray) (A : Option Addr) (n c : Nat) (l : Pk.Bs) (w : World) (hs : s.size ≤ maxLen) (hn : l.length = n) (hnc : n ≤ c) (hc : c ≤ maxLen) (hb : BytesIn w w.heap.size A l) :
    Calls Try.prog 15 #[.string s, .slice A n c] w fun e w' => AllPost (Pk.rres (bs s) l) w e w' := by
  have HS := Lib.hid hs
  have HN := Lib.hid hn
  have HC := Lib.hid (Nat.le_trans hnc hc)
  have HP := Lib.hid (fun w => parts_any s w HS.out)
  cases hf : Pk.fine (bs s) with
  | false =>
    have HW : Hid (Pk.rres (bs s) l = (1, [])) := by unfold Hid Pk.rres; rw [if_pos hf]
    have HPR := Lib.hid (partsR_not hf)
    rw [HPR.out] at HP
    generalize Pk.rres (bs s) l = X at *
    clear hf hb hnc hc hn hs
    go_enter Try.func15, Try.ntmps15
    go_wp2_with (go_at_call 18; refine (HP.out _).mono ?_; rintro e w' ⟨rfl, rfl⟩)
    go_ret2
    rw [HW.out]
    exact ⟨_, rfl, World.ownsRow_nil _ _ _ _, Below.refl _ _⟩
  | true =>
    have HPR := Lib.hid (partsR_fine hf)
    rw [HPR.out] at HP
    obtain ⟨hL0, hL⟩ := letsS_len hf
    unfold maxLen at HC
    have hn63 : n ≤ 9223372036854775807 := by have := HC.out; omega
    by_cases hbig : 20000 < n
    · have HW : Hid (Pk.rres (bs s) l = (4, [])) := by unfold Hid Pk.rres; rw [if_neg (by rw [hf]; decide), if_pos (by rw [hn]; exact hbig)]
      have d1 : decide ((20000 : Int) < (n : Int)) = true := decide_eq_true (by omega)
      generalize Pk.rres (bs s) l = X at *
      clear hf hb hnc hc hn hs hbig
      go_enter Try.func15, Try.ntmps15
      go_wp2_with (go_at_call 18; refine (HP.out _).mono ?_; rintro e w' ⟨rfl, rfl⟩)
      go_ret2
      rw [HW.out]
      exact ⟨_, rfl, World.ownsRow_nil _ _ _ _, Below.refl _ _⟩
    · have HW : Hid (Pk.rres (bs s) l = Pk.readV (bs (letsS s)) (Pk.often (bs s)) (n + 1) [] l) := by unfold Hid Pk.rres; rw [if_neg (by rw [hf]; decide), if_neg (by rw [hn]; exact hbig), bs_letsS, hn]
      have d1 : decide ((20000 : Int) < (n : Int)) = false := decide_eq_false (by omega)
      have HRA : Hid (Calls Try.prog 25 #[.string (letsS s), .bool (Pk.often (bs s)), .slice A n c] w fun e w' => AllPost (Pk.rres (bs s) l) w e w') := by
        unfold Hid
        rw [HW.out]
        cases Pk.often (bs s) with
        | true => exact readAll_again (letsS s) A n c l w hb hn hnc hc hL hL0 (by omega)
        | false => exact readAll_once (letsS s) A n c l w hb hn hnc hc hL hL0 (by omega)
      clear hf hb hnc hc hn hs hbig HW
      generalize Pk.rres (bs s) l = X at *
      go_enter Try.func15, Try.ntmps15
      go_wp2_with (first
        | (go_at_call 18; refine (HP.out _).mono ?_; rintro e w' ⟨rfl, rfl⟩)
        | (go_at_call 25; refine HRA.out.mono ?_; rintro e w1 ⟨v1, rfl, ho1, hb1⟩; have HO1 := Lib.hid ho1; have HB1 := Lib.hid hb1; clear ho1 hb1))
      go_ret2
      exact ⟨v1, rfl, HO1.out, HB1.out⟩

set_option maxHeartbeats 2000000 in
set_option maxRecDepth 100000 in
theorem own_any (A : Option Addr) (n c : Nat) (l : List Pk.V) (w : World) (hn : l.length = n) (hlen : n ≤ 100000) (hl : ValsIn w w.heap.size A l) :
    Calls Try.prog 11 #[.slice A n c] w fun e w' => ∃ v, e = .returned v ∧ w'.ownsRow w.heap.size 51 2 v n (vcs l) ∧ Below w.heap.size w w' := by
  obtain ⟨i0, hi0, hz0, hz1, hz2⟩ := info_parts3 rval_info
  have HI := Lib.hid hi0
  have HZ0 := Lib.hid hz0
  have HZ1 := Lib.hid hz1
  have HZ2 := Lib.hid hz2
  clear hi0 hz0 hz1 hz2
  have HV := Lib.hid hl
  have HN := Lib.hid hn
  clear hl hn
  go_enter Try.func11, Try.ntmps11
  go_wp2
  have HB0 : Hid (Below w.heap.size w (w.alloc (.cells #[] 51))) := (Below.refl _ _).alloc (Nat.le_refl _) _
  have HO0 : Hid ((w.alloc (.cells #[] 51)).ownsRow w.heap.size 51 2 (.slice (some ⟨w.heap.size, 0, none⟩) 0 0) 0 []) :=
    ⟨rfl, .inr ⟨w.heap.size, 0, #[], rfl, Nat.le_refl _, heap_alloc_new w _, Nat.le_refl _, by decide, rfl, rfl⟩⟩
  generalize w.alloc (.cells #[] 51) = W0 at *
  generalize hG : w.heap.size = g at *
  have HG := Lib.hid hG
  have HGL : Hid (∀ W, Below g w W → g ≤ W.heap.size) := fun W h => by have := h.size; omega
  clear hG
  go_loopg [3, 9] n (fun gk s3 s9 W => ∃ (k : Nat), k + gk = n ∧ s9 = .int .i64 k ∧ Hid (W.ownsRow g 51 2 s3 k (vcs (l.take k))) ∧ Hid (Below g w W))
  case atStart => exact ⟨0, by omega, rfl, HO0.out, HB0.out⟩
  case round =>
    obtain ⟨k, hkg, rfl, HO, HB⟩ := hrel
    by_cases hlt : k < n
    · obtain ⟨gk, rfl⟩ : ∃ j, gk = j + 1 := ⟨gk - 1, by omega⟩
      obtain ⟨v, hv⟩ := some_at l k (by rw [HN.out]; exact hlt)
      obtain ⟨ad, rfl, hadb, hc1, hc2⟩ := ValsIn.at_ (HV.out.below HB.out (Nat.le_refl _)) hv
      have HTK : Hid (vcs (l.take (k + 1)) = vcs (l.take k) ++ [.int .i64 v.1, .string v.2]) := by unfold Hid; rw [Pk.take_succ_of hv, vcs_snoc]
      clear hv
      have A2 : Hid (∀ z ∈ [Value.int .i64 v.1, .string v.2], z.oneCell' = true) := by intro z hz; simp at hz; rcases hz with rfl | rfl <;> rfl
      have A3 : Hid (k + 1 ≤ maxLen) := by unfold Hid maxLen; omega
      have A4 : Hid ((k + 1) * 24 ≤ 140737488355328) := by unfold Hid; omega
      have HGW := Lib.hid (HGL.out wr HB.out)
      have A1 : Hid (∀ j x, [Value.int .i64 v.1, .string v.2][j]? = some x → ((wr.alloc (.cells #[.int .i64 v.1, .string v.2] 34)).alloc (.cells #[.int .i64 v.1, .string v.2] 51)).cell? ((⟨wr.heap.size + 1, 0, none⟩ : Addr).add j) = some x) := by
        unfold Hid
        have := cells_two (wr.alloc (.cells #[.int .i64 v.1, .string v.2] 34)) (.int .i64 v.1) (.string v.2) 51
        simpa using this
      have HW2 := Lib.hid ((HB.out.alloc HGW.out (.cells #[.int .i64 v.1, .string v.2] 34)).alloc (by simp; have := HGW.out; omega) (.cells #[.int .i64 v.1, .string v.2] 51))
      have HOW2 := Lib.hid ((HO.out.alloc (.cells #[.int .i64 v.1, .string v.2] 34)).alloc (.cells #[.int .i64 v.1, .string v.2] 51))
      have HGW2 := Lib.hid (HGL.out _ HW2.out)
      have A6 : Hid (∀ w2, ((wr.alloc (.cells #[.int .i64 v.1, .string v.2] 34)).alloc (.cells #[.int .i64 v.1, .string v.2] 51)).grownBy w2 u3.ownBlock → Below g w w2) := fun w2 hg => HW2.out.grown hg HGW2.out (fun k hk => (HOW2.out.lt k hk).1)
      go_wp2_with (at_builtin; refine wpList_append_own_at ((wr.alloc (.cells #[.int .i64 v.1, .string v.2] 34)).alloc (.cells #[.int .i64 v.1, .string v.2] 51)) rfl (.tmp 13) (.tmp 15) 30 rfl g 51 i0 (.agg #[.int .i64 0, .string ⟨#[]⟩]) 2 24 Try.underlying30 HI.out HZ0.out HZ1.out HZ2.out rfl Nat.two_pos u3 k (vcs (l.take k)) rfl HOW2.out ⟨wr.heap.size + 1, 0, none⟩ 1 1 [.int .i64 v.1, .string v.2] rfl rfl A1.out A2.out A3.out A4.out HGW2.out ?_; intro v3 w3 hown3 hgr3 _ _; have HO3 := Lib.hid hown3; have HB3 := Lib.hid (A6.out w3 hgr3); clear hown3 hgr3)
      go_roundg gk
      case measure => omega
      case rel =>
        refine ⟨k + 1, by omega, by first | rfl | go_num, ?_, HB3.out⟩
        show World.ownsRow _ _ _ _ _ _ _
        rw [HTK.out]
        exact HO3.out
    · have hk : k = n := by omega
      have HO4 : Hid (wr.ownsRow g 51 2 u3 k (vcs l)) := by
        have := HO.out
        rw [List.take_of_length_le (by rw [HN.out]; omega)] at this
        exact this
      subst hk
      go_wp2
      go_ret
      have hG := HG.out
      subst hG
      exact ⟨u3, rfl, HO4.out, HB.out⟩

theorem eq_val51 (x y : Pk.V) (W : World) : (Op.equalIn 10000 51 (.agg #[.int .i64 x.1, .string x.2]) (.agg #[.int .i64 y.1, .string y.2])).run Try.prog W = .ok (decide (x = y)) W := by
  obtain ⟨x1, x2⟩ := x
  obtain ⟨y1, y2⟩ := y
  have h2 : (x2.toList == y2.toList) = decide (x2 = y2) := by
    by_cases h : x2 = y2
    · subst h; simp
    · rw [decide_eq_false h]
      refine beq_eq_false_iff_ne.2 (fun e => h (bs_ext ?_))
      rw [toList_bs, toList_bs] at e
      exact e
  have h3 : decide ((x1, x2) = (y1, y2)) = (decide (x1 = y1) && decide (x2 = y2)) := by simp [Prod.ext_iff]
  rw [run_equalIn_agg W 9999 _ _ _ (by kernel_rfl) (by kernel_rfl), h3]
  by_cases h : x1 = y1
  · subst h
    simp [go_sem, Op.eqFields, h2]
    split <;> simp_all
  · simp [go_sem, Op.eqFields, h]

theorem eq_val34 (x y : Pk.V) (W : World) : (Op.equalIn 10000 34 (.agg #[.int .i64 x.1, .string x.2]) (.agg #[.int .i64 y.1, .string y.2])).run Try.prog W = .ok (decide (x = y)) W := by
  obtain ⟨x1, x2⟩ := x
  obtain ⟨y1, y2⟩ := y
  have h2 : (x2.toList == y2.toList) = decide (x2 = y2) := by
    by_cases h : x2 = y2
    · subst h; simp
    · rw [decide_eq_false h]
      refine beq_eq_false_iff_ne.2 (fun e => h (bs_ext ?_))
      rw [toList_bs, toList_bs] at e
      exact e
  have h3 : decide ((x1, x2) = (y1, y2)) = (decide (x1 = y1) && decide (x2 = y2)) := by simp [Prod.ext_iff]
  rw [run_equalIn_agg W 9999 _ _ _ (by kernel_rfl) (by kernel_rfl), h3]
  by_cases h : x1 = y1
  · subst h
    simp [go_sem, Op.eqFields, h2]
    split <;> simp_all
  · simp [go_sem, Op.eqFields, h]

set_option maxHeartbeats 2000000 in
set_option maxRecDepth 100000 in
theorem same_any (A B : Option Addr) (n m c d : Nat) (a b : List Pk.V) (w : World) (hn : a.length = n) (hm : b.length = m) (hn' : n ≤ maxLen) (hm' : m ≤ maxLen) (ha : ValsIn w w.heap.size A a) (hb : ValsIn w w.heap.size B b) :
    Calls Try.prog 17 #[.slice A n c, .slice B m d] w fun e w' => e = .returned (.bool (decide (a = b))) ∧ ∃ q, w' = w.drewN q := by
  unfold maxLen at hn' hm'
  have HA := Lib.hid ha
  have HB := Lib.hid hb
  have HN := Lib.hid hn
  have HM := Lib.hid hm
  clear ha hb hn hm
  by_cases hnm : n = m
  · subst hnm
    have HR : Hid (∀ k : Nat, (∀ i : Nat, i < k → a[i]? = b[i]?) → n ≤ k → decide (a = b) = true) := fun k h hk => decide_eq_true (List.ext_getElem? fun i => by
      by_cases hi : i < k
      · exact h i hi
      · rw [List.getElem?_eq_none (by rw [HN.out]; omega), List.getElem?_eq_none (by rw [HM.out]; omega)])
    have HF : Hid (∀ k : Nat, a[k]? ≠ b[k]? → decide (a = b) = false) := fun k h => decide_eq_false (fun e => h (by rw [e]))
    generalize decide (a = b) = r at *
    go_enter Try.func17, Try.ntmps17
    go_wp2
    go_loopg [4, 5] n (fun gk s4 s5 W => ∃ (k q : Nat), k + gk = n ∧ s4 = .bool false ∧ s5 = .int .i64 k ∧ W = w.drewN q ∧ Hid (∀ i : Nat, i < k → a[i]? = b[i]?))
    case atStart => exact ⟨0, 0, by omega, rfl, rfl, rfl, fun i hi => by omega⟩
    case round =>
      obtain ⟨k, q, hkg, rfl, rfl, rfl, HK⟩ := hrel
      by_cases hlt : k < n
      · obtain ⟨gk, rfl⟩ : ∃ j, gk = j + 1 := ⟨gk - 1, by omega⟩
        obtain ⟨x, hx⟩ := some_at a k (by rw [HN.out]; exact hlt)
        obtain ⟨y, hy⟩ := some_at b k (by rw [HM.out]; exact hlt)
        obtain ⟨ad, rfl, _, hc1, hc2⟩ := ValsIn.at_ (w := w.drewN q) HA.out hx
        obtain ⟨bd, rfl, _, hd1, hd2⟩ := ValsIn.at_ (w := w.drewN q) HB.out hy
        have i1 : (0 : Int) ≤ (k : Int) := by omega
        have i2 : (k : Int) < (n : Int) := by omega
        have heq := eq_val51 x y
        have HW : Hid (∀ m, (w.drewN q).drewN m = w.drewN (q + m)) := fun m => by simp
        by_cases hxy : x = y
        · rw [decide_eq_true hxy] at heq
          have HK2 : Hid (∀ i : Nat, i < k + 1 → a[i]? = b[i]?) := fun i hi => by
            by_cases h : i < k
            · exact HK.out i h
            · obtain rfl : i = k := by omega
              rw [hx, hy, hxy]
          clear hx hy hxy
          generalize w.drewN q = W at *
          go_wp2
          go_quiet (fail)
          go_wp2
          go_roundg gk
          case measure => omega
          case rel => exact ⟨k + 1, _, by omega, rfl, by first | rfl | go_num, HW.out _, HK2.out⟩
        · rw [decide_eq_false hxy] at heq
          have HF2 := Lib.hid (HF.out k (by rw [hx, hy]; exact fun e => hxy (Option.some.inj e)))
          clear hx hy hxy
          generalize w.drewN q = W at *
          go_wp2
          go_quiet (fail)
          go_wp2
          go_ret
          exact ⟨by rw [HF2.out]; rfl, _, HW.out _⟩
      · have HR2 := Lib.hid (HR.out k HK.out (by omega))
        have hk : k = n := by omega
        subst hk
        go_wp2
        go_ret
        exact ⟨by rw [HR2.out]; rfl, _, rfl⟩
  · have HF : Hid (decide (a = b) = false) := decide_eq_false (fun e => hnm (by rw [← HN.out, ← HM.out, e]))
    have d1 : ((n : Int) != (m : Int)) = true := bne_iff_ne.2 (by omega)
    generalize decide (a = b) = r at *
    clear hnm
    go_enter Try.func17, Try.ntmps17
    go_wp2
    go_ret
    exact ⟨by rw [HF.out]; rfl, 0, rfl⟩

set_option maxHeartbeats 2000000 in
set_option maxRecDepth 100000 in
theorem bsame_any (A B : Option Addr) (n m c d : Nat) (a b : Pk.Bs) (w : World) (hn : a.length = n) (hm : b.length = m) (hn' : n ≤ maxLen) (hm' : m ≤ maxLen) (ha : BytesIn w w.heap.size A a) (hb : BytesIn w w.heap.size B b) :
    Calls Try.prog 24 #[.slice A n c, .slice B m d] w fun e w' => e = .returned (.bool (decide (a = b))) ∧ ∃ q, w' = w.drewN q := by
  unfold maxLen at hn' hm'
  have HA := Lib.hid ha
  have HB := Lib.hid hb
  have HN := Lib.hid hn
  have HM := Lib.hid hm
  clear ha hb hn hm
  by_cases hnm : n = m
  · subst hnm
    have HR : Hid (∀ k : Nat, (∀ i : Nat, i < k → a[i]? = b[i]?) → n ≤ k → decide (a = b) = true) := fun k h hk => decide_eq_true (List.ext_getElem? fun i => by
      by_cases hi : i < k
      · exact h i hi
      · rw [List.getElem?_eq_none (by rw [HN.out]; omega), List.getElem?_eq_none (by rw [HM.out]; omega)])
    have HF : Hid (∀ k : Nat, a[k]? ≠ b[k]? → decide (a = b) = false) := fun k h => decide_eq_false (fun e => h (by rw [e]))
    generalize decide (a = b) = r at *
    go_enter Try.func24, Try.ntmps24
    go_wp2
    go_loopg [4, 5] n (fun gk s4 s5 W => ∃ (k q : Nat), k + gk = n ∧ s4 = .bool false ∧ s5 = .int .i64 k ∧ W = w.drewN q ∧ Hid (∀ i : Nat, i < k → a[i]? = b[i]?))
    case atStart => exact ⟨0, 0, by omega, rfl, rfl, rfl, fun i hi => by omega⟩
    case round =>
      obtain ⟨k, q, hkg, rfl, rfl, rfl, HK⟩ := hrel
      by_cases hlt : k < n
      · obtain ⟨gk, rfl⟩ : ∃ j, gk = j + 1 := ⟨gk - 1, by omega⟩
        obtain ⟨x, hx⟩ := some_at a k (by rw [HN.out]; exact hlt)
        obtain ⟨y, hy⟩ := some_at b k (by rw [HM.out]; exact hlt)
        obtain ⟨ad, rfl, _, hc1⟩ := BytesIn.at_ (w := w.drewN q) HA.out hx
        obtain ⟨bd, rfl, _, hd1⟩ := BytesIn.at_ (w := w.drewN q) HB.out hy
        have i1 : (0 : Int) ≤ (k : Int) := by omega
        have i2 : (k : Int) < (n : Int) := by omega
        have HW : Hid (∀ m, (w.drewN q).drewN m = w.drewN (q + m)) := fun m => by simp
        by_cases hxy : x = y
        · have heq : ((x.toNat : Int) != (y.toNat : Int)) = false := by rw [hxy]; simp
          have HK2 : Hid (∀ i : Nat, i < k + 1 → a[i]? = b[i]?) := fun i hi => by
            by_cases h : i < k
            · exact HK.out i h
            · obtain rfl : i = k := by omega
              rw [hx, hy, hxy]
          clear hx hy hxy
          generalize w.drewN q = W at *
          go_wp2
          go_quiet (fail)
          go_wp2
          go_roundg gk
          case measure => omega
          case rel => exact ⟨k + 1, _, by omega, rfl, by first | rfl | go_num, HW.out _, HK2.out⟩
        · have heq : ((x.toNat : Int) != (y.toNat : Int)) = true := bne_iff_ne.2 (u8_ne hxy)
          have HF2 := Lib.hid (HF.out k (by rw [hx, hy]; exact fun e => hxy (Option.some.inj e)))
          clear hx hy hxy
          generalize w.drewN q = W at *
          go_wp2
          go_quiet (fail)
          go_wp2
          go_ret
          exact ⟨by rw [HF2.out]; rfl, _, HW.out _⟩
      · have HR2 := Lib.hid (HR.out k HK.out (by omega))
        have hk : k = n := by omega
        subst hk
        go_wp2
        go_ret
        exact ⟨by rw [HR2.out]; rfl, _, rfl⟩
  · have HF : Hid (decide (a = b) = false) := decide_eq_false (fun e => hnm (by rw [← HN.out, ← HM.out, e]))
    have d1 : ((n : Int) != (m : Int)) = true := bne_iff_ne.2 (by omega)
    generalize decide (a = b) = r at *
    clear hnm
    go_enter Try.func24, Try.ntmps24
    go_wp2
    go_ret
    exact ⟨by rw [HF.out]; rfl, 0, rfl⟩

set_option maxHeartbeats 400000 in
theorem bytes_any (A B : Option Addr) (n m c d : Nat) (a b : Pk.Bs) (w : World) (hn : a.length = n) (hm : b.length = m) (hn' : n ≤ maxLen) (hm' : m ≤ maxLen) (ha : BytesIn w w.heap.size A a) (hb : BytesIn w w.heap.size B b) :
    Calls Try.prog 12 #[.slice A n c, .slice B m d] w fun e w' => e = .returned (.bool (decide (a = b))) ∧ ∃ q, w' = w.drewN q := by
  have HC := Lib.hid (bsame_any A B n m c d a b w hn hm hn' hm' ha hb)
  clear hn hm hn' hm' ha hb
  generalize decide (a = b) = r at *
  go_enter Try.func12, Try.ntmps12
  go_wp2_with (go_at_call 24; refine HC.out.mono ?_; rintro e w1 ⟨rfl, hq⟩; have HQ := Lib.hid hq; clear hq)
  go_ret
  exact ⟨rfl, HQ.out⟩

def LargePost (s : ByteArray) (n : Nat) (w : World) (e : Ending) (w' : World) : Prop := ∃ b : Bool, e = .returned (.bool b) ∧ w = w' ∧ (b = false → n ≤ 300 ∧ s.size ≤ 40)

set_option maxHeartbeats 2000000 in
set_option maxRecDepth 100000 in
theorem large_any (s : ByteArray) (A : Option Addr) (n c : Nat) (l : List Pk.V) (w : World) (hs : s.size ≤ maxLen) (hn : l.length = n) (hn' : n ≤ maxLen) (hl : ValsIn w w.heap.size A l) (ht : ∀ v ∈ l, v.2.size ≤ 140737488355328) :
    Calls Try.prog 8 #[.string s, .slice A n c] w fun e w' => LargePost s n w e w' := by
  unfold maxLen at hs hn'
  have HV := Lib.hid hl
  have HN := Lib.hid hn
  have HT := Lib.hid ht
  clear hl hn ht
  go_enter Try.func8, Try.ntmps8
  go_wp2
  go_loop [5, 6] (fun x y => ∃ (k t : Nat), k ≤ n ∧ t ≤ 140737488400000 ∧ x = .int .i64 t ∧ y = .int .i64 k) (fun _ y => n - (intOf y).toNat)
  case atStart => exact ⟨0, 0, by omega, by omega, rfl, rfl⟩
  case round =>
    obtain ⟨k, t, hk, htt, rfl, rfl⟩ := hrel
    by_cases hlt : k < n ∧ t ≤ 21000
    · obtain ⟨hlt, ht2⟩ := hlt
      obtain ⟨v, hv⟩ := some_at l k (by rw [HN.out]; exact hlt)
      obtain ⟨ad, rfl, _, hc1, hc2⟩ := ValsIn.at_ HV.out hv
      have hvs := HT.out v (List.mem_of_getElem? hv)
      clear hv
      go_wp2
      go_round
      case rel => exact ⟨k + 1, t + v.2.size, by omega, by omega, by first | rfl | go_num, by first | rfl | go_num⟩
      case measure => simp [intOf]; omega
    · have HOUT : Hid (k = n ∨ 21000 < t) := by unfold Hid; omega
      by_cases hk2 : k < n
      · have d1 : decide ((k : Int) < (n : Int)) = true := decide_eq_true (by omega)
        have d2 : decide ((t : Int) ≤ 21000) = false := decide_eq_false (by omega)
        have d3 : decide ((21000 : Int) < (t : Int)) = true := decide_eq_true (by omega)
        clear hlt
        by_cases hn3 : 300 < n
        · have d4 : decide ((300 : Int) < (n : Int)) = true := decide_eq_true (by omega)
          clear hn3
          go_wp2
          go_ret
          exact ⟨true, rfl, rfl, fun h => by cases h⟩
        · have d4 : decide ((300 : Int) < (n : Int)) = false := decide_eq_false (by omega)
          clear hn3
          go_wp2
          go_ret
          exact ⟨true, rfl, rfl, fun h => by cases h⟩
      · have d1 : decide ((k : Int) < (n : Int)) = false := decide_eq_false (by omega)
        clear hlt
        by_cases hn3 : 300 < n
        · have d4 : decide ((300 : Int) < (n : Int)) = true := decide_eq_true (by omega)
          clear hn3
          go_wp2
          go_ret
          exact ⟨true, rfl, rfl, fun h => by cases h⟩
        · have d4 : decide ((300 : Int) < (n : Int)) = false := decide_eq_false (by omega)
          have HN3 := Lib.hid hn3
          clear hn3
          by_cases hb : 21000 < t
          · have d3 : decide ((21000 : Int) < (t : Int)) = true := decide_eq_true (by omega)
            clear hb
            go_wp2
            go_ret
            exact ⟨true, rfl, rfl, fun h => by cases h⟩
          · have d3 : decide ((21000 : Int) < (t : Int)) = false := decide_eq_false (by omega)
            clear hb
            by_cases h4 : 40 < s.size
            · have d5 : decide ((40 : Int) < (s.size : Int)) = true := decide_eq_true (by omega)
              clear h4
              go_wp2
              go_ret
              exact ⟨true, rfl, rfl, fun h => by cases h⟩
            · have d5 : decide ((40 : Int) < (s.size : Int)) = false := decide_eq_false (by omega)
              have H4 := Lib.hid h4
              clear h4
              go_wp2
              go_ret
              exact ⟨false, rfl, rfl, fun _ => ⟨by have := HN3.out; omega, by have := H4.out; omega⟩⟩

end Go.Proofs.Ythncabfeieombaa
