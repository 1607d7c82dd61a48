/- Contract: the document's answer reads values. -/
import Derived.Test.YthncabfeieombaaPackRd0
namespace Go.Proofs.Ythncabfeieombaa
open Go.RowKit

set_option maxHeartbeats 16000000 in
set_option maxRecDepth 100000 in
theorem rread_again (s : ByteArray) (A : Option Addr) (n c : Nat) (l : Pk.Bs) (w : World) (X : Nat × List Pk.V) (HX : Hid (Pk.readV (bs (letsS s)) true (n + 1) [] l = X)) (HN : Hid (l.length = n)) (hnc : n ≤ c) (_hc63 : c ≤ 9223372036854775807) (HBY : Hid (BytesIn w w.heap.size A l))
    (hL0 : 0 < (letsS s).size) (hbig : ¬ 20000 < n) (HP : Hid (∀ w, Calls Try.prog 21 #[.string s] w fun e w' => e = .returned (.tuple #[.string (letsS s), .bool true, .bool true]) ∧ w = w')) :
    Calls Try.prog 16 #[.string s, .slice A n c] w fun e w' => RAllPost X w e w' := by
  obtain ⟨i0, hi0, hz0, hz1, hz2⟩ := info_parts3 rval_info
  have HI := Lib.hid hi0
  have HZ0 := Lib.hid hz0
  have HZ1 := Lib.hid hz1
  have HZ2 := Lib.hid hz2
  clear hi0 hz0 hz1 hz2
  have d1 : decide ((20000 : Int) < (n : Int)) = false := decide_eq_false (by omega)
  go_enter Try.func16, Try.ntmps16
  go_wp2_with (go_at_call 21; refine (HP.out _).mono ?_; rintro e w' ⟨rfl, rfl⟩)
  have HB0 : Hid (Below w.heap.size w (w.alloc (.cells #[] 51))) := (Below.refl _ _).alloc (Nat.le_refl _) _
  have HO0 : Hid ((w.alloc (.cells #[] 51)).ownsRow w.heap.size 51 2 (.slice (some ⟨w.heap.size, 0, none⟩) 0 0) 0 []) :=
    ⟨rfl, .inr ⟨w.heap.size, 0, #[], rfl, Nat.le_refl _, heap_alloc_new w _, Nat.le_refl _, by decide, rfl, rfl⟩⟩
  generalize w.alloc (.cells #[] 51) = W0 at *
  generalize letsS s = L at *
  generalize hG : w.heap.size = g at *
  have HG := Lib.hid hG
  have HGL : Hid (∀ W, Below g w W → g ≤ W.heap.size) := fun W h => by have := h.size; omega
  clear hG
  go_loopg [9, 10] n (fun gk s9 s10 W => ∃ (k : Nat) (acc : List Pk.V), k + gk = n ∧ k ≤ n ∧ s10 = .int .i64 k ∧ Hid (W.ownsRow g 51 2 s9 acc.length (vcs acc)) ∧ Hid (Below g w W) ∧ Hid (∃ N, (l.drop k).length < N ∧ Pk.readV (bs L) true N acc (l.drop k) = X) ∧ acc.length + (n - k) ≤ 30000)
  case atStart => exact ⟨0, [], by omega, by omega, rfl, HO0.out, HB0.out, ⟨n + 1, by rw [List.drop_zero, HN.out]; omega, HX.out⟩, by simp; omega⟩
  case round =>
    obtain ⟨k, acc, hkg, hk, rfl, HO, HB, HR, hal⟩ := hrel
    obtain ⟨A9, c9, hu9, h91, h92, _, _⟩ := ownsRow_slice HO.out
    subst hu9
    have hml : ((acc.length : Int) % (L.size : Int)).toNat < L.size := by rw [mod_toNat]; exact Nat.mod_lt _ hL0
    have hml2 : acc.length % L.size < L.size := Nat.mod_lt _ hL0
    have hz : ¬ L.size = 0 := by omega
    have hrem : (acc.length : Int).tmod (L.size : Int) = (acc.length : Int) % (L.size : Int) := Int.tmod_eq_emod_of_nonneg (by omega)
    have i1 : (0 : Int) ≤ (acc.length : Int) % (L.size : Int) := by omega
    have i2 : (acc.length : Int) % (L.size : Int) < (L.size : Int) := by omega
    clear h91 h92
    by_cases hm0 : acc.length % L.size = 0
    · have e1 : ((acc.length : Int) % (L.size : Int) == 0) = true := by
        have : (acc.length : Int) % (L.size : Int) = 0 := by omega
        rw [this]; rfl
      by_cases hkn : k = n
      · have e2 : ((k : Int) == (n : Int)) = true := by rw [hkn]; simp
        have hst : Pk.stop (bs L) true acc.length (l.drop k) = true := by
          unfold Pk.stop
          rw [if_pos rfl, bs_length, hm0, List.drop_of_length_le (by rw [HN.out]; omega)]; rfl
        have HE : Hid (X = Pk.ends acc (l.drop k)) := by
          obtain ⟨N, hN, hR⟩ := HR.out
          unfold Hid
          rw [← hR, readV_stop hst (by omega)]
        clear hst HR
        clear hm0
        have f1 : decide ((k : Int) < (n : Int)) = false := decide_eq_false (by omega)
        have f1' : ¬ k < n := by omega
        have f1'' : decide (k < n) = false := decide_eq_false (by omega)
        have HE2 : Hid (X = Pk.ends acc []) := by
          have := HE.out
          rw [List.drop_of_length_le (by rw [HN.out]; omega)] at this
          exact this
        clear HE hkn
        by_cases h200 : 200 < acc.length
        · have f2 : decide ((200 : Int) < (acc.length : Int)) = true := decide_eq_true (by omega)
          have HW : Hid (X = (4, [])) := HE2.out.trans (ends_4 h200)
          clear h200
          go_wp2
          go_ret2
          have hG := HG.out
          subst hG
          rw [HW.out]
          exact ⟨_, rfl, World.ownsRow_nil _ _ _ _, HB.out⟩
        · have f2 : decide ((200 : Int) < (acc.length : Int)) = false := decide_eq_false (by omega)
          have HW : Hid (X = (0, acc)) := HE2.out.trans (ends_0 h200)
          clear h200
          go_wp2
          go_ret2
          have hG := HG.out
          subst hG
          rw [HW.out]
          exact ⟨_, rfl, HO.out, HB.out⟩
      · have e2 : ((k : Int) == (n : Int)) = false := beq_eq_false_iff_ne.2 (by omega)
        have hst : ¬ Pk.stop (bs L) true acc.length (l.drop k) = true := by
          unfold Pk.stop
          rw [if_pos rfl, bs_length]
          simp only [Bool.and_eq_true, decide_eq_true_eq, List.isEmpty_iff, not_and]
          intro _ e
          have := congrArg List.length e
          rw [List.length_drop, HN.out] at this
          simp at this
          omega
        clear hm0 hkn
        have HTK0 := Lib.hid (rtake_any A n c k l wr HN.out (by omega) hk (HBY.out.on2 HB.out HG.out))
        have HM1 : Hid (∀ w1, Below wr.heap.size wr w1 → Below g w w1 ∧ w1.ownsRow g 51 2 (.slice A9 acc.length c9) acc.length (vcs acc)) := fun w1 h => ⟨HB.out.trans (h.mono (HGL.out wr HB.out)), own_on HO.out h⟩
        obtain ⟨N, hN, hR⟩ := HR.out
        obtain ⟨N, rfl⟩ : ∃ j, N = j + 1 := ⟨N - 1, by omega⟩
        rw [Pk.readV, if_neg hst, letAt_get L acc.length hml] at hR
        have HTR := Lib.hid (takeV_rest (L[((acc.length : Int) % (L.size : Int)).toNat]'hml) l k)
        have HTL := Lib.hid (Pk.takeV_less (L[((acc.length : Int) % (L.size : Int)).toNat]'hml) (l.drop k))
        rw [HN.out] at HTR
        rw [List.length_drop, HN.out] at HTL
        clear hst HR
        by_cases hch : L[((acc.length : Int) % (L.size : Int)).toNat]'hml = 110
        · have g1 : ((L[((acc.length : Int) % (L.size : Int)).toNat]'hml).toNat : Int) = 110 := by rw [hch]; rfl
          have g1' : ((L[acc.length % L.size]'hml2).toNat : Int) = 110 := by
            have e : L[acc.length % L.size]'hml2 = L[((acc.length : Int) % (L.size : Int)).toNat]'hml := by congr 1
            rw [e]; exact g1
          rw [hch] at hR HTR HTL
          rw [takeV_n] at hR HTR HTL
          clear hch
          cases hx : Pk.fold 0 0 (l.drop k) with
          | error q =>
            have hq0 := Pk.fold_error _ _ _ _ hx
            rw [hx] at hR HTK0
            have HTK : Hid (Calls Try.prog 26 #[.slice A n c, .int .i64 k] wr fun e w' => e = .returned (.tuple #[.int .i64 0, .int .i64 0, .int .i64 (q : Int)]) ∧ Below wr.heap.size wr w') := HTK0.out
            have HW : Hid (X = (q, [])) := hR.symm
            have f3 : ((q : Int) != 0) = true := bne_iff_ne.2 (by omega)
            clear hx hR HTK0 HTR HTL hq0
            go_wp2_with (go_at_call 26; refine HTK.out.mono ?_; rintro e w1 ⟨rfl, hb1⟩; obtain ⟨hB1, ho1⟩ := HM1.out w1 hb1; have HB1 := Lib.hid hB1; have HO1 := Lib.hid ho1; clear hB1 ho1 hb1)
            go_ret2
            have hG := HG.out
            subst hG
            rw [HW.out]
            exact ⟨_, rfl, World.ownsRow_nil _ _ _ _, HB1.out⟩
          | ok p =>
            obtain ⟨u, t⟩ := p
            rw [hx] at hR HTK0 HTR HTL
            have hless := HTL.out _ _ rfl
            obtain ⟨htl, hte⟩ := HTR.out _ _ rfl
            have HTK : Hid (Calls Try.prog 26 #[.slice A n c, .int .i64 k] wr fun e w' => e = .returned (.tuple #[.int .i64 (Pk.zag u), .int .i64 ((n - t.length : Nat) : Int), .int .i64 0]) ∧ Below wr.heap.size wr w') := HTK0.out
            have HRN : Hid (∃ N, (l.drop (n - t.length)).length < N ∧ Pk.readV (bs L) true N (acc ++ [(Pk.zag u, ⟨#[]⟩)]) (l.drop (n - t.length)) = X) := ⟨N, by rw [← hte]; rw [List.length_drop, HN.out] at hN; omega, by rw [← hte]; exact hR⟩
            clear hx hR HTK0 HTR HTL hte hN
            obtain ⟨p, hp⟩ : ∃ p, n - t.length = p := ⟨_, rfl⟩
            rw [hp] at HTK HRN
            have hpk : k < p ∧ p ≤ n := by omega
            generalize Pk.zag u = z at *
            clear hp hless htl
            have A2 : Hid (∀ vv ∈ [Value.int .i64 z, .string ⟨#[]⟩], vv.oneCell' = true) := by intro vv hz; simp at hz; rcases hz with rfl | rfl <;> rfl
            have A3 : Hid (acc.length + 1 ≤ maxLen) := by unfold Hid maxLen; omega
            have A4 : Hid ((acc.length + 1) * 24 ≤ 140737488355328) := by unfold Hid; omega
            have A6 : Hid (∀ W : World, Below g w W → g ≤ (W.alloc (.cells #[.int .i64 z, .string ⟨#[]⟩] 51)).heap.size) := fun W h => by have := HGL.out W h; simp; omega
            have A7 : Hid (∀ (W w3 : World), Below g w W → W.ownsRow g 51 2 (.slice A9 acc.length c9) acc.length (vcs acc) → (W.alloc (.cells #[.int .i64 z, .string ⟨#[]⟩] 51)).grownBy w3 (Value.slice A9 acc.length c9).ownBlock → Below g w w3) := fun W w3 h1 h2 h3 => (h1.alloc (HGL.out W h1) _).grown h3 (A6.out W h1) (fun k hk => (h2.lt k hk).1)
            go_wp2_with (first
              | (go_at_call 26; refine HTK.out.mono ?_; rintro e w1 ⟨rfl, hb1⟩; obtain ⟨hB1, ho1⟩ := HM1.out w1 hb1; have HB1 := Lib.hid hB1; have HO1 := Lib.hid ho1; clear hB1 ho1 hb1)
              | (at_builtin; refine wpList_append_own_at (w1.alloc (.cells #[.int .i64 z, .string ⟨#[]⟩] 51)) rfl (.tmp 70) (.tmp 73) 30 rfl g 51 i0 (.agg #[.int .i64 0, .string ⟨#[]⟩]) 2 24 Try.underlying30 HI.out HZ0.out HZ1.out HZ2.out rfl Nat.two_pos (.slice A9 acc.length c9) acc.length (vcs acc) rfl (HO1.out.alloc (.cells #[.int .i64 z, .string ⟨#[]⟩] 51)) ⟨w1.heap.size, 0, none⟩ 1 1 [.int .i64 z, .string ⟨#[]⟩] rfl rfl (cells_two w1 (.int .i64 z) (.string ⟨#[]⟩) 51) A2.out A3.out A4.out (A6.out w1 HB1.out) ?_; intro u3 w3 hown3 hgr3 _ _; have HO3 := Lib.hid hown3; have HB3 := Lib.hid (A7.out w1 w3 HB1.out HO1.out hgr3); clear hown3 hgr3))
            go_roundg (n - p)
            case measure => omega
            case rel =>
              refine ⟨p, acc ++ [(z, (⟨#[]⟩ : ByteArray))], by omega, by omega, rfl, ?_, HB3.out, HRN.out, by rw [List.length_append, List.length_singleton]; omega⟩
              show World.ownsRow _ _ _ _ _ _ _
              rw [vcs_snoc, List.length_append]
              exact HO3.out
        · have g1 : (((L[((acc.length : Int) % (L.size : Int)).toNat]'hml).toNat : Int) == 110) = false := beq_eq_false_iff_ne.2 (u8_ne hch)
          have g1' : (((L[acc.length % L.size]'hml2).toNat : Int) == 110) = false := by
            have e : L[acc.length % L.size]'hml2 = L[((acc.length : Int) % (L.size : Int)).toNat]'hml := by congr 1
            rw [e]; exact g1
          rw [takeV_t _ hch] at hR HTR HTL
          clear hch
          cases hx : Pk.fold 0 0 (l.drop k) with
          | error q =>
            have hq0 := Pk.fold_error _ _ _ _ hx
            rw [hx] at hR HTK0
            have HTK : Hid (Calls Try.prog 26 #[.slice A n c, .int .i64 k] wr fun e w' => e = .returned (.tuple #[.int .i64 0, .int .i64 0, .int .i64 (q : Int)]) ∧ Below wr.heap.size wr w') := HTK0.out
            have HW : Hid (X = (q, [])) := hR.symm
            have f3 : ((q : Int) != 0) = true := bne_iff_ne.2 (by omega)
            clear hx hR HTK0 HTR HTL hq0
            go_wp2_with (go_at_call 26; refine HTK.out.mono ?_; rintro e w1 ⟨rfl, hb1⟩; obtain ⟨hB1, ho1⟩ := HM1.out w1 hb1; have HB1 := Lib.hid hB1; have HO1 := Lib.hid ho1; clear hB1 ho1 hb1)
            go_ret2
            have hG := HG.out
            subst hG
            rw [HW.out]
            exact ⟨_, rfl, World.ownsRow_nil _ _ _ _, HB1.out⟩
          | ok p =>
            obtain ⟨u, t⟩ := p
            obtain ⟨htl0, hte0⟩ := fold_rest l k u t hx
            rw [hx] at hR HTK0 HTR HTL
            rw [HN.out] at htl0 hte0
            simp only at hR HTR HTL
            have HTK : Hid (Calls Try.prog 26 #[.slice A n c, .int .i64 k] wr fun e w' => e = .returned (.tuple #[.int .i64 (Pk.zag u), .int .i64 ((n - t.length : Nat) : Int), .int .i64 0]) ∧ Below wr.heap.size wr w') := HTK0.out
            clear hx HTK0
            obtain ⟨p, hp⟩ : ∃ p, n - t.length = p := ⟨_, rfl⟩
            rw [hp] at HTK hte0
            generalize Pk.zag u = z at *
            by_cases hz : z < 0 ∨ 1000 < z
            · rw [if_pos hz] at hR
              have HW : Hid (X = (2, [])) := hR.symm
              clear hR HTR HTL
              by_cases hz0 : z < 0
              · have f4 : decide (z < 0) = true := decide_eq_true hz0
                clear hz
                go_wp2_with (go_at_call 26; refine HTK.out.mono ?_; rintro e w1 ⟨rfl, hb1⟩; obtain ⟨hB1, ho1⟩ := HM1.out w1 hb1; have HB1 := Lib.hid hB1; have HO1 := Lib.hid ho1; clear hB1 ho1 hb1)
                go_ret2
                have hG := HG.out
                subst hG
                rw [HW.out]
                exact ⟨_, rfl, World.ownsRow_nil _ _ _ _, HB1.out⟩
              · have f4 : decide (z < 0) = false := decide_eq_false hz0
                have f5 : decide ((1000 : Int) < z) = true := decide_eq_true (by omega)
                clear hz
                go_wp2_with (go_at_call 26; refine HTK.out.mono ?_; rintro e w1 ⟨rfl, hb1⟩; obtain ⟨hB1, ho1⟩ := HM1.out w1 hb1; have HB1 := Lib.hid hB1; have HO1 := Lib.hid ho1; clear hB1 ho1 hb1)
                go_ret2
                have hG := HG.out
                subst hG
                rw [HW.out]
                exact ⟨_, rfl, World.ownsRow_nil _ _ _ _, HB1.out⟩
            · rw [if_neg hz] at hR HTR HTL
              obtain ⟨m, rfl⟩ := Int.eq_ofNat_of_zero_le (show 0 ≤ z by omega)
              have f4 : decide ((m : Int) < 0) = false := decide_eq_false (by omega)
              have f5 : decide ((1000 : Int) < (m : Int)) = false := decide_eq_false (by omega)
              rw [Int.toNat_natCast] at hR HTR HTL
              have hm1000 : m ≤ 1000 := by omega
              clear hz
              by_cases hs : t.length < m
              · rw [if_pos hs] at hR
                have HW : Hid (X = (3, [])) := hR.symm
                have f6 : decide ((n : Int) < (p : Int) + (m : Int)) = true := decide_eq_true (by omega)
                have f6' : n < p + m := by omega
                clear hR HTR HTL hs
                go_wp2_with (go_at_call 26; refine HTK.out.mono ?_; rintro e w1 ⟨rfl, hb1⟩; obtain ⟨hB1, ho1⟩ := HM1.out w1 hb1; have HB1 := Lib.hid hB1; have HO1 := Lib.hid ho1; clear hB1 ho1 hb1)
                go_ret2
                have hG := HG.out
                subst hG
                rw [HW.out]
                exact ⟨_, rfl, World.ownsRow_nil _ _ _ _, HB1.out⟩
              · rw [if_neg hs] at hR HTR HTL
                have f6 : decide ((n : Int) < (p : Int) + (m : Int)) = false := decide_eq_false (by omega)
                have f6' : ¬ n < p + m := by omega
                have f6'' : decide (n < p + m) = false := decide_eq_false (by omega)
                have hless := HTL.out _ _ rfl
                obtain ⟨htl, hte⟩ := HTR.out _ _ rfl
                rw [List.length_drop] at hless htl hte
                obtain ⟨T, hT⟩ : ∃ T : ByteArray, (⟨(t.take m).toArray⟩ : ByteArray) = T := ⟨_, rfl⟩
                have HRN : Hid (∃ N, (l.drop (p + m)).length < N ∧ Pk.readV (bs L) true N (acc ++ [(0, T)]) (l.drop (p + m)) = X) := by
                  refine ⟨N, ?_, ?_⟩
                  · rw [List.length_drop, HN.out]; rw [List.length_drop, HN.out] at hN; omega
                  · rw [show l.drop (p + m) = t.drop m by rw [hte0, List.drop_drop], ← hT]; exact hR
                have hcl : ((l.drop p).take m).length = m := by rw [← hte0, List.length_take]; omega
                have HCV : Hid (∀ (W : World) (A' : Option Addr) (c' : Nat), BytesIn W W.heap.size A' ((l.drop p).take m) → (convert 25 9 (.slice A' m c')).run Try.prog W = .ok (.string T) W) := fun W A' c' h => by
                  have := conv_str W _ A' _ c' h
                  rw [hcl, ← hte0, hT] at this
                  exact this
                obtain ⟨A', c', hsl, hpc⟩ := slice_piece A n c p m l HN.out hnc (by omega)
                have HPC : Hid (∀ W, Below g w W → BytesIn W W.heap.size A' ((l.drop p).take m)) := fun W h => hpc W _ (HBY.out.on2 h HG.out)
                have hpk : k < p + m ∧ p + m ≤ n := by omega
                have HPK := Lib.hid hpk
                have f7 : p + m ≤ 20000 := by omega
                clear hR HTR HTL hs hless htl hte hcl hT hte0 hN hpc hpk
                have A2 : Hid (∀ vv ∈ [Value.int .i64 0, .string T], vv.oneCell' = true) := by intro vv hz; simp at hz; rcases hz with rfl | rfl <;> rfl
                have A3 : Hid (acc.length + 1 ≤ maxLen) := by unfold Hid maxLen; omega
                have A4 : Hid ((acc.length + 1) * 24 ≤ 140737488355328) := by unfold Hid; omega
                have A6 : Hid (∀ W : World, Below g w W → g ≤ (W.alloc (.cells #[.int .i64 0, .string T] 51)).heap.size) := fun W h => by have := HGL.out W h; simp; omega
                have A7 : Hid (∀ (W w3 : World), Below g w W → W.ownsRow g 51 2 (.slice A9 acc.length c9) acc.length (vcs acc) → (W.alloc (.cells #[.int .i64 0, .string T] 51)).grownBy w3 (Value.slice A9 acc.length c9).ownBlock → Below g w w3) := fun W w3 h1 h2 h3 => (h1.alloc (HGL.out W h1) _).grown h3 (A6.out W h1) (fun k hk => (h2.lt k hk).1)
                have HCW : Hid (∀ W, Below g w W → (convert 25 9 (.slice A' m c')).run Try.prog W = .ok (.string T) W) := fun W h => HCV.out W _ c' (HPC.out W h)
                go_wp2_with (first
                  | (go_at_call 26; refine HTK.out.mono ?_; rintro e w1 ⟨rfl, hb1⟩; obtain ⟨hB1, ho1⟩ := HM1.out w1 hb1; have HB1 := Lib.hid hB1; have HO1 := Lib.hid ho1; have hcv := HCW.out w1 HB1.out; clear hB1 ho1 hb1)
                  | (at_builtin; refine wpList_append_own_at (w1.alloc (.cells #[.int .i64 0, .string T] 51)) rfl (.tmp 88) (.tmp 97) 30 rfl g 51 i0 (.agg #[.int .i64 0, .string ⟨#[]⟩]) 2 24 Try.underlying30 HI.out HZ0.out HZ1.out HZ2.out rfl Nat.two_pos (.slice A9 acc.length c9) acc.length (vcs acc) rfl (HO1.out.alloc (.cells #[.int .i64 0, .string T] 51)) ⟨w1.heap.size, 0, none⟩ 1 1 [.int .i64 0, .string T] rfl rfl (cells_two w1 (.int .i64 0) (.string T) 51) A2.out A3.out A4.out (A6.out w1 HB1.out) ?_; intro u3 w3 hown3 hgr3 _ _; have HO3 := Lib.hid hown3; have HB3 := Lib.hid (A7.out w1 w3 HB1.out HO1.out hgr3); clear hown3 hgr3))
                go_roundg (n - (p + m))
                case measure => have := HPK.out; omega
                case rel =>
                  refine ⟨p + m, acc ++ [(0, T)], by have := HPK.out; omega, HPK.out.2, by first | rfl | go_num, ?_, HB3.out, HRN.out, by have := HPK.out; rw [List.length_append, List.length_singleton]; omega⟩
                  show World.ownsRow _ _ _ _ _ _ _
                  rw [vcs_snoc, List.length_append]
                  exact HO3.out
    · have e1 : ((acc.length : Int) % (L.size : Int) == 0) = false := beq_eq_false_iff_ne.2 (by omega)
      have hst : ¬ Pk.stop (bs L) true acc.length (l.drop k) = true := by
        unfold Pk.stop
        rw [if_pos rfl, bs_length, decide_eq_false hm0]; simp
      clear hm0
      have HTK0 := Lib.hid (rtake_any A n c k l wr HN.out (by omega) hk (HBY.out.on2 HB.out HG.out))
      have HM1 : Hid (∀ w1, Below wr.heap.size wr w1 → Below g w w1 ∧ w1.ownsRow g 51 2 (.slice A9 acc.length c9) acc.length (vcs acc)) := fun w1 h => ⟨HB.out.trans (h.mono (HGL.out wr HB.out)), own_on HO.out h⟩
      obtain ⟨N, hN, hR⟩ := HR.out
      obtain ⟨N, rfl⟩ : ∃ j, N = j + 1 := ⟨N - 1, by omega⟩
      rw [Pk.readV, if_neg hst, letAt_get L acc.length hml] at hR
      have HTR := Lib.hid (takeV_rest (L[((acc.length : Int) % (L.size : Int)).toNat]'hml) l k)
      have HTL := Lib.hid (Pk.takeV_less (L[((acc.length : Int) % (L.size : Int)).toNat]'hml) (l.drop k))
      rw [HN.out] at HTR
      rw [List.length_drop, HN.out] at HTL
      clear hst HR
      by_cases hch : L[((acc.length : Int) % (L.size : Int)).toNat]'hml = 110
      · have g1 : ((L[((acc.length : Int) % (L.size : Int)).toNat]'hml).toNat : Int) = 110 := by rw [hch]; rfl
        have g1' : ((L[acc.length % L.size]'hml2).toNat : Int) = 110 := by
          have e : L[acc.length % L.size]'hml2 = L[((acc.length : Int) % (L.size : Int)).toNat]'hml := by congr 1
          rw [e]; exact g1
        rw [hch] at hR HTR HTL
        rw [takeV_n] at hR HTR HTL
        clear hch
        cases hx : Pk.fold 0 0 (l.drop k) with
        | error q =>
          have hq0 := Pk.fold_error _ _ _ _ hx
          rw [hx] at hR HTK0
          have HTK : Hid (Calls Try.prog 26 #[.slice A n c, .int .i64 k] wr fun e w' => e = .returned (.tuple #[.int .i64 0, .int .i64 0, .int .i64 (q : Int)]) ∧ Below wr.heap.size wr w') := HTK0.out
          have HW : Hid (X = (q, [])) := hR.symm
          have f3 : ((q : Int) != 0) = true := bne_iff_ne.2 (by omega)
          clear hx hR HTK0 HTR HTL hq0
          go_wp2_with (go_at_call 26; refine HTK.out.mono ?_; rintro e w1 ⟨rfl, hb1⟩; obtain ⟨hB1, ho1⟩ := HM1.out w1 hb1; have HB1 := Lib.hid hB1; have HO1 := Lib.hid ho1; clear hB1 ho1 hb1)
          go_ret2
          have hG := HG.out
          subst hG
          rw [HW.out]
          exact ⟨_, rfl, World.ownsRow_nil _ _ _ _, HB1.out⟩
        | ok p =>
          obtain ⟨u, t⟩ := p
          rw [hx] at hR HTK0 HTR HTL
          have hless := HTL.out _ _ rfl
          obtain ⟨htl, hte⟩ := HTR.out _ _ rfl
          have HTK : Hid (Calls Try.prog 26 #[.slice A n c, .int .i64 k] wr fun e w' => e = .returned (.tuple #[.int .i64 (Pk.zag u), .int .i64 ((n - t.length : Nat) : Int), .int .i64 0]) ∧ Below wr.heap.size wr w') := HTK0.out
          have HRN : Hid (∃ N, (l.drop (n - t.length)).length < N ∧ Pk.readV (bs L) true N (acc ++ [(Pk.zag u, ⟨#[]⟩)]) (l.drop (n - t.length)) = X) := ⟨N, by rw [← hte]; rw [List.length_drop, HN.out] at hN; omega, by rw [← hte]; exact hR⟩
          clear hx hR HTK0 HTR HTL hte hN
          obtain ⟨p, hp⟩ : ∃ p, n - t.length = p := ⟨_, rfl⟩
          rw [hp] at HTK HRN
          have hpk : k < p ∧ p ≤ n := by omega
          generalize Pk.zag u = z at *
          clear hp hless htl
          have A2 : Hid (∀ vv ∈ [Value.int .i64 z, .string ⟨#[]⟩], vv.oneCell' = true) := by intro vv hz; simp at hz; rcases hz with rfl | rfl <;> rfl
          have A3 : Hid (acc.length + 1 ≤ maxLen) := by unfold Hid maxLen; omega
          have A4 : Hid ((acc.length + 1) * 24 ≤ 140737488355328) := by unfold Hid; omega
          have A6 : Hid (∀ W : World, Below g w W → g ≤ (W.alloc (.cells #[.int .i64 z, .string ⟨#[]⟩] 51)).heap.size) := fun W h => by have := HGL.out W h; simp; omega
          have A7 : Hid (∀ (W w3 : World), Below g w W → W.ownsRow g 51 2 (.slice A9 acc.length c9) acc.length (vcs acc) → (W.alloc (.cells #[.int .i64 z, .string ⟨#[]⟩] 51)).grownBy w3 (Value.slice A9 acc.length c9).ownBlock → Below g w w3) := fun W w3 h1 h2 h3 => (h1.alloc (HGL.out W h1) _).grown h3 (A6.out W h1) (fun k hk => (h2.lt k hk).1)
          go_wp2_with (first
            | (go_at_call 26; refine HTK.out.mono ?_; rintro e w1 ⟨rfl, hb1⟩; obtain ⟨hB1, ho1⟩ := HM1.out w1 hb1; have HB1 := Lib.hid hB1; have HO1 := Lib.hid ho1; clear hB1 ho1 hb1)
            | (at_builtin; refine wpList_append_own_at (w1.alloc (.cells #[.int .i64 z, .string ⟨#[]⟩] 51)) rfl (.tmp 70) (.tmp 73) 30 rfl g 51 i0 (.agg #[.int .i64 0, .string ⟨#[]⟩]) 2 24 Try.underlying30 HI.out HZ0.out HZ1.out HZ2.out rfl Nat.two_pos (.slice A9 acc.length c9) acc.length (vcs acc) rfl (HO1.out.alloc (.cells #[.int .i64 z, .string ⟨#[]⟩] 51)) ⟨w1.heap.size, 0, none⟩ 1 1 [.int .i64 z, .string ⟨#[]⟩] rfl rfl (cells_two w1 (.int .i64 z) (.string ⟨#[]⟩) 51) A2.out A3.out A4.out (A6.out w1 HB1.out) ?_; intro u3 w3 hown3 hgr3 _ _; have HO3 := Lib.hid hown3; have HB3 := Lib.hid (A7.out w1 w3 HB1.out HO1.out hgr3); clear hown3 hgr3))
          go_roundg (n - p)
          case measure => omega
          case rel =>
            refine ⟨p, acc ++ [(z, (⟨#[]⟩ : ByteArray))], by omega, by omega, rfl, ?_, HB3.out, HRN.out, by rw [List.length_append, List.length_singleton]; omega⟩
            show World.ownsRow _ _ _ _ _ _ _
            rw [vcs_snoc, List.length_append]
            exact HO3.out
      · have g1 : (((L[((acc.length : Int) % (L.size : Int)).toNat]'hml).toNat : Int) == 110) = false := beq_eq_false_iff_ne.2 (u8_ne hch)
        have g1' : (((L[acc.length % L.size]'hml2).toNat : Int) == 110) = false := by
          have e : L[acc.length % L.size]'hml2 = L[((acc.length : Int) % (L.size : Int)).toNat]'hml := by congr 1
          rw [e]; exact g1
        rw [takeV_t _ hch] at hR HTR HTL
        clear hch
        cases hx : Pk.fold 0 0 (l.drop k) with
        | error q =>
          have hq0 := Pk.fold_error _ _ _ _ hx
          rw [hx] at hR HTK0
          have HTK : Hid (Calls Try.prog 26 #[.slice A n c, .int .i64 k] wr fun e w' => e = .returned (.tuple #[.int .i64 0, .int .i64 0, .int .i64 (q : Int)]) ∧ Below wr.heap.size wr w') := HTK0.out
          have HW : Hid (X = (q, [])) := hR.symm
          have f3 : ((q : Int) != 0) = true := bne_iff_ne.2 (by omega)
          clear hx hR HTK0 HTR HTL hq0
          go_wp2_with (go_at_call 26; refine HTK.out.mono ?_; rintro e w1 ⟨rfl, hb1⟩; obtain ⟨hB1, ho1⟩ := HM1.out w1 hb1; have HB1 := Lib.hid hB1; have HO1 := Lib.hid ho1; clear hB1 ho1 hb1)
          go_ret2
          have hG := HG.out
          subst hG
          rw [HW.out]
          exact ⟨_, rfl, World.ownsRow_nil _ _ _ _, HB1.out⟩
        | ok p =>
          obtain ⟨u, t⟩ := p
          obtain ⟨htl0, hte0⟩ := fold_rest l k u t hx
          rw [hx] at hR HTK0 HTR HTL
          rw [HN.out] at htl0 hte0
          simp only at hR HTR HTL
          have HTK : Hid (Calls Try.prog 26 #[.slice A n c, .int .i64 k] wr fun e w' => e = .returned (.tuple #[.int .i64 (Pk.zag u), .int .i64 ((n - t.length : Nat) : Int), .int .i64 0]) ∧ Below wr.heap.size wr w') := HTK0.out
          clear hx HTK0
          obtain ⟨p, hp⟩ : ∃ p, n - t.length = p := ⟨_, rfl⟩
          rw [hp] at HTK hte0
          generalize Pk.zag u = z at *
          by_cases hz : z < 0 ∨ 1000 < z
          · rw [if_pos hz] at hR
            have HW : Hid (X = (2, [])) := hR.symm
            clear hR HTR HTL
            by_cases hz0 : z < 0
            · have f4 : decide (z < 0) = true := decide_eq_true hz0
              clear hz
              go_wp2_with (go_at_call 26; refine HTK.out.mono ?_; rintro e w1 ⟨rfl, hb1⟩; obtain ⟨hB1, ho1⟩ := HM1.out w1 hb1; have HB1 := Lib.hid hB1; have HO1 := Lib.hid ho1; clear hB1 ho1 hb1)
              go_ret2
              have hG := HG.out
              subst hG
              rw [HW.out]
              exact ⟨_, rfl, World.ownsRow_nil _ _ _ _, HB1.out⟩
            · have f4 : decide (z < 0) = false := decide_eq_false hz0
              have f5 : decide ((1000 : Int) < z) = true := decide_eq_true (by omega)
              clear hz
              go_wp2_with (go_at_call 26; refine HTK.out.mono ?_; rintro e w1 ⟨rfl, hb1⟩; obtain ⟨hB1, ho1⟩ := HM1.out w1 hb1; have HB1 := Lib.hid hB1; have HO1 := Lib.hid ho1; clear hB1 ho1 hb1)
              go_ret2
              have hG := HG.out
              subst hG
              rw [HW.out]
              exact ⟨_, rfl, World.ownsRow_nil _ _ _ _, HB1.out⟩
          · rw [if_neg hz] at hR HTR HTL
            obtain ⟨m, rfl⟩ := Int.eq_ofNat_of_zero_le (show 0 ≤ z by omega)
            have f4 : decide ((m : Int) < 0) = false := decide_eq_false (by omega)
            have f5 : decide ((1000 : Int) < (m : Int)) = false := decide_eq_false (by omega)
            rw [Int.toNat_natCast] at hR HTR HTL
            have hm1000 : m ≤ 1000 := by omega
            clear hz
            by_cases hs : t.length < m
            · rw [if_pos hs] at hR
              have HW : Hid (X = (3, [])) := hR.symm
              have f6 : decide ((n : Int) < (p : Int) + (m : Int)) = true := decide_eq_true (by omega)
              have f6' : n < p + m := by omega
              clear hR HTR HTL hs
              go_wp2_with (go_at_call 26; refine HTK.out.mono ?_; rintro e w1 ⟨rfl, hb1⟩; obtain ⟨hB1, ho1⟩ := HM1.out w1 hb1; have HB1 := Lib.hid hB1; have HO1 := Lib.hid ho1; clear hB1 ho1 hb1)
              go_ret2
              have hG := HG.out
              subst hG
              rw [HW.out]
              exact ⟨_, rfl, World.ownsRow_nil _ _ _ _, HB1.out⟩
            · rw [if_neg hs] at hR HTR HTL
              have f6 : decide ((n : Int) < (p : Int) + (m : Int)) = false := decide_eq_false (by omega)
              have f6' : ¬ n < p + m := by omega
              have f6'' : decide (n < p + m) = false := decide_eq_false (by omega)
              have hless := HTL.out _ _ rfl
              obtain ⟨htl, hte⟩ := HTR.out _ _ rfl
              rw [List.length_drop] at hless htl hte
              obtain ⟨T, hT⟩ : ∃ T : ByteArray, (⟨(t.take m).toArray⟩ : ByteArray) = T := ⟨_, rfl⟩
              have HRN : Hid (∃ N, (l.drop (p + m)).length < N ∧ Pk.readV (bs L) true N (acc ++ [(0, T)]) (l.drop (p + m)) = X) := by
                refine ⟨N, ?_, ?_⟩
                · rw [List.length_drop, HN.out]; rw [List.length_drop, HN.out] at hN; omega
                · rw [show l.drop (p + m) = t.drop m by rw [hte0, List.drop_drop], ← hT]; exact hR
              have hcl : ((l.drop p).take m).length = m := by rw [← hte0, List.length_take]; omega
              have HCV : Hid (∀ (W : World) (A' : Option Addr) (c' : Nat), BytesIn W W.heap.size A' ((l.drop p).take m) → (convert 25 9 (.slice A' m c')).run Try.prog W = .ok (.string T) W) := fun W A' c' h => by
                have := conv_str W _ A' _ c' h
                rw [hcl, ← hte0, hT] at this
                exact this
              obtain ⟨A', c', hsl, hpc⟩ := slice_piece A n c p m l HN.out hnc (by omega)
              have HPC : Hid (∀ W, Below g w W → BytesIn W W.heap.size A' ((l.drop p).take m)) := fun W h => hpc W _ (HBY.out.on2 h HG.out)
              have hpk : k < p + m ∧ p + m ≤ n := by omega
              have HPK := Lib.hid hpk
              have f7 : p + m ≤ 20000 := by omega
              clear hR HTR HTL hs hless htl hte hcl hT hte0 hN hpc hpk
              have A2 : Hid (∀ vv ∈ [Value.int .i64 0, .string T], vv.oneCell' = true) := by intro vv hz; simp at hz; rcases hz with rfl | rfl <;> rfl
              have A3 : Hid (acc.length + 1 ≤ maxLen) := by unfold Hid maxLen; omega
              have A4 : Hid ((acc.length + 1) * 24 ≤ 140737488355328) := by unfold Hid; omega
              have A6 : Hid (∀ W : World, Below g w W → g ≤ (W.alloc (.cells #[.int .i64 0, .string T] 51)).heap.size) := fun W h => by have := HGL.out W h; simp; omega
              have A7 : Hid (∀ (W w3 : World), Below g w W → W.ownsRow g 51 2 (.slice A9 acc.length c9) acc.length (vcs acc) → (W.alloc (.cells #[.int .i64 0, .string T] 51)).grownBy w3 (Value.slice A9 acc.length c9).ownBlock → Below g w w3) := fun W w3 h1 h2 h3 => (h1.alloc (HGL.out W h1) _).grown h3 (A6.out W h1) (fun k hk => (h2.lt k hk).1)
              have HCW : Hid (∀ W, Below g w W → (convert 25 9 (.slice A' m c')).run Try.prog W = .ok (.string T) W) := fun W h => HCV.out W _ c' (HPC.out W h)
              go_wp2_with (first
                | (go_at_call 26; refine HTK.out.mono ?_; rintro e w1 ⟨rfl, hb1⟩; obtain ⟨hB1, ho1⟩ := HM1.out w1 hb1; have HB1 := Lib.hid hB1; have HO1 := Lib.hid ho1; have hcv := HCW.out w1 HB1.out; clear hB1 ho1 hb1)
                | (at_builtin; refine wpList_append_own_at (w1.alloc (.cells #[.int .i64 0, .string T] 51)) rfl (.tmp 88) (.tmp 97) 30 rfl g 51 i0 (.agg #[.int .i64 0, .string ⟨#[]⟩]) 2 24 Try.underlying30 HI.out HZ0.out HZ1.out HZ2.out rfl Nat.two_pos (.slice A9 acc.length c9) acc.length (vcs acc) rfl (HO1.out.alloc (.cells #[.int .i64 0, .string T] 51)) ⟨w1.heap.size, 0, none⟩ 1 1 [.int .i64 0, .string T] rfl rfl (cells_two w1 (.int .i64 0) (.string T) 51) A2.out A3.out A4.out (A6.out w1 HB1.out) ?_; intro u3 w3 hown3 hgr3 _ _; have HO3 := Lib.hid hown3; have HB3 := Lib.hid (A7.out w1 w3 HB1.out HO1.out hgr3); clear hown3 hgr3))
              go_roundg (n - (p + m))
              case measure => have := HPK.out; omega
              case rel =>
                refine ⟨p + m, acc ++ [(0, T)], by have := HPK.out; omega, HPK.out.2, by first | rfl | go_num, ?_, HB3.out, HRN.out, by have := HPK.out; rw [List.length_append, List.length_singleton]; omega⟩
                show World.ownsRow _ _ _ _ _ _ _
                rw [vcs_snoc, List.length_append]
                exact HO3.out

end Go.Proofs.Ythncabfeieombaa
