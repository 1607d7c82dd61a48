/- Contract: the document's answer writes values. -/
import Derived.Test.YthncabfeieombaaPackRn
namespace Go.Proofs.Ythncabfeieombaa
open Go.RowKit

theorem own_on {w w' : World} {base : Nat} {e : TypeId} {size n : Nat} {v : Value} {xs : List Value} (h : w.ownsRow base e size v n xs) (hb : Below w.heap.size w w') : w'.ownsRow base e size v n xs := by
  refine ⟨h.1, ?_⟩
  rcases h.2 with h2 | ⟨g, cap, cur, h1, h2, h3, h4⟩
  · exact .inl h2
  · exact .inr ⟨g, cap, cur, h1, h2, (hb.block g (Array.getElem?_eq_some_iff.1 h3).1).trans h3, h4⟩

set_option maxHeartbeats 8000000 in
set_option maxRecDepth 100000 in
theorem rwrite_any (s : ByteArray) (A : Option Addr) (n c : Nat) (l : List Pk.V) (w : World) (hs : s.size ≤ maxLen) (hn : l.length = n) (hc : n ≤ 1000)
    (hl : ValsIn w w.heap.size A l) (ht : ∀ v ∈ l, v.2.size ≤ maxLen) :
    Calls Try.prog 10 #[.string s, .slice A n c] w fun e w' => ∃ v', e = .returned (.tuple #[v', .int .i64 ((Pk.wres (bs s) l).1 : Nat)]) ∧
      w'.ownsRow w.heap.size 5 1 v' (Pk.wres (bs s) l).2.length ((Pk.wres (bs s) l).2.map bv) ∧ Below w.heap.size w w' := by
  obtain ⟨i0, hi0, hz0, hz1, hz2⟩ := info_parts3 byte_info
  have HI := Lib.hid hi0
  have HZ0 := Lib.hid hz0
  have HZ1 := Lib.hid hz1
  have HZ2 := Lib.hid hz2
  clear hi0 hz0 hz1 hz2
  have HV := Lib.hid hl
  have HT := Lib.hid ht
  have HN := Lib.hid hn
  have HS := Lib.hid hs
  clear hl ht hn hs
  have HP := Lib.hid (fun w => letters_any s w HS.out)
  cases hf : Pk.fine (bs s) with
  | false =>
    have HW := Lib.hid (wres_1 (l := l) hf)
    rw [hf] at HP
    clear hf
    generalize Pk.wres (bs s) l = r at *
    go_enter Try.func10, Try.ntmps10
    go_wp2_with (go_at_call 21; refine (HP.out _).mono ?_; rintro e w' ⟨rfl, rfl⟩)
    go_ret2
    exact ⟨.slice none 0 0, by rw [HW.out]; rfl, by rw [HW.out]; exact World.ownsRow_nil _ _ _ _, Below.refl _ _⟩
  | true =>
    rw [hf] at HP
    obtain ⟨hL0, hL⟩ := letsS_len hf
    have HLE := Lib.hid (bs_letsS s)
    have hb2 := Lib.hid (@wres_2 (bs s) l hf)
    have hb4 := Lib.hid (@wres_4 (bs s) l hf)
    have hb0 := Lib.hid (@wres_0 (bs s) l hf)
    rw [← HLE.out, HN.out] at hb2 hb4 hb0
    have HSH : Hid (Pk.shape (bs (letsS s)) (Pk.often (bs s)) n = if Pk.often (bs s) then decide (n % (letsS s).size = 0) else decide (n = (letsS s).size)) := by unfold Hid Pk.shape; rw [bs_length]
    clear hf
    generalize Pk.wres (bs s) l = r at *
    generalize Pk.often (bs s) = o at *
    cases hsh : Pk.shape (bs (letsS s)) o n with
    | false =>
      have HW := Lib.hid (hb2.out (by rw [hsh]; rfl))
      rw [hsh] at HSH
      clear hsh hb2 hb4 hb0
      cases o with
      | true =>
        have hm : ¬ n % (letsS s).size = 0 := by simpa using HSH.out.symm
        have d1 : ((n : Int) % ((letsS s).size : Int) != 0) = true := by
          have : (n : Int) % ((letsS s).size : Int) ≠ 0 := by omega
          exact bne_iff_ne.2 this
        clear HSH hm
        go_enter Try.func10, Try.ntmps10
        go_wp2_with (go_at_call 21; refine (HP.out _).mono ?_; rintro e w' ⟨rfl, rfl⟩)
        go_ret2
        exact ⟨.slice none 0 0, by rw [HW.out]; rfl, by rw [HW.out]; exact World.ownsRow_nil _ _ _ _, Below.refl _ _⟩
      | false =>
        have hm : ¬ n = (letsS s).size := by simpa using HSH.out.symm
        have d1 : ((n : Int) != ((letsS s).size : Int)) = true := bne_iff_ne.2 (by omega)
        clear HSH hm
        go_enter Try.func10, Try.ntmps10
        go_wp2_with (go_at_call 21; refine (HP.out _).mono ?_; rintro e w' ⟨rfl, rfl⟩)
        go_ret2
        exact ⟨.slice none 0 0, by rw [HW.out]; rfl, by rw [HW.out]; exact World.ownsRow_nil _ _ _ _, Below.refl _ _⟩
    | true =>
      have HSHT := Lib.hid hsh
      rw [hsh] at HSH
      clear hsh
      cases o with
      | true =>
        have hm : n % (letsS s).size = 0 := by simpa using HSH.out.symm
        have d1 : ((n : Int) % ((letsS s).size : Int) != 0) = false := by
          have : (n : Int) % ((letsS s).size : Int) = 0 := by omega
          rw [this]; rfl
        clear HSH hm
        go_enter Try.func10, Try.ntmps10
        go_wp2_with (go_at_call 21; refine (HP.out _).mono ?_; rintro e w' ⟨rfl, rfl⟩)
        have HB0 : Hid (Below w.heap.size w (w.alloc (.cells #[] 5))) := (Below.refl _ _).alloc (Nat.le_refl _) _
        have HO0 : Hid ((w.alloc (.cells #[] 5)).ownsRow w.heap.size 5 1 (.slice (some ⟨w.heap.size, 0, none⟩) 0 0) 0 []) :=
          ⟨rfl, .inr ⟨w.heap.size, 0, #[], rfl, Nat.le_refl _, heap_alloc_new w _, Nat.le_refl _, by decide, rfl, rfl⟩⟩
        generalize w.alloc (.cells #[] 5) = W0 at *
        generalize letsS s = L at *
        generalize hG : w.heap.size = g at *
        have HG := Lib.hid hG
        have HGL : Hid (∀ W, Below g w W → g ≤ W.heap.size) := fun W h => by have := h.size; omega
        clear hG
        go_loopg [9, 10] n (fun gk s9 s10 W => ∃ (k : Nat), k + gk = n ∧ s10 = .int .i64 k ∧ Hid (Pk.okVals (bs L) 0 (l.take k) = true) ∧ Hid (W.ownsRow g 5 1 s9 (Pk.enc (bs L) 0 (l.take k)).length ((Pk.enc (bs L) 0 (l.take k)).map bv)) ∧ Hid (Below g w W))
        case atStart => exact ⟨0, by omega, rfl, rfl, HO0.out, HB0.out⟩
        case round =>
          obtain ⟨k, hkg, rfl, HOK, HO, HB⟩ := hrel
          by_cases hlt : k < n
          · obtain ⟨gk, rfl⟩ : ∃ j, gk = j + 1 := ⟨gk - 1, by omega⟩
            obtain ⟨v, hv⟩ := some_at l k (by rw [HN.out]; exact hlt)
            obtain ⟨ad, rfl, hadb, hc1, hc2⟩ := ValsIn.at_ (HV.out.below HB.out (Nat.le_refl _)) hv
            have hml : ((k : Int) % (L.size : Int)).toNat < L.size := by rw [mod_toNat]; exact Nat.mod_lt _ hL0
            have hz : ¬ L.size = 0 := by omega
            have hrem : (k : Int).tmod (L.size : Int) = (k : Int) % (L.size : Int) := Int.tmod_eq_emod_of_nonneg (by omega)
            have i1 : (0 : Int) ≤ (k : Int) % (L.size : Int) := by omega
            have i2 : (k : Int) % (L.size : Int) < (L.size : Int) := by omega
            have i3 : (0 : Int) ≤ (k : Int) := by omega
            have i4 : (k : Int) < (n : Int) := by omega
            have HE := Lib.hid (Pk.enc_take (bs L) l k v hv)
            have HOKN := Lib.hid (Pk.okVals_take (bs L) l k v hv)
            have HOKF : Hid (Pk.isVal (L[((k : Int) % (L.size : Int)).toNat]'hml) v = false → Pk.okVals (bs L) 0 l = false) := fun h => Pk.okVals_not (bs L) l 0 k v hv (by rw [Nat.zero_add, letAt_get L k hml]; exact h)
            have HLN := Lib.hid (enc_len (bs L) (l.take k) 0 HOK.out)
            have HT1 := Lib.hid (HT.out v (List.mem_of_getElem? hv))
            have HSC : Hid (∀ W, Below g w W → W.cell? (ad.add (k * 2)) = some (.int .i64 v.1) ∧ W.cell? ⟨(ad.add (k * 2)).block, (ad.add (k * 2)).off + 1, none⟩ = some (.string v.2)) := fun W h => by
              obtain ⟨ad', he, _, h1, h2⟩ := ValsIn.at_ (HV.out.below h (Nat.le_refl _)) hv
              obtain rfl := Option.some.inj he
              exact ⟨h1, h2⟩
            rw [letAt_get L k hml] at HE HOKN
            rw [HOK.out] at HOKN
            rw [List.length_take, HN.out] at HLN
            clear hv
            have HMC := Lib.hid (may_any (L[((k : Int) % (L.size : Int)).toNat]'hml) v wr HT1.out)
            have hq : (Pk.enc (bs L) 0 (l.take k)).length ≤ 1010000 := by have := HLN.out; omega
            generalize Pk.enc (bs L) 0 (l.take k) = eb at *
            cases hiv : Pk.isVal (L[((k : Int) % (L.size : Int)).toNat]'hml) v with
            | false =>
              have HW := Lib.hid (hb2.out (by rw [HOKF.out hiv]; simp))
              rw [hiv] at HMC
              clear hiv
              go_wp2_with (go_at_call 22; refine HMC.out.mono ?_; rintro e w1 ⟨rfl, hb1⟩; have HB1 := Lib.hid (HB.out.trans (hb1.mono (HGL.out wr HB.out))); clear hb1)
              go_ret2
              have hG := HG.out
              subst hG
              exact ⟨.slice none 0 0, by rw [HW.out]; rfl, by rw [HW.out]; exact World.ownsRow_nil _ _ _ _, HB1.out⟩
            | true =>
              have hiv2 := hiv
              rw [hiv] at HMC HOKN
              clear hiv
              have HM1 : Hid (∀ w1, Below wr.heap.size wr w1 → Below g w w1 ∧ w1.ownsRow g 5 1 u9 eb.length (eb.map bv) ∧ g ≤ w1.heap.size) := fun w1 h =>
                have h1 := HB.out.trans (h.mono (HGL.out wr HB.out))
                ⟨h1, own_on HO.out h, HGL.out w1 h1⟩
              by_cases hch : L[((k : Int) % (L.size : Int)).toNat]'hml = 110
              · have d1 : ((L[((k : Int) % (L.size : Int)).toNat]'hml).toNat : Int) = 110 := by rw [hch]; rfl
                rw [hch] at hiv2 HE HMC
                obtain ⟨vn, vt⟩ := v
                rw [isVal_n] at hiv2
                simp only [Bool.and_eq_true, decide_eq_true_eq] at hiv2
                obtain ⟨_, hr1, hr2⟩ := hiv2
                have HEV : Hid (Pk.encV 110 (vn, vt) = Pk.num (Pk.zig vn)) := rfl
                rw [HEV.out] at HE
                have HCN := Lib.hid (fun W => rnumber_any vn W hr1 hr2)
                have hl10 := Pk.num_ten (Pk.zig_le hr1 hr2)
                have hl1 := Pk.num_one (Pk.zig vn)
                have HMC2 : Hid (Calls Try.prog 22 #[.agg #[.int .i64 vn, .string vt], .int .u8 110] wr fun e w' => e = .returned (.bool true) ∧ Below wr.heap.size wr w') := HMC.out
                clear hch HMC hr1 hr2
                generalize Pk.num (Pk.zig vn) = y at *
                have A3 : Hid (eb.length + y.length ≤ maxLen) := by unfold Hid maxLen; omega
                have A4 : Hid ((eb.length + y.length) * 1 ≤ 140737488355328) := by unfold Hid; omega
                have A1 : Hid ((y.map bv).length = y.length * 1) := by unfold Hid; simp
                have A2 : Hid (∀ u ∈ y.map bv, u.oneCell' = true) := fun u hu => by obtain ⟨z, _, rfl⟩ := List.mem_map.1 hu; rfl
                have A5 : Hid (∀ (w1 w2 : World) (v2 : Value), Below g w w1 → w1.ownsRow g 5 1 u9 eb.length (eb.map bv) → w2.ownsRow w1.heap.size 5 1 v2 y.length (y.map bv) → Below w1.heap.size w1 w2 → ∃ g2 cap2, v2 = .slice (some ⟨g2, 0, none⟩) y.length cap2 ∧ w2.ownsRow g 5 1 u9 eb.length (eb.map bv) ∧ (∀ j u, (y.map bv)[j]? = some u → w2.cell? ((⟨g2, 0, none⟩ : Addr).add j) = some u) ∧ Below g w w2 ∧ g ≤ w2.heap.size) := fun w1 w2 v2 h1 h2 h3 h4 => by
                  obtain ⟨g2, cap2, rfl, _⟩ := h3.form (by omega)
                  have h5 := h1.trans (h4.mono (HGL.out w1 h1))
                  exact ⟨g2, cap2, rfl, own_on h2 h4, h3.cells (g := g2) rfl, h5, HGL.out w2 h5⟩
                have A6 : Hid (∀ w2 w3 : World, Below g w w2 → w2.ownsRow g 5 1 u9 eb.length (eb.map bv) → w2.grownBy w3 u9.ownBlock → Below g w w3) := fun w2 w3 h1 h2 h3 => h1.grown h3 (HGL.out w2 h1) (fun k hk => (h2.lt k hk).1)
                go_wp2_with (first
                  | (go_at_call 22; refine HMC2.out.mono ?_; rintro e w1 ⟨rfl, hb1⟩; obtain ⟨hB1, ho1, hg1⟩ := HM1.out w1 hb1; obtain ⟨hs1, hs2⟩ := HSC.out w1 hB1; have HB1 := Lib.hid hB1; have HO1 := Lib.hid ho1; clear hB1 ho1 hb1)
                  | (go_at_call 23; refine (HCN.out _).mono ?_; rintro e w2 ⟨v2, rfl, ho2, hb2'⟩; obtain ⟨g2, cap2, rfl, ho3, hn3, hb3, hg3⟩ := A5.out w1 w2 v2 HB1.out HO1.out ho2 hb2'; have HO3 := Lib.hid ho3; have HN3 := Lib.hid hn3; have HB3 := Lib.hid hb3; have HG3 := Lib.hid hg3; clear ho2 hb2' ho3 hn3 hb3 hg3)
                  | (at_builtin; refine wpList_append_own_at w2 rfl (.tmp 62) (.tmp 68) 25 rfl g 5 i0 (.int .u8 0) 1 1 Try.underlying25 HI.out HZ0.out HZ1.out HZ2.out rfl Nat.one_pos u9 eb.length (eb.map bv) rfl HO3.out ⟨g2, 0, none⟩ y.length cap2 (y.map bv) rfl A1.out HN3.out A2.out A3.out A4.out HG3.out ?_; intro v4 w4 ho4 hg4 _ _; have HO4 := Lib.hid ho4; have HB4 := Lib.hid (A6.out w2 w4 HB3.out HO3.out hg4); clear ho4 hg4))
                go_roundg gk
                case measure => omega
                case rel =>
                  refine ⟨k + 1, by omega, by first | rfl | go_num, HOKN.out, ?_, HB4.out⟩
                  show World.ownsRow _ _ _ _ _ _ _
                  rw [HE.out, List.length_append, List.map_append]
                  exact HO4.out
              · have d1 : (((L[((k : Int) % (L.size : Int)).toNat]'hml).toNat : Int) == 110) = false := beq_eq_false_iff_ne.2 (u8_ne hch)
                have hml2 : k % L.size < L.size := Nat.mod_lt _ hL0
                have d1' : (((L[k % L.size]'hml2).toNat : Int) == 110) = false := by
                  have e : L[k % L.size]'hml2 = L[((k : Int) % (L.size : Int)).toNat]'hml := by congr 1
                  rw [e]; exact d1
                obtain ⟨vn, vt⟩ := v
                rw [isVal_t _ vn vt hch] at hiv2
                simp only [Bool.and_eq_true, decide_eq_true_eq] at hiv2
                obtain ⟨rfl, hvt⟩ := hiv2
                have HEV : Hid (Pk.encV (L[((k : Int) % (L.size : Int)).toNat]'hml) (0, vt) = Pk.num (Pk.zig vt.size) ++ bs vt) := by unfold Hid Pk.encV; rw [if_neg hch, Pk.zig_nat]; rfl
                rw [HEV.out] at HE
                have HCN : Hid (∀ W, Calls Try.prog 23 #[.int .i64 (vt.size : Int)] W fun e w' => ∃ v', e = .returned v' ∧ w'.ownsRow W.heap.size 5 1 v' (Pk.num (Pk.zig vt.size)).length ((Pk.num (Pk.zig vt.size)).map bv) ∧ Below W.heap.size W w') := fun W => rnumber_any (vt.size : Int) W (by omega) (by omega)
                have hl10 := Pk.num_ten (u := Pk.zig vt.size) (by rw [Pk.zig_nat]; omega)
                have hl1 := Pk.num_one (Pk.zig vt.size)
                have HMC2 : Hid (Calls Try.prog 22 #[.agg #[.int .i64 0, .string vt], .int .u8 ((L[((k : Int) % (L.size : Int)).toNat]'hml).toNat : Int)] wr fun e w' => e = .returned (.bool true) ∧ Below wr.heap.size wr w') := HMC.out
                have hc1' : wr.cell? (ad.add (k * 2)) = some (.int .i64 0) := hc1
                have hc2' : wr.cell? ⟨(ad.add (k * 2)).block, (ad.add (k * 2)).off + 1, none⟩ = some (.string vt) := hc2
                have HSC2 : Hid (∀ W, Below g w W → W.cell? ⟨(ad.add (k * 2)).block, (ad.add (k * 2)).off + 1, none⟩ = some (.string vt)) := fun W h => (HSC.out W h).2
                clear hch HEV HMC hc1 hc2
                generalize Pk.num (Pk.zig vt.size) = y at *
                have A3 : Hid (eb.length + y.length ≤ maxLen) := by unfold Hid maxLen; omega
                have A4 : Hid ((eb.length + y.length) * 1 ≤ 140737488355328) := by unfold Hid; omega
                have A0 : Hid (0 < y.length) := by unfold Hid; omega
                have A1 : Hid ((y.map bv).length = y.length * 1) := by unfold Hid; simp
                have A2 : Hid (∀ u ∈ y.map bv, u.oneCell' = true) := fun u hu => by obtain ⟨z, _, rfl⟩ := List.mem_map.1 hu; rfl
                have A7 : Hid (eb.length + y.length + vt.size ≤ maxLen ∧ eb.length + y.length + vt.size ≤ 140737488355328) := by unfold Hid maxLen; omega
                have A5 : Hid (∀ (w1 w2 : World) (v2 : Value), Below g w w1 → w1.ownsRow g 5 1 u9 eb.length (eb.map bv) → w2.ownsRow w1.heap.size 5 1 v2 y.length (y.map bv) → Below w1.heap.size w1 w2 → ∃ g2 cap2, v2 = .slice (some ⟨g2, 0, none⟩) y.length cap2 ∧ w2.ownsRow g 5 1 u9 eb.length (eb.map bv) ∧ (∀ j u, (y.map bv)[j]? = some u → w2.cell? ((⟨g2, 0, none⟩ : Addr).add j) = some u) ∧ Below g w w2 ∧ g ≤ w2.heap.size) := fun w1 w2 v2 h1 h2 h3 h4 => by
                  obtain ⟨g2, cap2, rfl, _⟩ := h3.form (by omega)
                  have h5 := h1.trans (h4.mono (HGL.out w1 h1))
                  exact ⟨g2, cap2, rfl, own_on h2 h4, h3.cells (g := g2) rfl, h5, HGL.out w2 h5⟩
                have A6 : Hid (∀ (w2 w3 : World) (v3 : Value) (q : Nat) (qs : List Value), Below g w w2 → w2.ownsRow g 5 1 v3 q qs → w2.grownBy w3 v3.ownBlock → Below g w w3 ∧ g ≤ w3.heap.size) := fun w2 w3 v3 q qs h1 h2 h3 =>
                  have h4 := h1.grown h3 (HGL.out w2 h1) (fun k hk => (h2.lt k hk).1)
                  ⟨h4, HGL.out w3 h4⟩
                go_wp2_with (go_at_call 22; refine HMC2.out.mono ?_; rintro e w1 ⟨rfl, hb1⟩; obtain ⟨hB1, ho1, hg1⟩ := HM1.out w1 hb1; have hs2 := HSC2.out w1 hB1; have HB1 := Lib.hid hB1; have HO1 := Lib.hid ho1; clear hB1 ho1 hb1)
                have HB1d : Hid (Below g w w1.drew) := ⟨HB1.out.os, HB1.out.tape, HB1.out.output, HB1.out.size, HB1.out.block⟩
                have HCN1 := Lib.hid (HCN.out w1.drew)
                have HA5 := Lib.hid (fun w2 v2 => A5.out w1.drew w2 v2 HB1d.out HO1.out)
                go_region_held3 (fun w' => w'.cell? ⟨(ad.add (k * 2)).block, (ad.add (k * 2)).off + 1, none⟩ = some (.string vt)) (first | go_keep | assumption)
                  (first
                    | (go_at_call 23; refine HCN1.out.mono ?_; rintro e w2 ⟨v2, rfl, ho2, hb2'⟩; obtain ⟨g2, cap2, rfl, ho3, hn3, hb3, hg3⟩ := HA5.out w2 v2 ho2 hb2'; have hk2 := HSC2.out w2 hb3; have HO3 := Lib.hid ho3; have HN3 := Lib.hid hn3; have HB3 := Lib.hid hb3; have HG3 := Lib.hid hg3; clear ho2 hb2' ho3 hn3 hb3 hg3)
                    | (refine step_append_lies w2 (by rfl) (.tmp 70) (.tmp 77) 25 (by rfl) g 5 i0 (.int .u8 0) 1 1 Try.underlying25 HI.out HZ0.out HZ1.out HZ2.out rfl Nat.one_pos u9 eb.length (eb.map bv) (by rfl) HO3.out ⟨g2, 0, none⟩ y.length cap2 (y.map bv) (by rfl) A1.out HN3.out A2.out A0.out A3.out A4.out HG3.out w2.heap.size rfl ?_; intro g4 cap4 w4 ho4 hg4 _ _; have hx4 := A6.out w2 w4 u9 _ _ HB3.out HO3.out hg4; have hk4 := HSC2.out w4 hx4.1; have HO4 := Lib.hid ho4; have HX4 := Lib.hid hx4; clear ho4 hg4 hx4)
                    | (refine step_append_str w4 (by rfl) (.tmp 78) (.tmp 83) 25 9 (by rfl) g 5 i0 Try.underlying25 Try.underlying9 HI.out HZ0.out HZ1.out HZ2.out (.slice (some ⟨g4, 0, none⟩) (eb.length + y.length) cap4) (eb.length + y.length) (eb.map bv ++ y.map bv) (by rfl) HO4.out vt (by rfl) A7.out.1 A7.out.2 HX4.out.2 ?_; intro v5 w5 ho5 hg5; have hx5 := A6.out w4 w5 _ _ _ HX4.out.1 HO4.out hg5; have hk5 := HSC2.out w5 hx5.1; have HO5 := Lib.hid ho5; have HX5 := Lib.hid hx5; clear ho5 hg5 hx5))
                go_wp2
                go_roundg gk
                case measure => omega
                case rel =>
                  refine ⟨k + 1, by omega, by first | rfl | go_num, HOKN.out, ?_, HX5.out.1⟩
                  show World.ownsRow _ _ _ _ _ _ _
                  rw [HE.out, List.length_append, List.length_append, bs_length, ← Nat.add_assoc, List.map_append, List.map_append, ← List.append_assoc]
                  exact HO5.out
          · have hk : k = n := by omega
            have HOL : Hid (Pk.okVals (bs L) 0 l = true) := by
              have := HOK.out
              rw [List.take_of_length_le (by rw [HN.out]; omega)] at this
              exact this
            have HO4 : Hid (wr.ownsRow g 5 1 u9 (Pk.enc (bs L) 0 l).length ((Pk.enc (bs L) 0 l).map bv)) := by
              have := HO.out
              rw [List.take_of_length_le (by rw [HN.out]; omega)] at this
              exact this
            subst hk
            by_cases h200 : 200 < k
            · have HW := Lib.hid (hb4.out (by rw [HSHT.out, HOL.out]; rfl) h200)
              have d9 : decide ((200 : Int) < (k : Int)) = true := decide_eq_true (by omega)
              clear h200
              go_wp2
              go_ret2
              have hG := HG.out
              subst hG
              exact ⟨.slice none 0 0, by rw [HW.out]; rfl, by rw [HW.out]; exact World.ownsRow_nil _ _ _ _, HB.out⟩
            · have HW := Lib.hid (hb0.out (by rw [HSHT.out, HOL.out]; rfl) h200)
              have d9 : decide ((200 : Int) < (k : Int)) = false := decide_eq_false (by omega)
              clear h200
              go_wp2
              go_ret2
              have hG := HG.out
              subst hG
              exact ⟨u9, by rw [HW.out]; rfl, by rw [HW.out]; exact HO4.out, HB.out⟩
      | false =>
        have hm : n = (letsS s).size := by simpa using HSH.out.symm
        have d1 : ((n : Int) != ((letsS s).size : Int)) = false := by rw [hm]; simp
        clear HSH hm
        go_enter Try.func10, Try.ntmps10
        go_wp2_with (go_at_call 21; refine (HP.out _).mono ?_; rintro e w' ⟨rfl, rfl⟩)
        have HB0 : Hid (Below w.heap.size w (w.alloc (.cells #[] 5))) := (Below.refl _ _).alloc (Nat.le_refl _) _
        have HO0 : Hid ((w.alloc (.cells #[] 5)).ownsRow w.heap.size 5 1 (.slice (some ⟨w.heap.size, 0, none⟩) 0 0) 0 []) :=
          ⟨rfl, .inr ⟨w.heap.size, 0, #[], rfl, Nat.le_refl _, heap_alloc_new w _, Nat.le_refl _, by decide, rfl, rfl⟩⟩
        generalize w.alloc (.cells #[] 5) = W0 at *
        generalize letsS s = L at *
        generalize hG : w.heap.size = g at *
        have HG := Lib.hid hG
        have HGL : Hid (∀ W, Below g w W → g ≤ W.heap.size) := fun W h => by have := h.size; omega
        clear hG
        go_loopg [9, 10] n (fun gk s9 s10 W => ∃ (k : Nat), k + gk = n ∧ s10 = .int .i64 k ∧ Hid (Pk.okVals (bs L) 0 (l.take k) = true) ∧ Hid (W.ownsRow g 5 1 s9 (Pk.enc (bs L) 0 (l.take k)).length ((Pk.enc (bs L) 0 (l.take k)).map bv)) ∧ Hid (Below g w W))
        case atStart => exact ⟨0, by omega, rfl, rfl, HO0.out, HB0.out⟩
        case round =>
          obtain ⟨k, hkg, rfl, HOK, HO, HB⟩ := hrel
          by_cases hlt : k < n
          · obtain ⟨gk, rfl⟩ : ∃ j, gk = j + 1 := ⟨gk - 1, by omega⟩
            obtain ⟨v, hv⟩ := some_at l k (by rw [HN.out]; exact hlt)
            obtain ⟨ad, rfl, hadb, hc1, hc2⟩ := ValsIn.at_ (HV.out.below HB.out (Nat.le_refl _)) hv
            have hml : ((k : Int) % (L.size : Int)).toNat < L.size := by rw [mod_toNat]; exact Nat.mod_lt _ hL0
            have hz : ¬ L.size = 0 := by omega
            have hrem : (k : Int).tmod (L.size : Int) = (k : Int) % (L.size : Int) := Int.tmod_eq_emod_of_nonneg (by omega)
            have i1 : (0 : Int) ≤ (k : Int) % (L.size : Int) := by omega
            have i2 : (k : Int) % (L.size : Int) < (L.size : Int) := by omega
            have i3 : (0 : Int) ≤ (k : Int) := by omega
            have i4 : (k : Int) < (n : Int) := by omega
            have HE := Lib.hid (Pk.enc_take (bs L) l k v hv)
            have HOKN := Lib.hid (Pk.okVals_take (bs L) l k v hv)
            have HOKF : Hid (Pk.isVal (L[((k : Int) % (L.size : Int)).toNat]'hml) v = false → Pk.okVals (bs L) 0 l = false) := fun h => Pk.okVals_not (bs L) l 0 k v hv (by rw [Nat.zero_add, letAt_get L k hml]; exact h)
            have HLN := Lib.hid (enc_len (bs L) (l.take k) 0 HOK.out)
            have HT1 := Lib.hid (HT.out v (List.mem_of_getElem? hv))
            have HSC : Hid (∀ W, Below g w W → W.cell? (ad.add (k * 2)) = some (.int .i64 v.1) ∧ W.cell? ⟨(ad.add (k * 2)).block, (ad.add (k * 2)).off + 1, none⟩ = some (.string v.2)) := fun W h => by
              obtain ⟨ad', he, _, h1, h2⟩ := ValsIn.at_ (HV.out.below h (Nat.le_refl _)) hv
              obtain rfl := Option.some.inj he
              exact ⟨h1, h2⟩
            rw [letAt_get L k hml] at HE HOKN
            rw [HOK.out] at HOKN
            rw [List.length_take, HN.out] at HLN
            clear hv
            have HMC := Lib.hid (may_any (L[((k : Int) % (L.size : Int)).toNat]'hml) v wr HT1.out)
            have hq : (Pk.enc (bs L) 0 (l.take k)).length ≤ 1010000 := by have := HLN.out; omega
            generalize Pk.enc (bs L) 0 (l.take k) = eb at *
            cases hiv : Pk.isVal (L[((k : Int) % (L.size : Int)).toNat]'hml) v with
            | false =>
              have HW := Lib.hid (hb2.out (by rw [HOKF.out hiv]; simp))
              rw [hiv] at HMC
              clear hiv
              go_wp2_with (go_at_call 22; refine HMC.out.mono ?_; rintro e w1 ⟨rfl, hb1⟩; have HB1 := Lib.hid (HB.out.trans (hb1.mono (HGL.out wr HB.out))); clear hb1)
              go_ret2
              have hG := HG.out
              subst hG
              exact ⟨.slice none 0 0, by rw [HW.out]; rfl, by rw [HW.out]; exact World.ownsRow_nil _ _ _ _, HB1.out⟩
            | true =>
              have hiv2 := hiv
              rw [hiv] at HMC HOKN
              clear hiv
              have HM1 : Hid (∀ w1, Below wr.heap.size wr w1 → Below g w w1 ∧ w1.ownsRow g 5 1 u9 eb.length (eb.map bv) ∧ g ≤ w1.heap.size) := fun w1 h =>
                have h1 := HB.out.trans (h.mono (HGL.out wr HB.out))
                ⟨h1, own_on HO.out h, HGL.out w1 h1⟩
              by_cases hch : L[((k : Int) % (L.size : Int)).toNat]'hml = 110
              · have d1 : ((L[((k : Int) % (L.size : Int)).toNat]'hml).toNat : Int) = 110 := by rw [hch]; rfl
                rw [hch] at hiv2 HE HMC
                obtain ⟨vn, vt⟩ := v
                rw [isVal_n] at hiv2
                simp only [Bool.and_eq_true, decide_eq_true_eq] at hiv2
                obtain ⟨_, hr1, hr2⟩ := hiv2
                have HEV : Hid (Pk.encV 110 (vn, vt) = Pk.num (Pk.zig vn)) := rfl
                rw [HEV.out] at HE
                have HCN := Lib.hid (fun W => rnumber_any vn W hr1 hr2)
                have hl10 := Pk.num_ten (Pk.zig_le hr1 hr2)
                have hl1 := Pk.num_one (Pk.zig vn)
                have HMC2 : Hid (Calls Try.prog 22 #[.agg #[.int .i64 vn, .string vt], .int .u8 110] wr fun e w' => e = .returned (.bool true) ∧ Below wr.heap.size wr w') := HMC.out
                clear hch HMC hr1 hr2
                generalize Pk.num (Pk.zig vn) = y at *
                have A3 : Hid (eb.length + y.length ≤ maxLen) := by unfold Hid maxLen; omega
                have A4 : Hid ((eb.length + y.length) * 1 ≤ 140737488355328) := by unfold Hid; omega
                have A1 : Hid ((y.map bv).length = y.length * 1) := by unfold Hid; simp
                have A2 : Hid (∀ u ∈ y.map bv, u.oneCell' = true) := fun u hu => by obtain ⟨z, _, rfl⟩ := List.mem_map.1 hu; rfl
                have A5 : Hid (∀ (w1 w2 : World) (v2 : Value), Below g w w1 → w1.ownsRow g 5 1 u9 eb.length (eb.map bv) → w2.ownsRow w1.heap.size 5 1 v2 y.length (y.map bv) → Below w1.heap.size w1 w2 → ∃ g2 cap2, v2 = .slice (some ⟨g2, 0, none⟩) y.length cap2 ∧ w2.ownsRow g 5 1 u9 eb.length (eb.map bv) ∧ (∀ j u, (y.map bv)[j]? = some u → w2.cell? ((⟨g2, 0, none⟩ : Addr).add j) = some u) ∧ Below g w w2 ∧ g ≤ w2.heap.size) := fun w1 w2 v2 h1 h2 h3 h4 => by
                  obtain ⟨g2, cap2, rfl, _⟩ := h3.form (by omega)
                  have h5 := h1.trans (h4.mono (HGL.out w1 h1))
                  exact ⟨g2, cap2, rfl, own_on h2 h4, h3.cells (g := g2) rfl, h5, HGL.out w2 h5⟩
                have A6 : Hid (∀ w2 w3 : World, Below g w w2 → w2.ownsRow g 5 1 u9 eb.length (eb.map bv) → w2.grownBy w3 u9.ownBlock → Below g w w3) := fun w2 w3 h1 h2 h3 => h1.grown h3 (HGL.out w2 h1) (fun k hk => (h2.lt k hk).1)
                go_wp2_with (first
                  | (go_at_call 22; refine HMC2.out.mono ?_; rintro e w1 ⟨rfl, hb1⟩; obtain ⟨hB1, ho1, hg1⟩ := HM1.out w1 hb1; obtain ⟨hs1, hs2⟩ := HSC.out w1 hB1; have HB1 := Lib.hid hB1; have HO1 := Lib.hid ho1; clear hB1 ho1 hb1)
                  | (go_at_call 23; refine (HCN.out _).mono ?_; rintro e w2 ⟨v2, rfl, ho2, hb2'⟩; obtain ⟨g2, cap2, rfl, ho3, hn3, hb3, hg3⟩ := A5.out w1 w2 v2 HB1.out HO1.out ho2 hb2'; have HO3 := Lib.hid ho3; have HN3 := Lib.hid hn3; have HB3 := Lib.hid hb3; have HG3 := Lib.hid hg3; clear ho2 hb2' ho3 hn3 hb3 hg3)
                  | (at_builtin; refine wpList_append_own_at w2 rfl (.tmp 62) (.tmp 68) 25 rfl g 5 i0 (.int .u8 0) 1 1 Try.underlying25 HI.out HZ0.out HZ1.out HZ2.out rfl Nat.one_pos u9 eb.length (eb.map bv) rfl HO3.out ⟨g2, 0, none⟩ y.length cap2 (y.map bv) rfl A1.out HN3.out A2.out A3.out A4.out HG3.out ?_; intro v4 w4 ho4 hg4 _ _; have HO4 := Lib.hid ho4; have HB4 := Lib.hid (A6.out w2 w4 HB3.out HO3.out hg4); clear ho4 hg4))
                go_roundg gk
                case measure => omega
                case rel =>
                  refine ⟨k + 1, by omega, by first | rfl | go_num, HOKN.out, ?_, HB4.out⟩
                  show World.ownsRow _ _ _ _ _ _ _
                  rw [HE.out, List.length_append, List.map_append]
                  exact HO4.out
              · have d1 : (((L[((k : Int) % (L.size : Int)).toNat]'hml).toNat : Int) == 110) = false := beq_eq_false_iff_ne.2 (u8_ne hch)
                have hml2 : k % L.size < L.size := Nat.mod_lt _ hL0
                have d1' : (((L[k % L.size]'hml2).toNat : Int) == 110) = false := by
                  have e : L[k % L.size]'hml2 = L[((k : Int) % (L.size : Int)).toNat]'hml := by congr 1
                  rw [e]; exact d1
                obtain ⟨vn, vt⟩ := v
                rw [isVal_t _ vn vt hch] at hiv2
                simp only [Bool.and_eq_true, decide_eq_true_eq] at hiv2
                obtain ⟨rfl, hvt⟩ := hiv2
                have HEV : Hid (Pk.encV (L[((k : Int) % (L.size : Int)).toNat]'hml) (0, vt) = Pk.num (Pk.zig vt.size) ++ bs vt) := by unfold Hid Pk.encV; rw [if_neg hch, Pk.zig_nat]; rfl
                rw [HEV.out] at HE
                have HCN : Hid (∀ W, Calls Try.prog 23 #[.int .i64 (vt.size : Int)] W fun e w' => ∃ v', e = .returned v' ∧ w'.ownsRow W.heap.size 5 1 v' (Pk.num (Pk.zig vt.size)).length ((Pk.num (Pk.zig vt.size)).map bv) ∧ Below W.heap.size W w') := fun W => rnumber_any (vt.size : Int) W (by omega) (by omega)
                have hl10 := Pk.num_ten (u := Pk.zig vt.size) (by rw [Pk.zig_nat]; omega)
                have hl1 := Pk.num_one (Pk.zig vt.size)
                have HMC2 : Hid (Calls Try.prog 22 #[.agg #[.int .i64 0, .string vt], .int .u8 ((L[((k : Int) % (L.size : Int)).toNat]'hml).toNat : Int)] wr fun e w' => e = .returned (.bool true) ∧ Below wr.heap.size wr w') := HMC.out
                have hc1' : wr.cell? (ad.add (k * 2)) = some (.int .i64 0) := hc1
                have hc2' : wr.cell? ⟨(ad.add (k * 2)).block, (ad.add (k * 2)).off + 1, none⟩ = some (.string vt) := hc2
                have HSC2 : Hid (∀ W, Below g w W → W.cell? ⟨(ad.add (k * 2)).block, (ad.add (k * 2)).off + 1, none⟩ = some (.string vt)) := fun W h => (HSC.out W h).2
                clear hch HEV HMC hc1 hc2
                generalize Pk.num (Pk.zig vt.size) = y at *
                have A3 : Hid (eb.length + y.length ≤ maxLen) := by unfold Hid maxLen; omega
                have A4 : Hid ((eb.length + y.length) * 1 ≤ 140737488355328) := by unfold Hid; omega
                have A0 : Hid (0 < y.length) := by unfold Hid; omega
                have A1 : Hid ((y.map bv).length = y.length * 1) := by unfold Hid; simp
                have A2 : Hid (∀ u ∈ y.map bv, u.oneCell' = true) := fun u hu => by obtain ⟨z, _, rfl⟩ := List.mem_map.1 hu; rfl
                have A7 : Hid (eb.length + y.length + vt.size ≤ maxLen ∧ eb.length + y.length + vt.size ≤ 140737488355328) := by unfold Hid maxLen; omega
                have A5 : Hid (∀ (w1 w2 : World) (v2 : Value), Below g w w1 → w1.ownsRow g 5 1 u9 eb.length (eb.map bv) → w2.ownsRow w1.heap.size 5 1 v2 y.length (y.map bv) → Below w1.heap.size w1 w2 → ∃ g2 cap2, v2 = .slice (some ⟨g2, 0, none⟩) y.length cap2 ∧ w2.ownsRow g 5 1 u9 eb.length (eb.map bv) ∧ (∀ j u, (y.map bv)[j]? = some u → w2.cell? ((⟨g2, 0, none⟩ : Addr).add j) = some u) ∧ Below g w w2 ∧ g ≤ w2.heap.size) := fun w1 w2 v2 h1 h2 h3 h4 => by
                  obtain ⟨g2, cap2, rfl, _⟩ := h3.form (by omega)
                  have h5 := h1.trans (h4.mono (HGL.out w1 h1))
                  exact ⟨g2, cap2, rfl, own_on h2 h4, h3.cells (g := g2) rfl, h5, HGL.out w2 h5⟩
                have A6 : Hid (∀ (w2 w3 : World) (v3 : Value) (q : Nat) (qs : List Value), Below g w w2 → w2.ownsRow g 5 1 v3 q qs → w2.grownBy w3 v3.ownBlock → Below g w w3 ∧ g ≤ w3.heap.size) := fun w2 w3 v3 q qs h1 h2 h3 =>
                  have h4 := h1.grown h3 (HGL.out w2 h1) (fun k hk => (h2.lt k hk).1)
                  ⟨h4, HGL.out w3 h4⟩
                go_wp2_with (go_at_call 22; refine HMC2.out.mono ?_; rintro e w1 ⟨rfl, hb1⟩; obtain ⟨hB1, ho1, hg1⟩ := HM1.out w1 hb1; have hs2 := HSC2.out w1 hB1; have HB1 := Lib.hid hB1; have HO1 := Lib.hid ho1; clear hB1 ho1 hb1)
                have HB1d : Hid (Below g w w1.drew) := ⟨HB1.out.os, HB1.out.tape, HB1.out.output, HB1.out.size, HB1.out.block⟩
                have HCN1 := Lib.hid (HCN.out w1.drew)
                have HA5 := Lib.hid (fun w2 v2 => A5.out w1.drew w2 v2 HB1d.out HO1.out)
                go_region_held3 (fun w' => w'.cell? ⟨(ad.add (k * 2)).block, (ad.add (k * 2)).off + 1, none⟩ = some (.string vt)) (first | go_keep | assumption)
                  (first
                    | (go_at_call 23; refine HCN1.out.mono ?_; rintro e w2 ⟨v2, rfl, ho2, hb2'⟩; obtain ⟨g2, cap2, rfl, ho3, hn3, hb3, hg3⟩ := HA5.out w2 v2 ho2 hb2'; have hk2 := HSC2.out w2 hb3; have HO3 := Lib.hid ho3; have HN3 := Lib.hid hn3; have HB3 := Lib.hid hb3; have HG3 := Lib.hid hg3; clear ho2 hb2' ho3 hn3 hb3 hg3)
                    | (refine step_append_lies w2 (by rfl) (.tmp 70) (.tmp 77) 25 (by rfl) g 5 i0 (.int .u8 0) 1 1 Try.underlying25 HI.out HZ0.out HZ1.out HZ2.out rfl Nat.one_pos u9 eb.length (eb.map bv) (by rfl) HO3.out ⟨g2, 0, none⟩ y.length cap2 (y.map bv) (by rfl) A1.out HN3.out A2.out A0.out A3.out A4.out HG3.out w2.heap.size rfl ?_; intro g4 cap4 w4 ho4 hg4 _ _; have hx4 := A6.out w2 w4 u9 _ _ HB3.out HO3.out hg4; have hk4 := HSC2.out w4 hx4.1; have HO4 := Lib.hid ho4; have HX4 := Lib.hid hx4; clear ho4 hg4 hx4)
                    | (refine step_append_str w4 (by rfl) (.tmp 78) (.tmp 83) 25 9 (by rfl) g 5 i0 Try.underlying25 Try.underlying9 HI.out HZ0.out HZ1.out HZ2.out (.slice (some ⟨g4, 0, none⟩) (eb.length + y.length) cap4) (eb.length + y.length) (eb.map bv ++ y.map bv) (by rfl) HO4.out vt (by rfl) A7.out.1 A7.out.2 HX4.out.2 ?_; intro v5 w5 ho5 hg5; have hx5 := A6.out w4 w5 _ _ _ HX4.out.1 HO4.out hg5; have hk5 := HSC2.out w5 hx5.1; have HO5 := Lib.hid ho5; have HX5 := Lib.hid hx5; clear ho5 hg5 hx5))
                go_wp2
                go_roundg gk
                case measure => omega
                case rel =>
                  refine ⟨k + 1, by omega, by first | rfl | go_num, HOKN.out, ?_, HX5.out.1⟩
                  show World.ownsRow _ _ _ _ _ _ _
                  rw [HE.out, List.length_append, List.length_append, bs_length, ← Nat.add_assoc, List.map_append, List.map_append, ← List.append_assoc]
                  exact HO5.out
          · have hk : k = n := by omega
            have HOL : Hid (Pk.okVals (bs L) 0 l = true) := by
              have := HOK.out
              rw [List.take_of_length_le (by rw [HN.out]; omega)] at this
              exact this
            have HO4 : Hid (wr.ownsRow g 5 1 u9 (Pk.enc (bs L) 0 l).length ((Pk.enc (bs L) 0 l).map bv)) := by
              have := HO.out
              rw [List.take_of_length_le (by rw [HN.out]; omega)] at this
              exact this
            subst hk
            by_cases h200 : 200 < k
            · have HW := Lib.hid (hb4.out (by rw [HSHT.out, HOL.out]; rfl) h200)
              have d9 : decide ((200 : Int) < (k : Int)) = true := decide_eq_true (by omega)
              clear h200
              go_wp2
              go_ret2
              have hG := HG.out
              subst hG
              exact ⟨.slice none 0 0, by rw [HW.out]; rfl, by rw [HW.out]; exact World.ownsRow_nil _ _ _ _, HB.out⟩
            · have HW := Lib.hid (hb0.out (by rw [HSHT.out, HOL.out]; rfl) h200)
              have d9 : decide ((200 : Int) < (k : Int)) = false := decide_eq_false (by omega)
              clear h200
              go_wp2
              go_ret2
              have hG := HG.out
              subst hG
              exact ⟨u9, by rw [HW.out]; rfl, by rw [HW.out]; exact HO4.out, HB.out⟩

end Go.Proofs.Ythncabfeieombaa
