/- The document's answer: the rows of a world, joined and sorted. -/
import Derived.Test.YtjidelfpmlnhkaaGreatSavDdf
import Derived.Test.YtjidelfpmlnhkaaGreatSavGH
import Derived.BigQuiet
namespace Go.Proofs.YtjidelfpmlnhkaaGreat
open Go.RowKit
set_option linter.unusedVariables false
set_option maxRecDepth 100000

theorem put_perm' {α : Type} {s : List α} (r : α) (k : Nat) : (s.take k ++ [r] ++ s.drop k).Perm (s ++ [r]) := by
  have h1 : (s.take k ++ [r] ++ s.drop k).Perm (s.take k ++ (s.drop k ++ [r])) := by
    rw [List.append_assoc]
    exact List.Perm.append_left _ List.perm_append_comm
  rw [← List.append_assoc, List.take_append_drop] at h1
  exact h1
theorem sts_put (s : List Rw) (r : Rw) (k : Nat) : sts (s.take k ++ [r] ++ s.drop k) = (sts s).take k ++ [r.st] ++ (sts s).drop k := by
  unfold sts
  simp [List.map_take, List.map_drop]

/-- rows while they are joined -/
structure DJ (W : World) (x : Wd) (A : Option Addr) (n : Nat) (l : List Rw) : Prop where
  len : l.length = n
  rows : SR W 0 A l
  rws : Sv.Rws (sts l)
  f12 : (sts l).flatten.length ≤ 12
theorem DJ.n12 {W : World} {x : Wd} {A : Option Addr} {n : Nat} {l : List Rw} (h : DJ W x A n l) : n ≤ 12 := by
  have h1 := h.rws.len_le
  have h2 := h.f12
  rw [sts_len, h.len] at h1
  omega
/-- rows while they are sorted -/
structure DI (V W : World) (l : List Rw) (i : Nat) (v : Value) (s : List Rw) : Prop where
  bel : Below V.heap.size V W
  own : OwnS W V.heap.size v s
  pm : s.Perm (l.take i)
  so : (sts s).Pairwise Sv.le2
theorem DI.len {V W : World} {l : List Rw} {i : Nat} {v : Value} {s : List Rw} (h : DI V W l i v s) (hi : i ≤ l.length) : s.length = i := by
  rw [h.pm.length_eq, List.length_take]
  omega

set_option maxHeartbeats 16000000 in
theorem drows_b (x : Wd) (w : World) (hx : WAt w x) :
    Calls Tryz.prog 12 #[.agg #[.int .i64 x.N, .slice x.dA x.dm x.dc, .slice x.tA x.tm x.tc, .slice x.A x.m x.c, .slice x.B x.k x.d]] w (RowsPost w x) := by
  have HX := Lib.hid (WX.new hx)
  have HB0 : Hid (Below w.heap.size w (w.alloc (.cells #[.int .i64 x.N, .slice x.dA x.dm x.dc, .slice x.tA x.tm x.tc, .slice x.A x.m x.c, .slice x.B x.k x.d] 28))) := below_alloc _ _
  have HML := Lib.hid hx.ml
  clear hx
  obtain ⟨f, hf⟩ : ∃ f, Rt.worldE x.N x.D x.T x.os x.ts = f := ⟨_, rfl⟩
  have HF := Lib.hid hf
  have HPO : Hid (∀ (e : Ending) (w' : World) (A : Option Addr) (n c : Nat) (l : List Rw), e = .returned (.tuple #[.slice A n c, .int .i64 f]) → Below w.heap.size w w' → l.length = n → n ≤ 12 → SR w' w.heap.size A l → (f = 0 → Sv.IsRows x.N x.D x.T x.os x.ts (sts l)) → (¬ f = 0 → l = []) → RowsPost w x e w') := fun e w' A n c l h1 h2 h3 h4 h5 h6 h7 => by
    subst hf
    exact ⟨A, n, c, l, h1, h2, h3, h4, h5, h6, h7⟩
  obtain ⟨F, hF⟩ : ∃ F, Sv.canB x.N x.D x.T x.os x.ts = F := ⟨_, rfl⟩
  have HFF := Lib.hid hF
  clear hF
  go_enter Tryz.func12, Tryz.ntmps12
  have x0 := HX.out.c0
  have x1 := HX.out.c1
  have x2 := HX.out.c2
  have x3 := HX.out.c3
  have x4 := HX.out.c4
  go_wp2_with fail
  clear x0 x1 x2 x3 x4
  generalize (w.alloc (.cells #[.int .i64 x.N, .slice x.dA x.dm x.dc, .slice x.tA x.tm x.tc, .slice x.A x.m x.c, .slice x.B x.k x.d] 28)) = V at *
  generalize hb1 : w.heap.size = b1 at HX ⊢
  clear hb1
  have HC := Lib.hid (dworld_b x V f hf HX.out.at_)
  clear hf
  with_reducible refine HC.out.mono ?_
  rintro e V1 ⟨rfl, hv1⟩
  have HX1 := Lib.hid (HX.out.below hv1.out)
  have HB1 := Lib.hid (below_next HB0.out hv1.out)
  clear HC HX HB0 hv1
  by_cases hf0 : f = 0
  · subst hf0
    have e1 : ((0 : Int) != (0 : Int)) = false := by decide
    have HM12 : Hid (x.m ≤ 12) := by unfold Hid; rw [← HML.out]; exact (Rt.ok_of HF.out).ol
    have HA0 : Hid (AloneS (V1.alloc (.cells #[] 29)) V1.heap.size F x.os 0 (some ⟨V1.heap.size, 0, none⟩) 0 0 []) := ⟨ownS_none V1 _ (Nat.le_refl _), rfl, Nat.le_refl _, (fun r hr => by cases hr), rfl⟩
    have HBA : Hid (Below V1.heap.size V1 (V1.alloc (.cells #[] 29))) := below_alloc _ _
    have x3 := HX1.out.c3
    go_wp2_with fail
    clear x3
    go_loopg [5, 6] x.m (fun gk s5 s6 Wx => ∃ (k : Nat) (A : Option Addr) (n c : Nat) (l : List Rw) (W : World), W = Wx ∧ k + gk = x.m ∧ s5 = .slice A n c ∧ s6 = .int .i64 k ∧ Hid (Below V1.heap.size V1 W) ∧ Hid (AloneS W V1.heap.size F x.os k A n c l))
    case atStart => exact ⟨0, _, 0, 0, [], _, rfl, by omega, rfl, rfl, HBA.out, HA0.out⟩
    case round =>
      clear HA0 HBA
      obtain ⟨k, A, n, c, l, W, rfl, hkg, rfl, rfl, HB, HS⟩ := hrel
      have HXW := Lib.hid (HX1.out.below HB.out)
      have hm12 : x.m ≤ 12 := HM12.out
      have z3 := HXW.out.c3
      by_cases hlt : k < x.m
      · obtain ⟨gk, rfl⟩ : ∃ j, gk = j + 1 := ⟨gk - 1, by omega⟩
        obtain ⟨⟨a0, a1, a2, a3, a4, a5, a6, a7⟩, ho⟩ := mlist_at x.os k (by rw [HML.out]; exact hlt)
        have HO := Lib.hid ho
        obtain ⟨ad, hxA, c0, _, _, _, _, _, _, _⟩ := HXW.out.at_.os.at_ ho
        simp only at c0
        have i2 : (k : Int) < (x.m : Int) := by omega
        have HXA := Lib.hid hxA
        have HX2 := Lib.hid (HXW.out.below (below_alloc W (.cells #[.int .i64 a0] 3)))
        have HI1 : Hid (IntsAt (W.alloc (.cells #[.int .i64 a0] 3)) (some ⟨W.heap.size, 0, none⟩) [a0]) := ints1 W a0 3
        have HBd : Hid (Below W.heap.size W (W.alloc (.cells #[.int .i64 a0] 3)).drew) := (below_alloc W (.cells #[.int .i64 a0] 3)).drew
        obtain ⟨r, hr⟩ : ∃ r, F [a0] = r := ⟨_, rfl⟩
        have HR := Lib.hid hr
        have HC : Hid (Calls Tryz.prog 33 #[.agg #[.int .i64 x.N, .slice x.dA x.dm x.dc, .slice x.tA x.tm x.tc, .slice x.A x.m x.c, .slice x.B x.k x.d], .slice (some ⟨W.heap.size, 0, none⟩) 1 1] ((W.alloc (.cells #[.int .i64 a0] 3)).drew) fun e w' => e = .returned (.bool r) ∧ Hid (Below W.heap.size W w')) := by
          refine (dcan_b x (some ⟨W.heap.size, 0, none⟩) 1 1 [a0] _ r (by rw [HFF.out]; exact HR.out) (HX2.out.at_.below (Below.refl _ _).drew) rfl (by omega) (HI1.out.below (Below.refl _ _).drew)).mono ?_
          rintro e w' ⟨rfl, h⟩
          exact ⟨rfl, below_next HBd.out h.out⟩
        clear ho hxA hr
        go_upto_region 8 with fail
        clear z3
        go_cut [32] (fun s32 U => ∃ V4 : World, V4 = U ∧ s32 = .bool r ∧ Hid (Below W.heap.size W V4))
        case first => as_aux_lemma =>
          have x0 := HXW.out.c0
          have x1 := HXW.out.c1
          have x2 := HXW.out.c2
          have x3 := HXW.out.c3
          have x4 := HXW.out.c4
          have u0 := HX2.out.c0
          have u1 := HX2.out.c1
          have u2 := HX2.out.c2
          have u3 := HX2.out.c3
          have u4 := HX2.out.c4
          clear HXW HX2 HX1
          generalize x.A = xA at *
          obtain rfl := HXA.out
          go_region_law (go_simp; go_at_call 33; ((with_reducible refine HC.out.mono ?_)); rintro e w5 ⟨rfl, kU⟩)
          all_goals
            go_wp2
            go_meet
            case rel => exact ⟨_, rfl, rfl, kU.out⟩
        case rest =>
          obtain ⟨V4, rfl, rfl, HV4⟩ := hcut
          have HBV := Lib.hid (below_next HB.out HV4.out)
          have HXV := Lib.hid (HX1.out.below HBV.out)
          have HSV := Lib.hid (HS.out.below HV4.out)
          clear HB HXW HX2 HI1 HBd HC HS HV4 c0
          cases r with
          | false =>
            have HS3 := Lib.hid (HSV.out.skip HO.out HR.out)
            go_wp2
            go_roundg gk
            case measure => omega
            case rel => exact ⟨k + 1, A, n, c, l, _, rfl, by omega, rfl, by first | rfl | go_num, HBV.out, HS3.out⟩
          | true =>
            have z3 := HXV.out.c3
            obtain ⟨ad2, hxA2, c0, _, _, _, _, _, _, _⟩ := HXV.out.at_.os.at_ HO.out
            simp only at c0
            have HR1 : Hid (RwOk (V4.alloc (.cells #[.int .i64 a0] 3)) ⟨some ⟨V4.heap.size, 0, none⟩, 1, 1, [a0]⟩) := ⟨rfl, by show 1 ≤ 100; omega, ints1 V4 a0 3, fun ad' e' => by obtain rfl := Option.some.inj e'; exact ⟨_, _, Box.new _ _ _⟩⟩
            have HAP : Hid (∃ v' w', (Builtin.append_ #[35, 35] 35 #[.slice A n c, .slice (some ⟨V4.heap.size + 1, 0, none⟩) 1 1]).run Tryz.prog ((V4.alloc (.cells #[.int .i64 a0] 3)).alloc (.cells #[.slice (some ⟨V4.heap.size, 0, none⟩) 1 1] 29)) = .ok v' w' ∧ ByS (V4.alloc (.cells #[.int .i64 a0] 3)) V1.heap.size (l ++ [⟨some ⟨V4.heap.size, 0, none⟩, 1, 1, [a0]⟩]) v' w') := by
              have h := owns_app (W := V4.alloc (.cells #[.int .i64 a0] 3)) (base := V1.heap.size) (HSV.out.own.below (below_alloc V4 (.cells #[.int .i64 a0] 3))) (Nat.le_trans HBV.out.size (below_alloc V4 (.cells #[.int .i64 a0] 3)).size) ⟨some ⟨V4.heap.size, 0, none⟩, 1, 1, [a0]⟩ (by rw [HSV.out.len]; have := HSV.out.le; omega)
              rw [← size_one V4 (.cells #[.int .i64 a0] 3)] at h
              exact h
            generalize x.A = xA at *
            obtain rfl := hxA2
            go_wp2_with (at_builtin; refine wpList_append_any rfl (.tmp 33) (.tmp 41) 35 35 rfl _ _ rfl rfl _ HAP.out ?_; intro v1 w1 hc1; obtain ⟨B1, cc1, rfl, HC1⟩ := hc1)
            have HS3 : Hid (AloneS w1 V1.heap.size F x.os (k + 1) B1 (l.length + 1) cc1 (l ++ [⟨some ⟨V4.heap.size, 0, none⟩, 1, 1, [a0]⟩])) := by
              have h := (HSV.out.below (below_alloc V4 (.cells #[.int .i64 a0] 3))).put HO.out HR.out rfl rfl HR1.out HC1.out.2.2.1 HC1.out.1
              rw [show (l ++ [(⟨some ⟨V4.heap.size, 0, none⟩, 1, 1, [a0]⟩ : Rw)]).length = l.length + 1 from by simp] at h
              exact h
            have HB3 := Lib.hid ((HBV.out.alloc HBV.out.size (.cells #[.int .i64 a0] 3)).trans HC1.out.2.1)
            go_roundg gk
            case measure => omega
            case rel => exact ⟨k + 1, B1, _, cc1, _, _, rfl, by omega, by first | rfl | go_num, by first | rfl | go_num, HB3.out, HS3.out⟩
      · obtain rfl : k = x.m := by omega
        have HEQ : Hid (sts l = (Sv.aloneL x.N x.D x.T x.os x.ts)) := by
          unfold Hid
          rw [HS.out.eq, List.take_of_length_le (by rw [HML.out]; exact Nat.le_refl _), ← HFF.out]
          rfl
        have HDJ : Hid (DJ W x A n l) := by
          obtain ⟨A', c', e, h1, h2, h3, h4⟩ := HS.out.own.row (fun r hr => (HS.out.ok r hr).1)
          injection e with e1 e2 e3
          subst e1
          exact ⟨HS.out.len, h3.mono (Nat.zero_le _), by rw [HEQ.out]; exact Sv.alone_rws (Rt.ok_of HF.out).ou, by rw [HEQ.out]; exact Sv.alone_len HF.out⟩
        have HJ0 : Hid (∀ out, Sv.J x.N x.D x.T x.os x.ts (sts l) out → Sv.J x.N x.D x.T x.os x.ts (Sv.aloneL x.N x.D x.T x.os x.ts) out) := fun out h => by rw [← HEQ.out]; exact h
        clear HXW HS HEQ
        go_wp2_with fail
        clear z3
        go_loopg [5, 7] (n + 1) (fun gk s5 s7 Wx => ∃ (A : Option Addr) (n c : Nat) (l : List Rw) (b : Bool) (W : World), W = Wx ∧ s5 = .slice A n c ∧ s7 = .bool b ∧ (b = true → gk = n + 1) ∧ Hid (Below V1.heap.size V1 W) ∧ Hid (DJ W x A n l) ∧ Hid (b = true → ∀ out, Sv.J x.N x.D x.T x.os x.ts (sts l) out → Sv.J x.N x.D x.T x.os x.ts (Sv.aloneL x.N x.D x.T x.os x.ts) out) ∧ Hid (b = false → Sv.J x.N x.D x.T x.os x.ts (Sv.aloneL x.N x.D x.T x.os x.ts) (sts l)))
        case atStart => exact ⟨A, n, c, l, true, _, rfl, rfl, rfl, (fun _ => rfl), HB.out, HDJ.out, (fun _ => HJ0.out), (fun h => by cases h)⟩
        case round =>
          clear HB HDJ HJ0 hlt hkg
          obtain ⟨A, n, c, l, b, W2, rfl, rfl, rfl, hgk, HB2, HDJ, HJT, HJF⟩ := hrel
          have hn12 := HDJ.out.n12
          have HX2 := Lib.hid (HX1.out.below HB2.out)
          cases b with
          | true =>
            have hgk := hgk rfl
            have HC := Lib.hid (djoin_b x W2 A n c l HX2.out.at_ HDJ.out.len hn12 HDJ.out.rows HDJ.out.rws HDJ.out.f12)
            have HJ := Lib.hid (HJT.out rfl)
            have x0 := HX2.out.c0
            have x1 := HX2.out.c1
            have x2 := HX2.out.c2
            have x3 := HX2.out.c3
            have x4 := HX2.out.c4
            clear HJT HJF
            go_wp2_with fail
            clear x0 x1 x2 x3 x4
            with_reducible refine HC.out.mono ?_
            intro e W3 h
            rcases h with ⟨rfl, h⟩ | ⟨A', n', c', l', rfl, h⟩
            · have HB3 := Lib.hid (below_next HB2.out h.out.1)
              have HD3 : Hid (DJ W3 x A n l) := ⟨HDJ.out.len, HDJ.out.rows.below h.out.1, HDJ.out.rws, HDJ.out.f12⟩
              have HJ3 : Hid (Sv.J x.N x.D x.T x.os x.ts (Sv.aloneL x.N x.D x.T x.os x.ts) (sts l)) := HJ.out _ (.done (List.Perm.refl _) h.out.2)
              clear h HC HX2 HDJ
              go_wp2
              go_roundg 0
              case measure => omega
              case rel => exact ⟨A, n, c, l, false, _, rfl, rfl, rfl, (fun h => by cases h), HB3.out, HD3.out, (fun h => by cases h), (fun _ => HJ3.out)⟩
            · obtain ⟨h1, h2, h3, h4, h5, h6, h7⟩ := h.out
              have HB3 := Lib.hid (below_next HB2.out h1)
              have HD3 : Hid (DJ W3 x A' n' l') := ⟨h2, h4, h5, h6⟩
              have HJ3 : Hid (∀ out, Sv.J x.N x.D x.T x.os x.ts (sts l') out → Sv.J x.N x.D x.T x.os x.ts (Sv.aloneL x.N x.D x.T x.os x.ts) out) := fun out hj => HJ.out _ (h7 out hj)
              clear h HC HX2 HDJ h1 h2 h4 h5 h6 h7
              go_wp2
              go_roundg (n' + 1)
              case measure => omega
              case rel => exact ⟨A', n', c', l', true, _, rfl, rfl, rfl, (fun _ => rfl), HB3.out, HD3.out, (fun _ => HJ3.out), (fun h => by cases h)⟩
          | false =>
            have HJ := Lib.hid (HJF.out rfl)
            clear HJT HJF hgk HX2
            have HDI0 : Hid (DI W2 (W2.alloc (.cells #[] 29)) l 0 (.slice (some ⟨W2.heap.size, 0, none⟩) 0 0) []) := ⟨below_alloc _ _, ownS_none W2 _ (Nat.le_refl _), by rw [List.take_zero], List.Pairwise.nil⟩
            go_wp2_with fail
            go_loopg [8, 9] n (fun gk s8 s9 Wx => ∃ (i cc : Nat) (B : Option Addr) (s : List Rw) (W0 : World), W0 = Wx ∧ i + gk = n ∧ s8 = .slice B i cc ∧ s9 = .int .i64 i ∧ Hid (DI W2 W0 l i (.slice B i cc) s))
            case atStart => exact ⟨0, 0, _, [], _, rfl, by omega, rfl, rfl, HDI0.out⟩
            case round =>
              clear HDI0
              obtain ⟨i, cc, B, s, W0, rfl, hig, rfl, rfl, HDI⟩ := hrel
              have HLS : Hid (s.length = i) := HDI.out.len (by rw [HDJ.out.len]; omega)
              have HOK : Hid (∀ r ∈ s, RwOk W0 r) := fun r hr => (HDJ.out.rows.ok r (List.mem_of_mem_take (HDI.out.pm.mem_iff.1 hr))).below HDI.out.bel
              by_cases hlt : i < n
              · obtain ⟨go, rfl⟩ : ∃ j, gk = j + 1 := ⟨gk - 1, by omega⟩
                obtain ⟨r, hr⟩ := mlist_at l i (by rw [HDJ.out.len]; exact hlt)
                have HBI : Hid (ValsS W0 B s ∧ i ≤ cc) := by
                  obtain ⟨A', c', e, h1, _, h2⟩ := HDI.out.own.ints
                  rw [HLS.out] at e h1
                  injection e with e1 e2 e3
                  subst e1 e3
                  exact ⟨h2, h1⟩
                obtain ⟨ad, HAD, hc0, hok⟩ := (HDJ.out.rows.below HDI.out.bel).cell hr
                have HRL := Lib.hid hr
                have HRO := Lib.hid hok
                have hne : ∀ q ∈ l, q.st ≠ [] := fun q h => HDJ.out.rws.ne q.st (List.mem_map.2 ⟨q, h, rfl⟩)
                obtain ⟨pr, hpr, hcr, hmr⟩ := row_first hok (hne r (List.mem_of_getElem? hr))
                have HNE : Hid (∀ q ∈ s, q.st ≠ []) := fun q h => hne q (List.mem_of_mem_take (HDI.out.pm.mem_iff.1 h))
                have HPR := Lib.hid hpr
                have HCR := Lib.hid hcr
                have HPS : Hid (∀ k, (∀ (j : Nat) (a : List Int), j < k → (sts s)[j]? = some a → Sv.bef r.st a) → (∀ a, (sts s)[k]? = some a → ¬ Sv.bef r.st a) → (sts (s.take k ++ [r] ++ s.drop k)).Pairwise Sv.le2) := fun k h1 h2 => by
                  rw [sts_put]
                  exact Sv.put_sorted HDI.out.so h1 h2
                obtain rfl := HAD
                clear hr hok hne hpr hcr
                go_upto_block 6 with fail
                go_cut [10] (fun s10 Wc => ∃ (k : Nat) (V5 : World), V5 = Wc ∧ k ≤ i ∧ s10 = .int .i64 k ∧ Hid ((sts (s.take k ++ [r] ++ s.drop k)).Pairwise Sv.le2) ∧ Hid (Below W0.heap.size W0 V5))
                case first =>
                  go_wp2_with fail
                  go_loopg [10] i (fun gk s10 Wc => ∃ (k q : Nat), k + gk = i ∧ s10 = .int .i64 k ∧ Wc = W0.drewN q ∧ Hid (∀ (j : Nat) (a : List Int), j < k → (sts s)[j]? = some a → Sv.bef r.st a))
                  case atStart => exact ⟨0, 0, by omega, rfl, rfl, fun j y hj => by omega⟩
                  case round =>
                    obtain ⟨k, q, hkg, rfl, rfl, HE⟩ := hrel
                    have HW : Hid (∀ m, (W0.drewN q).drewN m = W0.drewN (q + m)) := fun m => by simp
                    have HBQ : Hid (∀ m, Below W0.heap.size W0 ((W0.drewN q).drewN m)) := fun m => by rw [HW.out]; exact ⟨rfl, rfl, rfl, Nat.le_refl _, fun _ _ => rfl⟩
                    have HD : ∀ p, (W0.drewN q).cell? p = W0.cell? p := fun p => by simp
                    have hx1 : (W0.drewN q).cell? (ad.add i) = some (.slice r.A r.m r.c) := by rw [HD]; exact hc0
                    have i0 : (i : Int) < (n : Int) := by omega
                    by_cases hki : k < i
                    · obtain ⟨gi, rfl⟩ : ∃ j, gk = j + 1 := ⟨gk - 1, by omega⟩
                      obtain ⟨y, hy⟩ := mlist_at s k (by rw [HLS.out]; exact hki)
                      obtain ⟨ad2, HAD2, hd0⟩ := HBI.out.1 k y hy
                      have hd1 : (W0.drewN q).cell? (ad2.add k) = some (.slice y.A y.m y.c) := by rw [HD]; exact hd0
                      have hym : y ∈ s := List.mem_of_getElem? hy
                      obtain ⟨py, hpy, hcy, hmy⟩ := row_first (HOK.out y hym) (HNE.out y hym)
                      have hcy1 : (W0.drewN q).cell? py = some (.int .i64 (Sv.hd y.st)) := by rw [HD]; exact hcy
                      have hcr1 : (W0.drewN q).cell? pr = some (.int .i64 (Sv.hd r.st)) := by rw [HD]; exact HCR.out
                      have HY : Hid ((sts s)[k]? = some y.st) := sts_at hy
                      have HYL : Hid (y.st.length = y.m ∧ r.st.length = r.m) := ⟨(HOK.out y hym).sl, HRO.out.sl⟩
                      have i1 : (k : Int) < (i : Int) := by omega
                      have j1 : decide ((k : Int) < (i : Int)) = true := decide_eq_true i1
                      have j2 : decide (k < i) = true := decide_eq_true hki
                      have g1 : (0 : Int) < (y.m : Int) := by omega
                      have g2 : (0 : Int) < (r.m : Int) := by omega
                      rw [hpy] at hd1
                      rw [HPR.out] at hx1
                      have HA2 := Lib.hid HAD2
                      clear hy hd0 HAD2 hym hpy hcy hmy
                      clear HBI HDI
                      obtain rfl := HA2.out
                      by_cases t1 : r.m < y.m
                      · have j3 : decide ((r.m : Int) < (y.m : Int)) = true := decide_eq_true (by omega)
                        have j4 : decide (r.m < y.m) = true := decide_eq_true t1
                        have HE2 : Hid (∀ (j : Nat) (a : List Int), j < k + 1 → (sts s)[j]? = some a → Sv.bef r.st a) := fun j a hj ha => by
                          by_cases h : j < k
                          · exact HE.out j a h ha
                          · obtain rfl : j = k := by omega
                            rw [HY.out] at ha
                            obtain rfl := Option.some.inj ha
                            unfold Sv.bef; rw [HYL.out.1, HYL.out.2]; exact .inl t1
                        clear t1
                        clear hc0 HD
                        generalize W0.drewN q = W at *
                        go_wp2
                        go_quiet (fail)
                        go_wp2
                        go_roundg gi
                        case measure => omega
                        case rel => exact ⟨k + 1, _, by omega, by first | rfl | go_num, HW.out _, HE2.out⟩
                      · have j3 : decide ((r.m : Int) < (y.m : Int)) = false := decide_eq_false (by omega)
                        have j4 : decide (r.m < y.m) = false := decide_eq_false t1
                        by_cases t2 : y.m = r.m
                        · have j5 : ((y.m : Int) == (r.m : Int)) = true := by rw [t2]; simp
                          have j6 : (y.m == r.m) = true := by rw [t2]; simp
                          by_cases t3 : Sv.hd y.st < Sv.hd r.st
                          · have j7 : decide (Sv.hd y.st < Sv.hd r.st) = true := decide_eq_true t3
                            have HE2 : Hid (∀ (j : Nat) (a : List Int), j < k + 1 → (sts s)[j]? = some a → Sv.bef r.st a) := fun j a hj ha => by
                              by_cases h : j < k
                              · exact HE.out j a h ha
                              · obtain rfl : j = k := by omega
                                rw [HY.out] at ha
                                obtain rfl := Option.some.inj ha
                                unfold Sv.bef; rw [HYL.out.1, HYL.out.2]; exact .inr ⟨t2, t3⟩
                            clear t1 t2 t3
                            clear hc0 HD
                            generalize W0.drewN q = W at *
                            go_wp2
                            go_quiet (fail)
                            go_wp2
                            go_roundg gi
                            case measure => omega
                            case rel => exact ⟨k + 1, _, by omega, by first | rfl | go_num, HW.out _, HE2.out⟩
                          · have j7 : decide (Sv.hd y.st < Sv.hd r.st) = false := decide_eq_false t3
                            have HS := Lib.hid (HPS.out k HE.out (fun a ha => by rw [HY.out] at ha; obtain rfl := Option.some.inj ha; unfold Sv.bef; rw [HYL.out.1, HYL.out.2]; omega))
                            clear t1 t2 t3
                            clear hc0 HD
                            generalize W0.drewN q = W at *
                            go_wp2
                            go_quiet (fail)
                            go_wp2
                            go_meet
                            case rel => exact ⟨k, _, rfl, by omega, rfl, HS.out, HBQ.out _⟩
                        · have j5 : ((y.m : Int) == (r.m : Int)) = false := by rw [beq_eq_false_iff_ne]; omega
                          have j6 : (y.m == r.m) = false := by rw [beq_eq_false_iff_ne]; exact t2
                          have HS := Lib.hid (HPS.out k HE.out (fun a ha => by rw [HY.out] at ha; obtain rfl := Option.some.inj ha; unfold Sv.bef; rw [HYL.out.1, HYL.out.2]; omega))
                          clear t1 t2
                          clear hc0 HD
                          generalize W0.drewN q = W at *
                          go_wp2
                          go_quiet (fail)
                          go_wp2
                          go_meet
                          case rel => exact ⟨k, _, rfl, by omega, rfl, HS.out, HBQ.out _⟩
                    · obtain rfl : k = i := by omega
                      have j1 : decide ((k : Int) < (k : Int)) = false := decide_eq_false (by omega)
                      have HS := Lib.hid (HPS.out k HE.out (fun a ha => by have := (List.getElem?_eq_some_iff.1 ha).1; rw [sts_len, HLS.out] at this; omega))
                      clear hx1
                      clear hc0 HD
                      generalize W0.drewN q = W at *
                      go_wp2
                      go_quiet (fail)
                      go_wp2
                      go_meet
                      case rel => exact ⟨k, _, rfl, by omega, rfl, HS.out, HBQ.out _⟩
                case rest =>
                  obtain ⟨k, V5, rfl, hki, rfl, HS, HV5⟩ := hcut
                  have HB5 := Lib.hid (below_next HDI.out.bel HV5.out)
                  have HXC : Hid (∀ U, Below V5.heap.size V5 U → U.cell? (ad.add i) = some (.slice r.A r.m r.c)) := fun U hU => (Below.cell (below_next HV5.out hU) (lt_of_cell hc0)).trans hc0
                  have HR := Lib.hid (HBI.out.1.below HV5.out)
                  have HGV : Hid (W2.heap.size ≤ V5.heap.size) := HB5.out.size
                  obtain ⟨X2, c2, hsl2, hrow2⟩ := back_isS B i cc k HBI.out.2 hki
                  have hsl1 := front_isS B i cc k HBI.out.2 hki
                  obtain ⟨m2, hm2⟩ : ∃ m, i - k = m := ⟨_, rfl⟩
                  rw [hm2] at hsl2
                  have HR1 : Hid (ValsS V5 B (s.take k)) := HR.out.take' k
                  have HR2 : Hid (ValsS V5 X2 (s.drop k)) := hrow2 V5 s HLS.out HR.out
                  have HL1 : Hid ((s.take k).length = k) := by unfold Hid; rw [List.length_take, HLS.out]; omega
                  have HL2 : Hid ((s.drop k).length = m2) := by unfold Hid; rw [List.length_drop, HLS.out]; exact hm2
                  have HL3 : Hid ((s.take k ++ [r]).length = k + 1) := by unfold Hid; rw [List.length_append, HL1.out]; rfl
                  have HL4 : Hid ((s.take k ++ [r] ++ s.drop k).length = i + 1) := by unfold Hid; rw [List.length_append, HL3.out, HL2.out]; omega
                  have HI1 : Hid (i ≤ 12) := by unfold Hid; omega
                  have HP3 : Hid ((s.take k ++ [r] ++ s.drop k).Perm (l.take (i + 1))) := by
                    unfold Hid
                    rw [List.take_add_one, HRL.out]
                    exact (put_perm' r k).trans (HDI.out.pm.append_right _)
                  have HA1 : Hid (∃ v' w', (Builtin.append_ #[35, 35] 35 #[.slice (some ⟨V5.heap.size, 0, none⟩) 0 0, .slice B k cc]).run Tryz.prog ((V5.alloc (.cells #[] 29)).drew) = .ok v' w' ∧ ∃ A' c', v' = .slice A' k c' ∧ Hid (JS V5 none r (s.take k) (.slice A' k c') w')) := by
                    obtain ⟨v', w', h1, A', c', e, h2⟩ := (JS.a V5 r).app B k cc (s.take k) HL1.out HR1.out (by simp; omega) k (by simpa using HL1.out)
                    subst e
                    exact ⟨_, w', h1, A', c', rfl, h2⟩
                  have HBB1 : Hid (∃ v' w', (Builtin.append_ #[35, 35] 35 #[.slice (some ⟨V5.heap.size, 0, none⟩) 0 0, .slice B k cc]).run Tryz.prog (((V5.alloc (.cells #[] 29)).alloc (.cells #[.slice r.A r.m r.c] 29)).drew) = .ok v' w' ∧ ∃ A' c', v' = .slice A' k c' ∧ Hid (JS V5 (some (V5.heap.size + 1)) r (s.take k) (.slice A' k c') w')) := by
                    obtain ⟨v', w', h1, A', c', e, h2⟩ := (JS.b V5 r).app B k cc (s.take k) HL1.out HR1.out (by simp; omega) k (by simpa using HL1.out)
                    subst e
                    exact ⟨_, w', h1, A', c', rfl, h2⟩
                  have HC1 : Hid (∃ v' w', (Builtin.append_ #[35, 35] 35 #[.slice (some ⟨V5.heap.size + 1, 0, none⟩) 0 0, .slice B k cc]).run Tryz.prog (((V5.alloc (.cells #[.slice r.A r.m r.c] 29)).alloc (.cells #[] 29)).drew) = .ok v' w' ∧ ∃ A' c', v' = .slice A' k c' ∧ Hid (JS V5 (some V5.heap.size) r (s.take k) (.slice A' k c') w')) := by
                    obtain ⟨v', w', h1, A', c', e, h2⟩ := (JS.c V5 r).app B k cc (s.take k) HL1.out HR1.out (by simp; omega) k (by simpa using HL1.out)
                    subst e
                    exact ⟨_, w', h1, A', c', rfl, h2⟩
                  have HONE : Hid (∀ w g A c, JS V5 (some g) r (s.take k) (.slice A k c) w → ∃ v' w', (Builtin.append_ #[35, 35] 35 #[.slice A k c, .slice (some ⟨g, 0, none⟩) 1 1]).run Tryz.prog w = .ok v' w' ∧ ∃ A' c', v' = .slice A' (k + 1) c' ∧ Hid (JS V5 none r (s.take k ++ [r]) (.slice A' (k + 1) c') w')) := fun w g A c h => by
                    obtain ⟨v', w', h1, A', c', e, h2⟩ := h.one (by rw [HL1.out]; have := HI1.out; omega) (k + 1) HL3.out
                    subst e
                    exact ⟨_, w', h1, A', c', rfl, h2⟩
                  have HTHR : Hid (∀ w A c, JS V5 none r (s.take k ++ [r]) (.slice A (k + 1) c) w → ∃ v' w', (Builtin.append_ #[35, 35] 35 #[.slice A (k + 1) c, .slice X2 m2 c2]).run Tryz.prog w = .ok v' w' ∧ ∃ A' c', v' = .slice A' (i + 1) c' ∧ Hid (JS V5 none r (s.take k ++ [r] ++ s.drop k) (.slice A' (i + 1) c') w')) := fun w A c h => by
                    obtain ⟨v', w', h1, A', c', e, h2⟩ := h.app X2 m2 c2 (s.drop k) HL2.out HR2.out (by rw [HL3.out]; have := HI1.out; omega) (i + 1) HL4.out
                    subst e
                    exact ⟨_, w', h1, A', c', rfl, h2⟩
                  have y0 := HXC.out V5 (Below.refl _ _)
                  have ya := HXC.out (V5.alloc (.cells #[] 29)) (below_alloc _ _)
                  clear hc0 hrow2 hm2
                  go_upto_region 20 with fail
                  go_region_law (first
                    | (refine step_append_w w6 (by with_reducible rfl) (by rfl) (.tmp 114) (.tmp 117) 35 35 35 (by rfl) (by rfl) (.slice A6 (k + 1) c6) (.slice X2 m2 c2) (by rfl) (by rfl) _ HT3.out ?_
                       rintro v3 w7 ⟨A7, c7, rfl, HFN⟩)
                    | (refine step_append_w (w5.alloc (.cells #[.slice r.A r.m r.c] 29)) (by with_reducible rfl) (by rfl) (.tmp 108) (.tmp 113) 35 35 35 (by rfl) (by rfl) (.slice A5 k c5) (.slice (some ⟨w5.heap.size, 0, none⟩) 1 1) (by rfl) (by rfl) _ HA2.out ?_
                       rintro v2 w6 ⟨A6, c6, rfl, HF2⟩
                       have HT3 := Lib.hid (HTHR.out _ _ _ HF2.out))
                    | (refine step_append_w w5 (by with_reducible rfl) (by rfl) (.tmp 108) (.tmp 113) 35 35 35 (by rfl) (by rfl) (.slice A5 k c5) (.slice (some ⟨V5.heap.size + 1, 0, none⟩) 1 1) (by rfl) (by rfl) _ HBB2.out ?_
                       rintro v2 w6 ⟨A6, c6, rfl, HF2⟩
                       have HT3 := Lib.hid (HTHR.out _ _ _ HF2.out))
                    | (refine step_append_w w5 (by with_reducible rfl) (by rfl) (.tmp 108) (.tmp 113) 35 35 35 (by rfl) (by rfl) (.slice A5 k c5) (.slice (some ⟨V5.heap.size, 0, none⟩) 1 1) (by rfl) (by rfl) _ HC2.out ?_
                       rintro v2 w6 ⟨A6, c6, rfl, HF2⟩
                       have HT3 := Lib.hid (HTHR.out _ _ _ HF2.out))
                    | (refine step_append_w ((V5.alloc (.cells #[] 29)).drew) (by with_reducible rfl) (by rfl) (.tmp 104) (.tmp 107) 35 35 35 (by rfl) (by rfl) (.slice (some ⟨V5.heap.size, 0, none⟩) 0 0) (.slice B k cc) (by rfl) (by rfl) _ HA1.out ?_
                       rintro v1 w5 ⟨A5, c5, rfl, HF1⟩
                       have HA2 := Lib.hid (HONE.out _ _ _ _ HF1.out.late)
                       have y5 := HXC.out w5 HF1.out.bel)
                    | (refine step_append_w (((V5.alloc (.cells #[] 29)).alloc (.cells #[.slice r.A r.m r.c] 29)).drew) (by with_reducible rfl) (by rfl) (.tmp 104) (.tmp 107) 35 35 35 (by rfl) (by rfl) (.slice (some ⟨V5.heap.size, 0, none⟩) 0 0) (.slice B k cc) (by rfl) (by rfl) _ HBB1.out ?_
                       rintro v1 w5 ⟨A5, c5, rfl, HF1⟩
                       have HBB2 := Lib.hid (HONE.out _ _ _ _ HF1.out))
                    | (refine step_append_w (((V5.alloc (.cells #[.slice r.A r.m r.c] 29)).alloc (.cells #[] 29)).drew) (by with_reducible rfl) (by rfl) (.tmp 104) (.tmp 107) 35 35 35 (by rfl) (by rfl) (.slice (some ⟨V5.heap.size + 1, 0, none⟩) 0 0) (.slice B k cc) (by rfl) (by rfl) _ HC1.out ?_
                       rintro v1 w5 ⟨A5, c5, rfl, HF1⟩
                       have HC2 := Lib.hid (HONE.out _ _ _ _ HF1.out)))
                  all_goals
                    clear y0 ya hsl1 hsl2
                    have HDI2 : Hid (DI W2 w7 l (i + 1) (.slice A7 (i + 1) c7) (s.take k ++ [r] ++ s.drop k)) := ⟨below_next HB5.out HFN.out.bel, HFN.out.own.lower HGV.out, HP3.out, HS.out⟩
                    go_wp2
                    go_roundg go
                    case measure => omega
                    case rel => exact ⟨i + 1, c7, A7, _, _, rfl, by omega, rfl, by first | rfl | go_num, HDI2.out⟩
              · obtain rfl : i = n := by omega
                have HFIN : Hid (Below w.heap.size w W0 ∧ s.length = i ∧ SR W0 w.heap.size B s ∧ Sv.IsRows x.N x.D x.T x.os x.ts (sts s)) := by
                  obtain ⟨A', c', e, _, _, h3, _⟩ := HDI.out.own.row HOK.out
                  injection e with e1 e2 e3
                  subst e1
                  have hpm := HDI.out.pm
                  rw [List.take_of_length_le (by rw [HDJ.out.len]; exact Nat.le_refl _)] at hpm
                  exact ⟨below_next HB1.out (below_next HB2.out HDI.out.bel), HLS.out, h3.mono (Nat.le_trans HB1.out.size HB2.out.size), ⟨⟨_, HJ.out, hpm.map _⟩, HDI.out.so⟩⟩
                go_wp2
                go_ret2
                exact HPO.out _ _ B i cc s rfl HFIN.out.1 HFIN.out.2.1 hn12 HFIN.out.2.2.1 (fun _ => HFIN.out.2.2.2) (fun h => absurd trivial h)
  · have e1 : (f != (0 : Int)) = true := bne_iff_ne.2 hf0
    go_wp2
    go_ret2
    exact HPO.out _ _ none 0 0 [] rfl HB1.out rfl (by omega) (SR.nil _ _ _) (fun h => absurd h hf0) (fun _ => rfl)
end Go.Proofs.YtjidelfpmlnhkaaGreat
