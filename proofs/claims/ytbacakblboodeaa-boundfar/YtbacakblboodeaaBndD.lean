/- Contracts of package bound: the orders of some Ids, rising by them. -/
import Derived.Test.YtbacakblboodeaaBndC
import Derived.Test.YtbacakblboodeaaPlanShelf
import Derived.Test.YtbacakblboodeaaLoadRow
import Derived.BigQuiet
namespace Go.Proofs.Ytbacakblboodeaa
open Go.RowKit
set_option linter.unusedVariables false
set_option maxRecDepth 100000

/-- one more order behind a row of one's own -/
theorem owno_put {W : World} {base : Nat} {A : Option Addr} {n c : Nat} {l : List Ld.O} (h : OwnO W base (.slice A n c) l) (hb : base ≤ W.heap.size) (a0 a1 a2 a3 a4 a5 a6 a7 : Int) (hs : l.length ≤ 1000) (M : Nat) (hM : l.length + 1 = M) :
    ∃ v' w', (Builtin.append_ #[25, 25] 25 #[.slice A n c, .slice (some ⟨W.heap.size, 0, none⟩) 1 1]).run Try.prog (W.alloc (.cells #[.int .i64 a0, .int .i64 a1, .int .i64 a2, .int .i64 a3, .int .i64 a4, .int .i64 a5, .int .i64 a6, .int .i64 a7] 57)) = .ok v' w' ∧ ∃ A' c', v' = .slice A' M c' ∧ Hid (OwnO w' base (.slice A' M c') (l ++ [⟨a0, a1, a2, a3, a4, a5, a6, a7⟩]) ∧ Below base W w') := by
  obtain ⟨v', w', hr, A', cp, rfl, hf⟩ := own_app Ld.O.ints 8 (by omega) (by omega) oints_len 57 25 _ 64 (by omega) Try.underlying25 order_info rfl h hb ⟨a0, a1, a2, a3, a4, a5, a6, a7⟩ #[.int .i64 a0, .int .i64 a1, .int .i64 a2, .int .i64 a3, .int .i64 a4, .int .i64 a5, .int .i64 a6, .int .i64 a7] rfl hs
  have e : (l ++ [(⟨a0, a1, a2, a3, a4, a5, a6, a7⟩ : Ld.O)]).length = M := by rw [List.length_append]; exact hM
  rw [e] at hr hf
  exact ⟨_, w', hr, A', cp, rfl, hf.out⟩
theorem owno_none (W : World) (base : Nat) : OwnO W base (.slice none 0 0) [] := OwnR.none _ _ _ _ _
theorem OwnO.below {W W' : World} {base : Nat} {v : Value} {l : List Ld.O} (h : OwnO W base v l) (hb : Below W.heap.size W W') : OwnO W' base v l := OwnR.blocks h fun k _ hk => hb.block k hk

/-- what named leaves -/
def NamesPost (w : World) (os : List Ld.O) (ids : List Int) (n : Nat) (e : Ending) (w' : World) : Prop :=
  ∃ (A : Option Addr) (m c : Nat) (ec : Int), e = .returned (.tuple #[.slice A m c, .int .i64 ec]) ∧ Hid (Below w.heap.size w w') ∧
    Hid (ec = 6 ∧ Pl.dupB (Pl.srt ids) = true ∨ ec = 5 ∧ Pl.dupB (Pl.srt ids) = false ∧ Rt.allIn os (Pl.srt ids) = false ∨
      ec = 0 ∧ Pl.dupB (Pl.srt ids) = false ∧ Rt.allIn os (Pl.srt ids) = true ∧ m = n ∧ m ≤ c ∧ OrdersAt w' A (Rt.ordersOf os (Pl.srt ids)))

theorem ords_take {os : List Ld.O} {ids : List Int} {k : Nat} {id : Int} (h : ids[k]? = some id) : Rt.ordersOf os (ids.take (k + 1)) = Rt.ordersOf os (ids.take k) ++ [Rt.ordAt os id] := by
  unfold Rt.ordersOf
  rw [List.take_add_one, h, List.map_append]
  rfl
theorem allIn_take {os : List Ld.O} {ids : List Int} {k : Nat} {id : Int} (h : ids[k]? = some id) (ha : Rt.allIn os (ids.take k) = true) (hf : ¬ Ld.findI (os.map Ld.O.id) id = -1) : Rt.allIn os (ids.take (k + 1)) = true := by
  unfold Rt.allIn at ha ⊢
  rw [List.take_add_one, h, List.all_append, ha]
  simpa using hf
theorem allIn_no {os : List Ld.O} {ids : List Int} {k : Nat} {id : Int} (h : ids[k]? = some id) (hf : Ld.findI (os.map Ld.O.id) id = -1) : Rt.allIn os ids = false := by
  unfold Rt.allIn
  exact List.all_eq_false.2 ⟨id, List.mem_of_getElem? h, by simp [hf]⟩

set_option maxHeartbeats 4000000 in
theorem names_b (x : Wd) (A : Option Addr) (n c : Nat) (ids : List Int) (w : World) (hx : WAt w x) (hn : ids.length = n) (hn2 : n ≤ 900) (hi : IntsAt w A ids) :
    Calls Try.prog 20 #[.agg #[.int .i64 x.N, .slice x.dA x.dm x.dc, .slice x.tA x.tm x.tc, .slice x.A x.m x.c, .slice x.B x.k x.d], .slice A n c] w (NamesPost w x.os ids n) := by
  have HX := Lib.hid (WX.new hx)
  have HB0 : Hid (Below w.heap.size w (w.alloc (.cells #[.int .i64 x.N, .slice x.dA x.dm x.dc, .slice x.tA x.tm x.tc, .slice x.A x.m x.c, .slice x.B x.k x.d] 28))) := below_alloc _ _
  have HC := Lib.hid (clone_i A n c ids (w.alloc (.cells #[.int .i64 x.N, .slice x.dA x.dm x.dc, .slice x.tA x.tm x.tc, .slice x.A x.m x.c, .slice x.B x.k x.d] 28)) hn (by omega) (hi.below HB0.out))
  clear hx hi
  go_enter Try.func20, Try.ntmps20
  go_wp2_with fail
  generalize w.alloc (.cells #[.int .i64 x.N, .slice x.dA x.dm x.dc, .slice x.tA x.tm x.tc, .slice x.A x.m x.c, .slice x.B x.k x.d] 28) = V at *
  generalize hb1 : w.heap.size = b1 at HX ⊢
  clear hb1
  with_reducible refine HC.out.mono ?_
  rintro e w1 ⟨A1, c1, rfl, h1⟩
  have HB1 := Lib.hid (below_next HB0.out h1.out.2)
  have HVX := Lib.hid h1.out.2
  have HC2 := Lib.hid (sort_own A1 n c1 ids w1 V.heap.size h1.out.1 h1.out.2.size (by omega))
  clear HC h1
  go_wp2_with fail
  with_reducible refine HC2.out.mono ?_
  rintro e w2 ⟨rfl, h2⟩
  have HV2 : Hid (Below V.heap.size V w2) := HVX.out.trans h2.out.1
  have HX2 := Lib.hid (HX.out.below HV2.out)
  have HB2 := Lib.hid (below_next HB0.out HV2.out)
  have HI2 := Lib.hid h2.out.2.1
  have HSN : Hid ((Pl.srt ids).length = n) := by unfold Hid; rw [Pl.srt_len]; exact hn
  clear HC2 h2 HVX HV2 HB1 HX
  obtain ⟨l, hsl⟩ : ∃ l, Pl.srt ids = l := ⟨_, rfl⟩
  rw [hsl] at HI2 HSN
  have HSL := Lib.hid hsl
  clear hsl
  have HY : Hid (∀ (k : Nat) (x : Int), l[k]? = some x → l[k + 1]? = some x → Pl.dupB l = true) := fun k x h1 h2 => Pl.dup_at h1 h2
  have HR : Hid ((∀ (k : Nat) (x y : Int), l[k]? = some x → l[k + 1]? = some y → x ≠ y) → Pl.dupB l = false) := fun h => Pl.dup_none h
  go_wp2_with fail
  go_loopg [18] n (fun gk s18 W => ∃ (k q : Nat), k + gk = n ∧ s18 = .int .i64 k ∧ W = w2.drewN q ∧ Hid (∀ (i : Nat) (x y : Int), i + 1 < k → l[i]? = some x → l[i + 1]? = some y → x ≠ y))
  case atStart => exact ⟨0, 0, by omega, rfl, rfl, fun i x y hi => by omega⟩
  case round =>
    obtain ⟨k, q, hkg, rfl, rfl, HK⟩ := hrel
    have HW : Hid (∀ m, (w2.drewN q).drewN m = w2.drewN (q + m)) := fun m => by simp
    have HBQ : Hid (∀ q, Below w2.heap.size w2 (w2.drewN q)) := fun q => ⟨rfl, rfl, rfl, Nat.le_refl _, fun _ _ => rfl⟩
    by_cases hlt : k < n
    · obtain ⟨gk, rfl⟩ : ∃ j, gk = j + 1 := ⟨gk - 1, by omega⟩
      obtain ⟨y, hy⟩ := mlist_at l k (by rw [HSN.out]; exact hlt)
      obtain ⟨ad, hA, hc0⟩ := HI2.out k y hy
      have HA := Lib.hid hA
      clear hA
      obtain rfl := HA.out
      have i1 : (0 : Int) ≤ (k : Int) := by omega
      have i2 : (k : Int) < (n : Int) := by omega
      by_cases hk0 : k = 0
      · subst hk0
        have HK2 : Hid (∀ (i : Nat) (x y : Int), i + 1 < 0 + 1 → l[i]? = some x → l[i + 1]? = some y → x ≠ y) := fun i x y hi => by omega
        clear hy hc0
        generalize w2.drewN q = W at *
        go_wp2
        go_quiet (fail)
        go_wp2
        go_roundg gk
        case measure => omega
        case rel => exact ⟨0 + 1, _, by omega, by first | rfl | go_num, HW.out _, HK2.out⟩
      · obtain ⟨j, hj⟩ : ∃ j, k = j + 1 := ⟨k - 1, by omega⟩
        obtain ⟨u, hu⟩ := mlist_at l j (by rw [HSN.out]; omega)
        obtain ⟨ad', e', hd0⟩ := HI2.out j u hu
        obtain rfl := Option.some.inj e'
        have hc1 : (w2.drewN q).cell? (ad.add k) = some (.int .i64 y) := by simpa using hc0
        have hd1 : (w2.drewN q).cell? (ad.add j) = some (.int .i64 u) := by simpa using hd0
        have j1 : (k : Int) - 1 = (j : Int) := by omega
        have j2 : IntKind.i64.wrap (j : Int) = (j : Int) := IntWalk.i64_in _ (by omega)
        have j3 : decide ((0 : Int) < (k : Int)) = true := decide_eq_true (by omega)
        have j6 : decide (0 < k) = true := decide_eq_true (by omega)
        have j7 : 0 < k := by omega
        have j4 : (0 : Int) ≤ (j : Int) := by omega
        have j5 : (j : Int) < (n : Int) := by omega
        have HJ := Lib.hid hj
        clear e'
        by_cases hxy : y = u
        · have heq : (y == u) = true := beq_iff_eq.2 hxy
          have HF2 := Lib.hid (HY.out j u hu (by rw [← hj, hy, hxy]))
          clear hu hy hxy hc0 hd0 hj hk0
          generalize w2.drewN q = W at *
          go_wp2
          go_quiet (fail)
          go_wp2
          go_ret2
          exact ⟨none, 0, 0, 6, rfl, by rw [HW.out]; exact below_next HB2.out (HBQ.out _), by unfold Hid; rw [HSL.out]; exact .inl ⟨rfl, HF2.out⟩⟩
        · have heq : (y == u) = false := beq_eq_false_iff_ne.2 hxy
          have HK2 : Hid (∀ (i : Nat) (u v : Int), i + 1 < k + 1 → l[i]? = some u → l[i + 1]? = some v → u ≠ v) := fun i a b hi ha hb => by
            by_cases h : i + 1 < k
            · exact HK.out i a b h ha hb
            · obtain rfl : i = j := by omega
              rw [hu] at ha
              rw [← hj, hy] at hb
              obtain rfl := Option.some.inj ha
              obtain rfl := Option.some.inj hb
              exact fun e => hxy e.symm
          clear hu hy hxy hc0 hd0 hj hk0
          generalize w2.drewN q = W at *
          go_wp2
          go_quiet (fail)
          go_wp2
          go_roundg gk
          case measure => omega
          case rel => exact ⟨k + 1, _, by omega, by first | rfl | go_num, HW.out _, HK2.out⟩
    · have hk : k = n := by omega
      subst hk
      have HND : Hid (Pl.dupB l = false) := HR.out fun i x y h1 h2 => HK.out i x y (by have := (List.getElem?_eq_some_iff.1 h2).1; rw [HSN.out] at this; omega) h1 h2
      have HX3 := Lib.hid (HX2.out.below (HBQ.out q))
      have HB3 := Lib.hid (below_next HB2.out (HBQ.out q))
      have HI3 := Lib.hid (HI2.out.below (HBQ.out q))
      clear HX2 HB2 HI2 HK HY HR HW HBQ
      generalize w2.drewN q = W3 at *
      go_wp2_with fail
      go_loopg [8, 38] k (fun gk s8 s38 W => ∃ (t c : Nat) (B : Option Addr) (W0 : World), W0 = W ∧ t + gk = k ∧ s8 = .slice B t c ∧ s38 = .int .i64 t ∧ Hid (Below W3.heap.size W3 W0 ∧ W3.heap.size ≤ W0.heap.size) ∧ Hid (OwnO W0 W3.heap.size (.slice B t c) (Rt.ordersOf x.os (l.take t))) ∧ Hid (Rt.allIn x.os (l.take t) = true))
      case atStart => exact ⟨0, 0, none, _, rfl, by omega, rfl, rfl, ⟨Below.refl _ _, Nat.le_refl _⟩, owno_none _ _, rfl⟩
      case round =>
        obtain ⟨t, c', B, W0, rfl, htg, rfl, rfl, HK, HO, HAL⟩ := hrel
        by_cases hlt : t < k
        · obtain ⟨gk, rfl⟩ : ∃ j, gk = j + 1 := ⟨gk - 1, by omega⟩
          obtain ⟨id, hid⟩ := mlist_at l t (by rw [HSN.out]; exact hlt)
          have i2 : (t : Int) < (k : Int) := by omega
          have HX4 := Lib.hid (HX3.out.below HK.out.1)
          obtain ⟨ad, hA, hc0⟩ := (HI3.out.below HK.out.1) t id hid
          obtain ⟨r, hr⟩ : ∃ r, Ld.findI (x.os.map Ld.O.id) id = r := ⟨_, rfl⟩
          have HFI := Lib.hid (find_val x.A x.m x.c x.os id W0 r hr HX4.out.at_.ml HX4.out.at_.m2 HX4.out.at_.os)
          have x3 := HX4.out.c3
          have HA := Lib.hid hA
          have HID := Lib.hid hid
          have HR := Lib.hid hr
          clear hid hA hr
          obtain rfl := HA.out
          by_cases h1 : r = -1
          · have d1 : (r == -1) = true := beq_iff_eq.2 h1
            have HNO := Lib.hid (allIn_no HID.out (HR.out.trans h1))
            clear h1
            go_wp2_with fail
            with_reducible refine HFI.out.mono ?_
            rintro e w5 ⟨rfl, h5⟩
            clear x3 hc0
            go_wp2
            go_ret2
            exact ⟨none, 0, 0, 5, rfl, below_next HB3.out (below_next HK.out.1 h5.out), by unfold Hid; rw [HSL.out]; exact .inr (.inl ⟨rfl, HND.out, HNO.out⟩)⟩
          · have d1 : (r == -1) = false := beq_eq_false_iff_ne.2 h1
            have hr1 : ¬ Ld.findI (x.os.map Ld.O.id) id = -1 := by rw [HR.out]; exact h1
            have HAL2 := Lib.hid (allIn_take HID.out HAL.out hr1)
            obtain ⟨j, o, hj, hjl, ho, hoid⟩ := Rt.find_mem Ld.O.id x.os id hr1
            have HOE : Hid (Rt.ordersOf x.os (l.take (t + 1)) = Rt.ordersOf x.os (l.take t) ++ [o]) := by
              unfold Hid
              rw [ords_take HID.out, Rt.ordAt_eq hj ho]
            have hrj : r = (j : Int) := by rw [← HR.out]; exact hj
            have hjm : j < x.m := by rw [← HX4.out.at_.ml]; exact hjl
            subst hrj
            clear hr1 hj hjl hoid h1
            have i3 : (0 : Int) ≤ (j : Int) := by omega
            have i4 : (j : Int) < (x.m : Int) := by omega
            go_wp2_with fail
            with_reducible refine HFI.out.mono ?_
            rintro e w5 ⟨rfl, h5⟩
            have HX5 := Lib.hid (HX4.out.below h5.out)
            have y3 := HX5.out.c3
            obtain ⟨od, hO, hc⟩ := HX5.out.at_.os.at_ ho
            obtain ⟨c0, c1, c2, c3, c4, c5, c6, c7⟩ := hc
            obtain ⟨a0, a1, a2, a3, a4, a5, a6, a7⟩ := o
            simp only at c0 c1 c2 c3 c4 c5 c6 c7
            have HO5 := Lib.hid (HO.out.below h5.out)
            have HK5 : Hid (Below W3.heap.size W3 w5 ∧ W3.heap.size ≤ w5.heap.size) := ⟨below_next HK.out.1 h5.out, Nat.le_trans HK.out.2 h5.out.size⟩
            have HLN : Hid ((Rt.ordersOf x.os (l.take t)).length = t) := by unfold Hid; rw [Rt.ordersOf_len, List.length_take, HSN.out]; omega
            have HAP := Lib.hid (owno_put HO5.out HK5.out.2 a0 a1 a2 a3 a4 a5 a6 a7 (by rw [HLN.out]; omega) (t + 1) (by rw [HLN.out]))
            have HOA := Lib.hid hO
            clear x3 hc0 h5 HFI hO ho HX4 HX5
            generalize x.A = oA at *
            obtain rfl := HOA.out
            go_wp2_with (at_builtin; refine wpList_append_any rfl (.tmp 48) (.tmp 54) 25 25 rfl _ _ rfl rfl _ HAP.out ?_; intro v2 w6 hap; obtain ⟨A2, c2', rfl, HP⟩ := hap)
            go_roundg gk
            case measure => omega
            case rel => exact ⟨t + 1, c2', A2, _, rfl, by omega, rfl, by first | rfl | go_num, ⟨HK5.out.1.trans HP.out.2, Nat.le_trans HK5.out.2 HP.out.2.size⟩, by rw [HOE.out]; exact HP.out.1, HAL2.out⟩
        · have ht : t = k := by omega
          subst ht
          have HT : Hid (l.take t = l) := List.take_of_length_le (by rw [HSN.out]; exact Nat.le_refl _)
          have HOO : Hid (t ≤ c' ∧ OrdersAt W0 B (Rt.ordersOf x.os l)) := by
            have h := HO.out
            rw [HT.out] at h
            obtain ⟨A', cp, e, h1, _, h2, _⟩ := OwnR.row h
            have hl : (Rt.ordersOf x.os l).length = t := by rw [Rt.ordersOf_len, HSN.out]
            rw [hl] at e h1
            injection e with e1 e2 e3
            subst e1 e3
            exact ⟨h1, h2⟩
          have HAL2 : Hid (Rt.allIn x.os l = true) := by have h := HAL.out; rwa [HT.out] at h
          go_wp2
          go_ret2
          exact ⟨B, t, c', 0, rfl, below_next HB3.out HK.out.1, by unfold Hid; rw [HSL.out]; exact .inr (.inr ⟨rfl, HND.out, HAL2.out, rfl, HOO.out.1, HOO.out.2⟩)⟩
end Go.Proofs.Ytbacakblboodeaa
