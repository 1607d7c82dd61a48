/- The document's answer: a first plan. -/
import Derived.Test.YtjidelfpmlnhkaaGreatSavDdf
import Derived.Test.YtjidelfpmlnhkaaGreatSavDe
namespace Go.Proofs.YtjidelfpmlnhkaaGreat
open Go.RowKit Go.Shelf Go.Sort
set_option linter.unusedVariables false
set_option maxRecDepth 100000

set_option maxHeartbeats 16000000 in
theorem dbuild_b (x : Wd) (w : World) (hx : WAt w x) :
    Calls Tryz.prog 14 #[.agg #[.int .i64 x.N, .slice x.dA x.dm x.dc, .slice x.tA x.tm x.tc, .slice x.A x.m x.c, .slice x.B x.k x.d]] w (BuildPost w x) := by
  have HX := Lib.hid (BX.new hx)
  have HB0 : Hid (RowKit.Below w.heap.size w ((w.alloc (.cells #[.int .i64 x.N, .slice x.dA x.dm x.dc, .slice x.tA x.tm x.tc, .slice x.A x.m x.c, .slice x.B x.k x.d] 28)).alloc (.cells #[.slice none 0 0, .slice none 0 0] 40))) := below_more (below_alloc _ _) _
  have HRP : Hid (∀ W, WAt W x → Calls Tryz.prog 12 #[.agg #[.int .i64 x.N, .slice x.dA x.dm x.dc, .slice x.tA x.tm x.tc, .slice x.A x.m x.c, .slice x.B x.k x.d]] W (RowsPost W x)) := fun W h => drows_b x W h
  clear hx
  have HLE : Hid (w.heap.size ≤ w.heap.size + 1) := by unfold Hid; omega
  go_enter Tryz.func14, Tryz.ntmps14
  have x0 := HX.out.w.c0
  have x1 := HX.out.w.c1
  have x2 := HX.out.w.c2
  have x3 := HX.out.w.c3
  have x4 := HX.out.w.c4
  go_wp2_with fail
  clear x0 x1 x2 x3 x4
  generalize ((w.alloc (.cells #[.int .i64 x.N, .slice x.dA x.dm x.dc, .slice x.tA x.tm x.tc, .slice x.A x.m x.c, .slice x.B x.k x.d] 28)).alloc (.cells #[.slice none 0 0, .slice none 0 0] 40)) = V at *
  generalize hb1 : w.heap.size = b1 at HX HLE ⊢
  have HBE := Lib.hid hb1
  clear hb1
  with_reducible refine (HRP.out _ HX.out.w.at_).mono ?_
  rintro e V2 ⟨A, n, c, L, rfl, h2⟩
  have HX2 := Lib.hid (HX.out.below h2.out.1)
  have HB2 := Lib.hid (below_next HB0.out h2.out.1)
  obtain ⟨g1, g2, g3, g4, g5, g6⟩ := h2.out
  have HLN := Lib.hid g2
  have HN12 := Lib.hid g3
  have HSR := Lib.hid g4
  have HIS := Lib.hid g5
  clear g1 g2 g3 g4 g5 h2 HRP HX HB0
  obtain ⟨f, hf⟩ : ∃ f, Rt.worldE x.N x.D x.T x.os x.ts = f := ⟨_, rfl⟩
  have HF := Lib.hid hf
  have HPO : Hid (∀ (e : Ending) (w' : World) (p : Pd), e = .returned (.tuple #[.agg #[.slice p.rA p.rm p.rc, .slice p.uA p.um p.uc], .int .i64 f]) → RowKit.Below w.heap.size w w' → PAt w' p → (f = 0 → Sv.IsPlan x.N x.D x.T x.os x.ts (ros p.rs) ∧ p.us = Pl.restS x.os (ros p.rs)) → (¬ f = 0 → p.rs = [] ∧ p.us = [] ∧ p.rm = 0) → BuildPost w x e w') := fun e w' p h1 h2 h3 h4 h5 => by
    subst hf
    exact ⟨p, h1, h2, h3, h4, h5⟩
  rw [hf] at HIS ⊢
  clear hf g6
  by_cases hf0 : f = 0
  · subst hf0
    have e1 : ((0 : Int) != (0 : Int)) = false := by decide
    have HIR := Lib.hid (HIS.out rfl)
    clear HIS
    have HLD : Hid (LD V2 V2.heap.size none 0 0 [] (some ⟨V2.heap.size + 1, 0, none⟩) 0 0 (Pl.trs (ros [])) ((V2.alloc (.cells #[.slice none 0 0, .slice none 0 0] 40)).alloc (.cells #[] 3))) := by
      refine ⟨Nat.le_refl _, below_more (below_alloc _ _) _, (Box.new V2 _ _).below (below_alloc _ _), ownQ_nil _ _, ?_, rfl, rfl⟩
      rw [size_one V2 (.cells #[.slice none 0 0, .slice none 0 0] 40)]
      exact own_none (V2.alloc (.cells #[.slice none 0 0, .slice none 0 0] 40)) _ (Nat.le_refl _)
    have HBF : Hid (Sv.BF (fun u st => Rt.runS x.N x.D x.T x.os x.ts u st) (x.ts.map Ld.T.id) ((sts L).take 0) (ros [])) := .nil
    have HK6 : Hid ((x.ts.map Ld.T.id).length = x.k ∧ x.k ≤ 6) := by
      have h1 := HX2.out.w.at_.kl
      refine ⟨by rw [List.length_map]; exact h1, by rw [← h1]; exact (Rt.ok_of HF.out).tl⟩
    go_wp2_with fail
    generalize hp0 : V2.heap.size = hp at HLD ⊢
    have HHP := Lib.hid hp0
    clear hp0
    generalize ((V2.alloc (.cells #[.slice none 0 0, .slice none 0 0] 40)).alloc (.cells #[] 3)) = V4 at *
    go_loopg [7, 8] n (fun gk s7 s8 Wx => ∃ (k : Nat) (rA : Option Addr) (rm rc : Nat) (rs : List Rd) (uA : Option Addr) (un uc : Nat) (W : World), W = Wx ∧ k + gk = n ∧ s7 = .slice uA un uc ∧ s8 = .int .i64 k ∧ Hid (LD V2 hp rA rm rc rs uA un uc (Pl.trs (ros rs)) W) ∧ Hid (Sv.BF (fun u st => Rt.runS x.N x.D x.T x.os x.ts u st) (x.ts.map Ld.T.id) ((sts L).take k) (ros rs)) ∧ Hid (∀ r ∈ rs, ∃ (q : Rw) (u : Int), r = q.rd u ∧ RwOk V2 q) ∧ Hid (rm ≤ k ∧ un = rm))
    case atStart => exact ⟨0, none, 0, 0, [], _, 0, 0, _, rfl, by omega, rfl, rfl, HLD.out, HBF.out, (fun r hr => by cases hr), Nat.le_refl _, rfl⟩
    case round =>
      clear HLD HBF
      obtain ⟨k, rA, rm, rc, rs, uA, un, uc, W, rfl, hkg, rfl, rfl, HLD, HBF, HRA, HRM⟩ := hrel
      have hn12 := HN12.out
      have HXW := Lib.hid (HX2.out.below (by rw [← HHP.out] at HLD; exact HLD.out.bel))
      have hrm := HRM.out.1
      have hk6 := HK6.out.2
      by_cases hlt : k < n
      · obtain ⟨go, rfl⟩ : ∃ j, gk = j + 1 := ⟨gk - 1, by omega⟩
        obtain ⟨q, hq⟩ := mlist_at L k (by rw [HLN.out]; exact hlt)
        have HQ2 := Lib.hid (HSR.out.ok q (List.mem_of_getElem? hq))
        have HTA : Hid ((sts L).take (k + 1) = (sts L).take k ++ [q.st]) := Ar.take_snoc _ _ _ (sts_at hq)
        have hbv : RowKit.Below V2.heap.size V2 W := HLD.out.bel
        obtain ⟨ad, hA, hc, hok⟩ := (HSR.out.below hbv).cell hq
        have HQ := Lib.hid hok
        obtain ⟨adv, hAv, hcv, _⟩ := HSR.out.cell hq
        rw [hA] at hAv
        obtain rfl := Option.some.inj hAv
        have HCV : Hid (∀ U, RowKit.Below V2.heap.size V2 U → U.cell? (ad.add k) = some (.slice q.A q.m q.c)) := fun U hU => by rw [hU.cell (p := ad.add k) (lt_of_cell hcv)]; exact hcv
        clear hAv hcv
        have HCX : Hid (∀ U, RowKit.Below W.heap.size W U → U.cell? (ad.add k) = some (.slice q.A q.m q.c)) := fun U hU => by rw [hU.cell (p := ad.add k) (lt_of_cell hc)]; exact hc
        have i2 : (k : Int) < (n : Int) := by omega
        have HUS : Hid (IntsAt W uA (Pl.trs (ros rs)) ∧ (Pl.trs (ros rs)).length = un) := by
          obtain ⟨A', c', e, _, _, hi⟩ := HLD.out.used.ints
          injection e with e2 e3 e4
          subst e2
          exact ⟨hi, HLD.out.ul⟩
        obtain ⟨us, hus⟩ : ∃ us, Pl.trs (ros rs) = us := ⟨_, rfl⟩
        have HUSE := Lib.hid hus
        have HRUN : Hid (∀ (u : Int) (U : World), RowKit.Below W.heap.size W U → Calls Tryz.prog 39 #[.agg #[.int .i64 x.N, .slice x.dA x.dm x.dc, .slice x.tA x.tm x.tc, .slice x.A x.m x.c, .slice x.B x.k x.d], .agg #[.int .i64 u, .slice q.A q.m q.c]] U (TripPost U (Rt.runS x.N x.D x.T x.os x.ts u q.st))) := fun u U h => drun_b x ⟨u, q.A, q.m, q.c, q.st⟩ U _ rfl (HXW.out.below h).w.at_ ((HQ.out.below h).rat u)
        rw [hus] at HUS
        obtain rfl := hA
        clear hq hbv hok hc hus
        go_wp2_with fail
        go_loopg [9, 10, 11] x.k (fun gk s9 s10 s11 Wx => ∃ (p : Nat) (id least : Int) (U : World), U = Wx ∧ p + gk = x.k ∧ s9 = .int .i64 id ∧ s10 = .int .i64 least ∧ s11 = .int .i64 p ∧ Hid (RowKit.Below W.heap.size W U) ∧ Hid (Sv.DC (fun u => Rt.runS x.N x.D x.T x.os x.ts u q.st) us (x.ts.map Ld.T.id) p id least))
        case atStart => exact ⟨0, -1, 0, _, rfl, by omega, rfl, rfl, rfl, RowKit.Below.refl _ _, Sv.DC.zero _ _ _⟩
        case round =>
          obtain ⟨p, id, least, U, rfl, hpg, rfl, rfl, rfl, HBU, HDC⟩ := hrel
          have HXU := Lib.hid (HXW.out.below HBU.out)
          have x4 := HXU.out.w.c4
          by_cases hplt : p < x.k
          · obtain ⟨gi, rfl⟩ : ∃ j, gk = j + 1 := ⟨gk - 1, by omega⟩
            obtain ⟨⟨t0, t1, t2, t3, t4, t5, t6⟩, ht⟩ := mlist_at x.ts p (by have := HK6.out.1; rw [List.length_map] at this; rw [this]; exact hplt)
            have HTI : Hid ((x.ts.map Ld.T.id)[p]? = some t0) := by unfold Hid; rw [List.getElem?_map, ht]; rfl
            have HT0 : Hid (0 ≤ t0) := by have := ((Rt.ok_of HF.out).tt _ (List.mem_of_getElem? ht)).id0; simp only at this; unfold Hid; omega
            have p2 : (p : Int) < (x.k : Int) := by omega
            obtain ⟨bd, hBd, c0, _, _, _, _, _, _⟩ := HXU.out.w.at_.ts.at_ ht
            simp only at c0
            have HBB := Lib.hid hBd
            obtain ⟨res, hres⟩ : ∃ res, Rt.runS x.N x.D x.T x.os x.ts t0 q.st = res := ⟨_, rfl⟩
            have HRES := Lib.hid hres
            obtain ⟨n2, hn2⟩ : ∃ n, res.vs.length = n := ⟨_, rfl⟩
            have HC : Hid (∀ U' : World, RowKit.Below U.heap.size U U' → Calls Tryz.prog 39 #[.agg #[.int .i64 x.N, .slice x.dA x.dm x.dc, .slice x.tA x.tm x.tc, .slice x.A x.m x.c, .slice x.B x.k x.d], .agg #[.int .i64 t0, .slice q.A q.m q.c]] U' fun e w' => ∃ A3 c3, e = .returned (.tuple #[.agg #[.slice A3 n2 c3, .int .i64 res.back, .int .i64 res.dist, .int .i64 res.cost], .int .i64 res.e]) ∧ (∀ b o, b < U'.heap.size → w'.cell? ⟨b, o, none⟩ = U'.cell? ⟨b, o, none⟩) ∧ (∀ b o, b < U'.heap.size → w'.frozen? ⟨b, o, none⟩ = U'.frozen? ⟨b, o, none⟩) ∧ Hid (RowKit.Below U'.heap.size U' w')) := by
              intro U' hU
              refine (HRUN.out t0 U' (below_next HBU.out hU)).mono ?_
              rintro e w' ⟨A3, c3, rfl, h5⟩
              rw [hres, hn2]
              exact ⟨A3, c3, rfl, fun b o hb => h5.out.1.cell (p := ⟨b, o, none⟩) hb, fun b o hb => h5.out.1.frozen (p := ⟨b, o, none⟩) hb, h5.out.1⟩
            have HBd : Hid (RowKit.Below U.heap.size U U.drew) := (RowKit.Below.refl U.heap.size U).drew
            have HBa : Hid (RowKit.Below U.heap.size U (U.alloc (.cells #[.slice none 0 0, .int .i64 0, .int .i64 0, .int .i64 0] 83)).drew) := (below_alloc U (.cells #[.slice none 0 0, .int .i64 0, .int .i64 0, .int .i64 0] 83)).drew
            have HXT := Lib.hid (HXU.out.below (below_alloc U (.cells #[.slice none 0 0, .int .i64 0, .int .i64 0, .int .i64 0] 83)))
            clear ht hres hn2 hBd
            rw [HBB.out] at x4
            go_upto_region 15 with fail
            clear x4 c0
            go_cut [13, 14] (fun s13 s14 Wc => ∃ V5 : World, V5 = Wc ∧ s14 = .int .i64 res.e ∧ DTBox U res n2 s13 V5)
            case first => as_aux_lemma =>
              have x0 := HXU.out.w.c0
              have x1 := HXU.out.w.c1
              have x2 := HXU.out.w.c2
              have x3 := HXU.out.w.c3
              have x4 := HXU.out.w.c4
              have u0 := HXT.out.w.c0
              have u1 := HXT.out.w.c1
              have u2 := HXT.out.w.c2
              have u3 := HXT.out.w.c3
              have u4 := HXT.out.w.c4
              have c0 := HCX.out U HBU.out
              have d0 := HCX.out _ (below_next HBU.out (below_alloc U (.cells #[.slice none 0 0, .int .i64 0, .int .i64 0, .int .i64 0] 83)))
              go_region_law (first
                | (go_simp; go_at_call 39; ((with_reducible refine (HC.out (U.drew) HBd.out).mono ?_)); rintro e w5 ⟨A3, cA3, rfl, kc, kf, kU⟩)
                | (go_simp; go_at_call 39; ((with_reducible refine (HC.out ((U.alloc (.cells #[.slice none 0 0, .int .i64 0, .int .i64 0, .int .i64 0] 83)).drew) HBa.out).mono ?_)); rintro e w5 ⟨A3, cA3, rfl, kc, kf, kU⟩))
              all_goals
                clear kc kf u0 u1 u2 u3 u4 x0 x1 x2 x3 x4 c0 d0
                go_wp2
                go_meet
                case rel =>
                  refine ⟨_, rfl, rfl, ?_⟩
                  first
                    | with_reducible exact dtbox_new (below_next HBd.out kU.out)
                    | with_reducible exact dtbox_set kU.out
            case rest =>
              obtain ⟨V5, rfl, rfl, q1, A3, cA3, rfl, HTB⟩ := hcut
              have HB6 := Lib.hid (below_next HBU.out HTB.out.2)
              obtain ⟨vs, back, dist, cost, er⟩ := res
              simp only at *
              clear HC HBd HBa HXT HXU
              by_cases he : er = 0
              · subst he
                have e4 : ((0 : Int) != (0 : Int)) = false := by decide
                obtain ⟨inn, hinn⟩ : ∃ b, us.contains t0 = b := ⟨_, rfl⟩
                have HIN := Lib.hid hinn
                have HCI : Hid (Calls Tryz.prog 40 #[.slice uA un uc, .int .i64 t0] V5 fun e w' => e = .returned (.bool inn) ∧ V5 = w') := din_b uA un uc us t0 V5 inn hinn HUS.out.2 (by rw [HRM.out.2]; omega) (HUS.out.1.below HB6.out)
                clear hinn
                go_wp2_with fail
                with_reducible refine HCI.out.mono ?_
                rintro e V6 ⟨rfl, rfl⟩
                cases inn with
                | true =>
                  have HDC2 := Lib.hid (HDC.out.skip HTI.out (.inl (by simpa using HIN.out)))
                  clear HTB HCI
                  go_wp2
                  go_roundg gi
                  case measure => omega
                  case rel => exact ⟨p + 1, id, least, _, rfl, by omega, rfl, rfl, by first | rfl | go_num, HB6.out, HDC2.out⟩
                | false =>
                  have HNI : Hid (t0 ∉ us) := fun h => by
                    have h1 := HIN.out
                    rw [show us.contains t0 = true by simpa using h] at h1
                    cases h1
                  have HCO : Hid ((Rt.runS x.N x.D x.T x.os x.ts t0 q.st).e = 0 ∧ (Rt.runS x.N x.D x.T x.os x.ts t0 q.st).cost = cost) := by rw [HRES.out]; exact ⟨rfl, rfl⟩
                  have b3 := HTB.out.1.cell 3 _ rfl
                  have HTK : Hid (id < 0 ∨ cost < least ∨ cost = least ∧ t0 < id → Sv.DC (fun u => Rt.runS x.N x.D x.T x.os x.ts u q.st) us (x.ts.map Ld.T.id) (p + 1) t0 cost) := fun h => HDC.out.take HTI.out HT0.out HNI.out HCO.out.1 (by simp only [HCO.out.2]; exact h) HCO.out.2
                  have HKP : Hid (¬ id < 0 → ¬ cost < least → ¬ (cost = least ∧ t0 < id) → Sv.DC (fun u => Rt.runS x.N x.D x.T x.os x.ts u q.st) us (x.ts.map Ld.T.id) (p + 1) id least) := fun h1 h2 h3 => HDC.out.keep HTI.out h1 (by simp only [HCO.out.2]; exact h2) (by simp only [HCO.out.2]; exact h3)
                  clear HTB HCI
                  by_cases h1 : id < 0
                  · have d1 : decide (id < (0 : Int)) = true := decide_eq_true h1
                    have HDC2 := Lib.hid (HTK.out (.inl h1))
                    clear h1
                    clear HTK HKP
                    go_wp2
                    go_roundg gi
                    case measure => omega
                    case rel => exact ⟨p + 1, t0, cost, _, rfl, by omega, rfl, rfl, by first | rfl | go_num, HB6.out, HDC2.out⟩
                  · have d1 : decide (id < (0 : Int)) = false := decide_eq_false h1
                    by_cases h2 : cost < least
                    · have d2 : decide (cost < least) = true := decide_eq_true h2
                      have HDC2 := Lib.hid (HTK.out (.inr (.inl h2)))
                      clear h1 h2
                      clear HTK HKP
                      go_wp2
                      go_roundg gi
                      case measure => omega
                      case rel => exact ⟨p + 1, t0, cost, _, rfl, by omega, rfl, rfl, by first | rfl | go_num, HB6.out, HDC2.out⟩
                    · have d2 : decide (cost < least) = false := decide_eq_false h2
                      by_cases h3 : cost = least
                      · have d3 : (cost == least) = true := beq_iff_eq.2 h3
                        by_cases h4 : t0 < id
                        · have d4 : decide (t0 < id) = true := decide_eq_true h4
                          have HDC2 := Lib.hid (HTK.out (.inr (.inr ⟨h3, h4⟩)))
                          clear h1 h2 h3 h4
                          clear HTK HKP
                          go_wp2
                          go_roundg gi
                          case measure => omega
                          case rel => exact ⟨p + 1, t0, cost, _, rfl, by omega, rfl, rfl, by first | rfl | go_num, HB6.out, HDC2.out⟩
                        · have d4 : decide (t0 < id) = false := decide_eq_false h4
                          have HDC2 := Lib.hid (HKP.out h1 h2 (fun h => h4 h.2))
                          clear h1 h2 h3 h4
                          clear HTK HKP
                          go_wp2
                          go_roundg gi
                          case measure => omega
                          case rel => exact ⟨p + 1, id, least, _, rfl, by omega, rfl, rfl, by first | rfl | go_num, HB6.out, HDC2.out⟩
                      · have d3 : (cost == least) = false := beq_eq_false_iff_ne.2 h3
                        have HDC2 := Lib.hid (HKP.out h1 h2 (fun h => h3 h.1))
                        clear h1 h2 h3
                        clear HTK HKP
                        go_wp2
                        go_roundg gi
                        case measure => omega
                        case rel => exact ⟨p + 1, id, least, _, rfl, by omega, rfl, rfl, by first | rfl | go_num, HB6.out, HDC2.out⟩
              · have e4 : (er != (0 : Int)) = true := bne_iff_ne.2 he
                have HDC2 := Lib.hid (HDC.out.skip HTI.out (.inr (by simp only [HRES.out]; exact he)))
                clear HTB
                go_wp2
                go_roundg gi
                case measure => omega
                case rel => exact ⟨p + 1, id, least, _, rfl, by omega, rfl, rfl, by first | rfl | go_num, HB6.out, HDC2.out⟩
          · obtain rfl : p = x.k := by omega
            have hdc := HDC.out
            rw [← HK6.out.1] at hdc
            have HDB := Lib.hid hdc
            have HLU := Lib.hid (HLD.out.below HBU.out)
            clear hdc HDC HRUN HXU
            by_cases hid : id < 0
            · have d1 : decide ((0 : Int) ≤ id) = false := decide_eq_false (by omega)
              have HBF2 : Hid (Sv.BF (fun u st => Rt.runS x.N x.D x.T x.os x.ts u st) (x.ts.map Ld.T.id) ((sts L).take (k + 1)) (ros rs)) := .skip HTA.out HBF.out (by rw [HUSE.out]; exact HDB.out.none hid)
              clear hid
              go_wp2
              go_roundg go
              case measure => omega
              case rel => exact ⟨k + 1, rA, rm, rc, rs, uA, un, uc, _, rfl, by omega, rfl, by first | rfl | go_num, HLU.out, HBF2.out, HRA.out, by omega, HRM.out.2⟩
            · have d1 : decide ((0 : Int) ≤ id) = true := decide_eq_true (by omega)
              have hros : ros (rs ++ [q.rd id]) = ros rs ++ [⟨id, q.st⟩] := by unfold ros; rw [List.map_append]; rfl
              have HBF2 : Hid (Sv.BF (fun u st => Rt.runS x.N x.D x.T x.os x.ts u st) (x.ts.map Ld.T.id) ((sts L).take (k + 1)) (ros (rs ++ [q.rd id]))) := by
                obtain ⟨h1, h2, h3, h4⟩ := HDB.out.best hid
                rw [← HUSE.out] at h2 h4
                exact .take HTA.out hros HBF.out h1 h2 h3 h4
              have HTR : Hid (Pl.trs (ros (rs ++ [q.rd id])) = Pl.trs (ros rs) ++ [id]) := by unfold Hid; rw [hros, Sv.trs_snoc]
              have HAU : Hid (∃ v' w', (Builtin.append_ #[29, 29] 29 #[.slice uA un uc, .slice (some ⟨U.heap.size, 0, none⟩) 1 1]).run Tryz.prog (U.alloc (.cells #[.int .i64 id] 3)) = .ok v' w' ∧ ∃ A' c', v' = .slice A' (un + 1) c' ∧ Hid (LD V2 hp rA rm rc rs A' (un + 1) c' (Pl.trs (ros rs) ++ [id]) w' ∧ RowKit.Below (hp + 1) U w')) := by
                obtain ⟨v', w', h1, A', c', e, h2⟩ := owni_one2 HLU.out.used HLU.out.ul HLU.out.pb.lt id (by rw [HRM.out.2]; omega)
                exact ⟨v', w', h1, A', c', e, HLU.out.use h2.out.1 h2.out.2.1 h2.out.2.2, h2.out.2.1⟩
              clear hid hros
              go_wp2_with (at_builtin; refine wpList_append_any rfl (.tmp 87) (.tmp 89) 29 29 rfl _ _ rfl rfl _ HAU.out ?_; intro v1 w1 hc1; obtain ⟨U1, uc1, rfl, HC1⟩ := hc1)
              have HL1 := Lib.hid HC1.out.1
              have hur := HRM.out.2
              have z0 := HL1.out.pb.cell 0 _ rfl
              have z0a : (w1.alloc (.cells #[.int .i64 id, .slice q.A q.m q.c] 58)).cell? ⟨hp, 0, none⟩ = some (.slice rA rm rc) := (HL1.out.pb.below (below_alloc w1 (.cells #[.int .i64 id, .slice q.A q.m q.c] 58))).cell 0 _ rfl
              have hcq := HCV.out w1 HL1.out.bel
              have hcqa := HCV.out (w1.alloc (.cells #[.int .i64 id, .slice q.A q.m q.c] 58)) (below_next HL1.out.bel (below_alloc w1 (.cells #[.int .i64 id, .slice q.A q.m q.c] 58)))
              have HAP : Hid (∃ v' w', (Builtin.append_ #[38, 38] 38 #[.slice rA rm rc, .slice (some ⟨w1.heap.size, 0, none⟩) 1 1]).run Tryz.prog ((w1.alloc (.cells #[.int .i64 id, .slice q.A q.m q.c] 58)).drew) = .ok v' w' ∧ ∃ A' c', v' = .slice A' (rm + 1) c' ∧ (∃ z, w'.cell? ⟨hp, 0, none⟩ = some z) ∧ w'.frozen? ⟨hp, 0, none⟩ = false ∧ Hid (LD V2 hp A' (rm + 1) c' (rs ++ [q.rd id]) U1 (un + 1) uc1 (Pl.trs (ros rs) ++ [id]) (w'.setCell ⟨hp, 0, none⟩ (.slice A' (rm + 1) c')))) := by
                obtain ⟨v', w', h1, A', c', rfl, h2⟩ := ownq_one2 HL1.out.own HL1.out.rl HL1.out.pb.lt (q.rd id) (by omega)
                have hpb := HL1.out.pb.old h2.out.2.1 (Nat.lt_succ_self _)
                exact ⟨_, w', h1, A', c', rfl, ⟨_, hpb.cell 0 _ rfl⟩, hpb.fz 0, HL1.out.store h2.out.2.1 h2.out.2.2 h2.out.1 (by rw [List.length_append, HL1.out.rl]; rfl)⟩
              clear HL1 HC1 HAU HLU HDB
              go_wp2
              go_region_law (first
                | (refine step_append_w ((w1.alloc (.cells #[.int .i64 id, .slice q.A q.m q.c] 58)).drew) (by with_reducible rfl) (by rfl) (.tmp 92) (.tmp 99) 38 38 38 (by rfl) (by rfl) (.slice rA rm rc) (.slice (some ⟨w1.heap.size, 0, none⟩) 1 1) (by rfl) (by rfl) _ HAP.out ?_
                   rintro v2 w6 ⟨A6, c6, rfl, ⟨zz, u1⟩, u2, u3⟩))
              all_goals
                clear z0 z0a hcq hcqa u1 u2 HAP
                have HLD2 : Hid (LD V2 hp A6 (rm + 1) c6 (rs ++ [q.rd id]) U1 (un + 1) uc1 (Pl.trs (ros (rs ++ [q.rd id]))) (w6.setCell ⟨hp, 0, none⟩ (.slice A6 (rm + 1) c6))) := by rw [HTR.out]; exact u3.out
                have HRA2 : Hid (∀ r ∈ rs ++ [q.rd id], ∃ (q : Rw) (u : Int), r = q.rd u ∧ RwOk V2 q) := fun r hr => by
                  rcases List.mem_append.1 hr with hr | hr
                  · exact HRA.out r hr
                  · exact ⟨q, id, List.mem_singleton.1 hr, HQ2.out⟩
                clear u3
                go_wp2
                go_roundg go
                case measure => omega
                case rel => exact ⟨k + 1, A6, rm + 1, c6, rs ++ [q.rd id], U1, un + 1, uc1, _, rfl, by omega, by first | rfl | go_num, by first | rfl | go_num, HLD2.out, HBF2.out, HRA2.out, by omega, by omega⟩
      · have hk : k = n := by omega
        subst hk
        have HIP : Hid (Sv.IsPlan x.N x.D x.T x.os x.ts (ros rs)) := by
          have hbf := HBF.out
          rw [List.take_of_length_le (by rw [sts_len, HLN.out]; exact Nat.le_refl _)] at hbf
          exact ⟨sts L, HIR.out, hbf⟩
        have HMY := Lib.hid (HIP.out.may HF.out)
        have HTOT : Hid ((Pl.stops (ros rs)).length ≤ 12 ∧ (Pl.restS x.os (ros rs)).length ≤ 12) := by
          have h1 := HMY.out.all_len
          rw [List.length_append] at h1
          have h2 := (Rt.ok_of HF.out).ol
          exact ⟨by omega, by omega⟩
        have HROW : Hid (∀ W', OwnQ W' (hp + 1) (.slice rA rm rc) rs → RowsR W' rA rs) := fun W' h => by
          obtain ⟨A', c', e, _, _, h2, _⟩ := h.row
          injection e with e1 _ _
          rw [e1]
          exact h2
        have HP0 : Hid (PAt W ⟨rA, rm, rc, rs, none, 0, 0, []⟩) := by
          refine ⟨HLD.out.rl, by show rm ≤ 1000; omega, HROW.out W HLD.out.own, fun r hr => ?_, by have := HTOT.out.1; show (Pl.stops (ros rs)).length ≤ 10000; omega, rfl, by show 0 ≤ 1000; omega, IntsAt.nil _ _⟩
          obtain ⟨q, u, rfl, hq⟩ := HRA.out r hr
          exact (hq.below HLD.out.bel).rat u
        have HR := Lib.hid (drest_b x ⟨rA, rm, rc, rs, none, 0, 0, []⟩ W HXW.out.w.at_ HP0.out)
        have z0 := HLD.out.pb.cell 0 _ rfl
        have z1 := HLD.out.pb.cell 1 _ rfl
        have x0 := HXW.out.w.c0
        have x1 := HXW.out.w.c1
        have x2 := HXW.out.w.c2
        have x3 := HXW.out.w.c3
        have x4 := HXW.out.w.c4
        go_wp2_with fail
        clear x0 x1 x2 x3 x4 z0 z1
        with_reducible refine HR.out.mono ?_
        rintro e W9 ⟨uA, uc, rfl, huc, h9⟩
        have HLD9 := Lib.hid (HLD.out.below h9.out.1)
        have HX9 := Lib.hid (HXW.out.below h9.out.1)
        have HU := Lib.hid h9.out.2.1
        have HUB : Hid (∀ ad, uA = some ad → hp < ad.block) := fun ad e => by
          have h1 := (h9.out.2.2 ad e).1
          have h2 := HLD.out.pb.lt
          omega
        have HNE : Hid (b1 + 1 < hp) := by unfold Hid; rw [← HHP.out]; exact HX2.out.r.lt
        have HB9 : Hid (RowKit.Below w.heap.size w W9) := below_next HB2.out HLD9.out.bel
        obtain ⟨un, hun⟩ : ∃ n, (Pl.restS x.os (ros rs)).length = n := ⟨_, rfl⟩
        have HUN := Lib.hid hun
        rw [show (Pl.restS x.os (ros (Pd.rs ⟨rA, rm, rc, rs, none, 0, 0, []⟩))).length = un from hun]
        have HB10 : Hid (Box (W9.setCell ⟨hp, 1, none⟩ (.slice uA un uc)) hp #[.slice rA rm rc, .slice uA un uc] 40) := HLD9.out.pb.set 1 _ _ rfl
        have HR10 : Hid (Box (W9.setCell ⟨hp, 1, none⟩ (.slice uA un uc)) (b1 + 1) #[.slice none 0 0, .slice none 0 0] 40) := (Go.Deep.blk_setCell_other _ _ _ _ (by have := HNE.out; show b1 + 1 ≠ hp; omega)).trans HX9.out.r
        have HK10 : Hid (KeepI W9 (W9.setCell ⟨hp, 1, none⟩ (.slice uA un uc))) := keepI_set HLD9.out.pb _
        have HB11 : Hid (RowKit.Below w.heap.size w (W9.setCell ⟨hp, 1, none⟩ (.slice uA un uc))) := HB9.out.setCell (p := ⟨hp, 1, none⟩) (by have h1 := HNE.out; have h2 := HLE.out; have h3 := HBE.out; show w.heap.size ≤ hp; omega) _
        have y1 := HLD9.out.pb.cell 1 _ rfl
        have y2 := HLD9.out.pb.fz 1
        have z0 := HB10.out.cell 0 _ rfl
        have z1 := HB10.out.cell 1 _ rfl
        have r0 := HR10.out.cell 0 _ rfl
        have r1 := HR10.out.cell 1 _ rfl
        have q0 := HR10.out.fz 0
        have q1 := HR10.out.fz 1
        clear hun h9 HR HXW HX9 huc
        go_wp2
        refine bodyPost_ret (results_plan2 rfl _ (plan_set2 HR10.out _ _) rfl rfl rfl) rfl (HPO.out _ _ ⟨rA, rm, rc, rs, uA, un, uc, Pl.restS x.os (ros rs)⟩ rfl (below_two HB11.out _ (by rw [HBE.out]; exact HLE.out) _ _) ?_ (fun _ => ⟨HIP.out, rfl⟩) (fun h => absurd trivial h))
        have hk11 : KeepI W9 (((W9.setCell ⟨hp, 1, none⟩ (.slice uA un uc)).setCell ⟨b1 + 1, 0, none⟩ (.slice rA rm rc)).setCell ⟨b1 + 1, 1, none⟩ (.slice uA un uc)) :=
          (HK10.out.trans (keepI_set HR10.out _)).trans (keepI_set (HR10.out.set 0 _ _ rfl) _)
        have hbk : ∀ j, hp < j → (((W9.setCell ⟨hp, 1, none⟩ (.slice uA un uc)).setCell ⟨b1 + 1, 0, none⟩ (.slice rA rm rc)).setCell ⟨b1 + 1, 1, none⟩ (.slice uA un uc)).heap[j]? = W9.heap[j]? := fun j hj => by
          have h1 := HNE.out
          exact ((Go.Deep.blk_setCell_other _ _ _ _ (by show j ≠ b1 + 1; omega)).trans (Go.Deep.blk_setCell_other _ _ _ _ (by show j ≠ b1 + 1; omega))).trans (Go.Deep.blk_setCell_other _ _ _ _ (by show j ≠ hp; omega))
        refine ⟨HLD9.out.rl, by show rm ≤ 1000; omega, HROW.out _ (HLD9.out.own.put fun j hj _ => hbk j (by omega)), fun r hr => ?_, by have := HTOT.out.1; show (Pl.stops (ros rs)).length ≤ 10000; omega, HUN.out, by have h1 := HTOT.out.2; have h2 := HUN.out; show un ≤ 1000; omega, ints_keep HU.out fun ad e => hbk _ (HUB.out ad e)⟩
        obtain ⟨q, u, rfl, hq⟩ := HRA.out r hr
        exact ((hq.below HLD9.out.bel).keep hk11).rat u
  · have e1 : (f != (0 : Int)) = true := bne_iff_ne.2 hf0
    have r0 := HX2.out.r.cell 0 _ rfl
    have r1 := HX2.out.r.cell 1 _ rfl
    have q0 := HX2.out.r.fz 0
    have q1 := HX2.out.r.fz 1
    have HLE2 : Hid (w.heap.size ≤ b1 + 1) := by rw [HBE.out]; exact HLE.out
    go_wp2
    exact bodyPost_ret (results_plan2 rfl _ (plan_set2 HX2.out.r _ _) rfl rfl rfl) rfl (HPO.out _ _ ⟨none, 0, 0, [], none, 0, 0, []⟩ rfl (below_two HB2.out _ HLE2.out _ _) (PAt.zero _) (fun h => absurd h hf0) (fun _ => ⟨rfl, rfl, rfl⟩))
end Go.Proofs.YtjidelfpmlnhkaaGreat
