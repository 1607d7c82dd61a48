/- Every call of the law that moves change neither the plan nor one another, and serve no order twice, answers true: for every world and plan. No conditions. -/
import Derived.Test.YtgjmlnpfkmpfgaaGreatRows
import Derived.Test.YtgjmlnpfkmpfgaaGreatBetNMo
import Derived.WalkKit
import Derived.ProofKit
import Derived.OpenShut
import Derived.ShutString
import Derived.ChangeOld
import Derived.Below
import Derived.SizedLaws
namespace Go.Proofs.YtgjmlnpfkmpfgaaGreat.betterOwn
open Go.ChangeShapes Go.WideShapes Go.ChangeAt Go.RowKit
open Go.ChangeMaps (open_string shut_string)
set_option linter.unusedVariables false

theorem own : ownKnob Tryz.prog.godebug = none := by kernel_rfl
theorem laidOut : laidOutB Tryz.prog = true := by kernel_rfl

open Go.Proofs.YtgjmlnpfkmpfgaaGreat
set_option maxRecDepth 100000

set_option maxHeartbeats 20000000 in
theorem walk {w : World} (x : Wd) (hx : WorldIn w x) (p : Pd) (hp : PlanIn w p) (fp : Few p) :
    Calls Tryz.prog 6 #[.agg #[.int .i64 x.N, .slice x.dA x.dm x.dc, .slice x.tA x.tm x.tc, .slice x.A x.m x.c, .slice x.B x.k x.d], .agg #[.slice p.rA p.rm p.rc, .slice p.uA p.um p.uc]] w fun e w' => e = .returned (.bool true) ∧ Below w.heap.size w w' := by
  have HB0 : Hid (Below w.heap.size w ((w.alloc (.cells #[.int .i64 x.N, .slice x.dA x.dm x.dc, .slice x.tA x.tm x.tc, .slice x.A x.m x.c, .slice x.B x.k x.d] 28)).alloc (.cells #[.slice p.rA p.rm p.rc, .slice p.uA p.um p.uc] 32))) := below_more (below_alloc _ _) _
  have HX := Lib.hid (OB.new w x p)
  have HWI := Lib.hid hx
  have HPI := Lib.hid hp
  have HFP := Lib.hid fp
  have HCAP : Hid (∀ r ∈ p.rs, r.sm ≤ r.sc) := fun r hr => (hp.ra r hr).sc
  clear hx hp fp
  go_enter Tryz.func6, Tryz.ntmps6
  go_wp2_with fail
  generalize ((w.alloc (.cells #[.int .i64 x.N, .slice x.dA x.dm x.dc, .slice x.tA x.tm x.tc, .slice x.A x.m x.c, .slice x.B x.k x.d] 28)).alloc (.cells #[.slice p.rA p.rm p.rc, .slice p.uA p.um p.uc] 32)) = V at *
  generalize w.heap.size + 1 = b2 at *
  generalize hb1 : w.heap.size = b1 at HX ⊢
  have HBE := Lib.hid hb1
  clear hb1
  with_reducible refine (awake_any _).mono ?_
  rintro e V1 ⟨rfl, hv1⟩
  have HX1 := Lib.hid (HX.out.below hv1)
  have HB1 := Lib.hid (below_next HB0.out hv1)
  clear hv1 HX HB0
  obtain ⟨r, hr⟩ : ∃ r : Bool, r = true ↔ LargeB x p 0 := by
    by_cases h : LargeB x p 0
    · exact ⟨true, by simp [h]⟩
    · exact ⟨false, by simp [h]⟩
  have HR := Lib.hid hr
  have HC := Lib.hid (blarge_b x p 0 V1 r hr (HWI.out.below HB1.out) (HPI.out.below HB1.out) HFP.out)
  clear hr
  have c0 := wbox0 HX1.out.w
  have c1 := wbox1 HX1.out.w
  have c2 := wbox2 HX1.out.w
  have c3 := wbox3 HX1.out.w
  have c4 := wbox4 HX1.out.w
  have a0 := pbox0 HX1.out.p
  have a1 := pbox1 HX1.out.p
  go_wp2_with fail
  clear c0 c1 c2 c3 c4 a0 a1
  with_reducible refine HC.out.mono ?_
  rintro e V2 ⟨rfl, hv2⟩
  have HX2' := Lib.hid (HX1.out.below hv2.out)
  have HB2 := Lib.hid (below_next HB1.out hv2.out)
  clear hv2 HX1 HB1 HC
  cases r with
  | true =>
    go_wp2_with fail
    go_ret
    exact ⟨rfl, HB2.out⟩
  | false =>
    have HNL := Lib.hid (large_no3 (fun h => by have := HR.out.2 h; cases this))
    have HX2 : Hid (OW V2 b1 b2 x p) := ⟨⟨HX2'.out.w, (HWI.out.below HB2.out).at_ HNL.out.1⟩, ⟨HX2'.out.p, (HPI.out.below HB2.out).at_ HNL.out.2.1⟩⟩
    clear HX2' HWI HPI HFP HR
    have HC := Lib.hid (copy_b p V2 HX2.out.p.at_)
    have a0 := HX2.out.p.c0
    have a1 := HX2.out.p.c1
    go_wp2_with fail
    clear a0 a1
    with_reducible refine HC.out.mono ?_
    rintro e V3 ⟨s, rfl, h3⟩
    have HS3 : Hid (PX (V3.alloc (.cells #[.slice s.rA s.rm s.rc, .slice s.uA s.um s.uc] 32)) V3.heap.size s) := PX.new h3.out.at_
    have HEQ : Hid (ros p.rs = ros s.rs ∧ p.us = s.us) := ⟨h3.out.ro.symm, h3.out.us.symm⟩
    have HX4 := Lib.hid ((HX2.out.below h3.out.bel).below (below_alloc V3 (.cells #[.slice s.rA s.rm s.rc, .slice s.uA s.um s.uc] 32)))
    have HB4 := Lib.hid (below_more (below_next HB2.out h3.out.bel) (.cells #[.slice s.rA s.rm s.rc, .slice s.uA s.um s.uc] 32))
    have HC := Lib.hid (moves_any x p _ HX4.out.w.at_ HX4.out.p.at_ HCAP.out)
    clear HX2 HB2 h3
    have c0 := wbox0 HX4.out.w.box
    have c1 := wbox1 HX4.out.w.box
    have c2 := wbox2 HX4.out.w.box
    have c3 := wbox3 HX4.out.w.box
    have c4 := wbox4 HX4.out.w.box
    have a0 := HX4.out.p.c0
    have a1 := HX4.out.p.c1
    go_wp2_with fail
    clear c0 c1 c2 c3 c4 a0 a1
    with_reducible refine HC.out.mono ?_
    clear HC
    generalize V3.alloc (.cells #[.slice s.rA s.rm s.rc, .slice s.uA s.um s.uc] 32) = V4 at *
    generalize hbs : V3.heap.size = bs at *
    clear hbs
    rintro e V5 ⟨A, n, c, l, rfl, h5⟩
    have HBM : Hid (Bmp V4 V5 A n c l) := Bmp.start h5.out.1 h5.out.2.1 fun q hq => (h5.out.2.2 q hq).1
    have HQS : Hid (∀ q ∈ l, q.rs.length = q.rm ∧ q.rm ≤ 1000 ∧ ∀ r ∈ q.rs, r.sm ≤ 1000) := fun q hq => ⟨(h5.out.2.2 q hq).1.at_.rl, (h5.out.2.2 q hq).1.at_.r2, fun r hr => ((h5.out.2.2 q hq).1.at_.ra r hr).s2⟩
    have HLN : Hid (l.length = n ∧ n ≤ 9223372036854775807) := by
      obtain ⟨A', c', he, h1, h2, _⟩ := h5.out.2.1.row
      injection he with _ e2 _
      unfold maxLen at h2
      exact ⟨e2.symm, by omega⟩
    have hn9 := HLN.out.2
    clear h5
    go_wp2_with fail
    go_loopg [27] n (fun gk s27 Wx => ∃ (i : Nat) (W : World), W = Wx ∧ i + gk = n ∧ s27 = .int .i64 i ∧ Hid (Bmp V4 W A n c l))
    case atStart => exact ⟨0, _, rfl, by omega, rfl, HBM.out⟩
    case round =>
      obtain ⟨i, W, rfl, hig, rfl, HK⟩ := hrel
      clear HBM
      by_cases hlt : i < n
      · obtain ⟨go, rfl⟩ : ∃ j, gk = j + 1 := ⟨gk - 1, by omega⟩
        obtain ⟨q, hq⟩ := mlist_at l i (by rw [HLN.out.1]; exact hlt)
        have hmem := List.mem_of_getElem? hq
        obtain ⟨A', c', he, _, _, hrow, _⟩ := HK.out.row.row
        injection he with eA e2 e3
        rw [← eA] at hrow
        obtain ⟨ad, hA, a0, a1⟩ := hrow i q hq
        clear hrow eA e2 e3
        have HMEM := Lib.hid hmem
        have hrm := (HQS.out q hmem).2.1
        have i2 : (i : Int) < (n : Int) := by omega
        have HKU : Hid (Bmp V4 (W.alloc (.cells #[.slice q.rA q.rm q.rc, .slice q.uA q.um q.uc] 32)) A n c l) := HK.out.below (below_alloc _ _)
        have HXU : Hid (Box (W.alloc (.cells #[.slice q.rA q.rm q.rc, .slice q.uA q.um q.uc] 32)) W.heap.size q.cells 32) := Box.new _ _ _
        obtain rfl := hA
        clear hq hmem HK
        go_wp2_with fail
        clear a0 a1
        generalize W.alloc (.cells #[.slice q.rA q.rm q.rc, .slice q.uA q.um q.uc] 32) = W1 at *
        generalize hbx : W.heap.size = bx at *
        clear hbx
        go_loopg [34] q.rm (fun gk s34 Wx => ∃ (j : Nat) (U : World), U = Wx ∧ j + gk = q.rm ∧ s34 = .int .i64 j ∧ Hid (Bmp V4 U (some ad) n c l) ∧ Hid (Box U bx q.cells 32))
        case atStart => exact ⟨0, _, rfl, by omega, rfl, HKU.out, HXU.out⟩
        case round =>
          obtain ⟨j, U, rfl, hjg, rfl, HKJ, HXJ⟩ := hrel
          clear HKU HXU
          by_cases hlj : j < q.rm
          · obtain ⟨gj, rfl⟩ : ∃ k, gk = k + 1 := ⟨gk - 1, by omega⟩
            obtain ⟨r, hr⟩ := mlist_at q.rs j (by rw [(HQS.out q HMEM.out).1]; exact hlj)
            have HR := Lib.hid (List.mem_of_getElem? hr)
            have hsm := (HQS.out q HMEM.out).2.2 r HR.out
            have hoq := (HKJ.out.rr q HMEM.out).len
            obtain ⟨ad2, hqA, k0, k1⟩ := hoq.2.2.1 j r hr
            have HQA := Lib.hid hqA
            have HRJ := Lib.hid hr
            have a0 : U.cell? ⟨bx, 0, none⟩ = some (.slice q.rA q.rm q.rc) := HXJ.out.cell 0 _ rfl
            have i3 : (j : Int) < (q.rm : Int) := by omega
            have i4 : (0 : Int) ≤ (j : Int) := by omega
            rw [hqA] at a0
            clear hoq hr hqA
            go_wp2_with fail
            clear a0 k0 k1
            go_loopg [44] r.sm (fun gk s44 Wx => ∃ (k : Nat) (T : World), T = Wx ∧ k + gk = r.sm ∧ s44 = .int .i64 k ∧ Hid (Bmp V4 T (some ad) n c l) ∧ Hid (Box T bx q.cells 32))
            case atStart => exact ⟨0, _, rfl, by omega, rfl, HKJ.out, HXJ.out⟩
            case round =>
              obtain ⟨k, T, rfl, hkg, rfl, HKK, HXK⟩ := hrel
              clear HKJ HXJ
              by_cases hlk : k < r.sm
              · obtain ⟨gi, rfl⟩ : ∃ k, gk = k + 1 := ⟨gk - 1, by omega⟩
                obtain ⟨ad3, z, hsA, hbl, hc, hf, hty⟩ := HKK.out.st q HMEM.out r HR.out k hlk
                have hoq := (HKK.out.rr q HMEM.out).len
                obtain ⟨ad4, hqA, k0, k1⟩ := hoq.2.2.1 j r HRJ.out
                have e4 : ad4 = ad2 := by rw [HQA.out] at hqA; exact (Option.some.inj hqA).symm
                subst e4
                have a0 : T.cell? ⟨bx, 0, none⟩ = some (.slice q.rA q.rm q.rc) := HXK.out.cell 0 _ rfl
                rw [hqA] at a0
                rw [hsA] at k1
                have i5 : (k : Int) < (r.sm : Int) := by omega
                have i6 : (0 : Int) ≤ (k : Int) := by omega
                have HK2 : Hid (∀ y : Int, Bmp V4 (T.setCell (ad3.add k) (.int .i64 y)) (some ad) n c l ∧ Box (T.setCell (ad3.add k) (.int .i64 y)) bx q.cells 32) := fun y => ⟨HKK.out.set k hbl hty y, int_set_other k hty _ (by decide) HXK.out⟩
                clear hsA hbl hty hoq hqA
                go_wp2_with fail
                go_roundg gi
                case measure => omega
                case rel => exact ⟨k + 1, _, rfl, by omega, by first | rfl | go_num, (HK2.out _).1, (HK2.out _).2⟩
              · obtain rfl : k = r.sm := by omega
                clear hlk
                go_wp2_with fail
                go_roundg gj
                case measure => omega
                case rel => exact ⟨j + 1, _, rfl, by omega, by first | rfl | go_num, HKK.out, HXK.out⟩
          · obtain rfl : j = q.rm := by omega
            clear hlj
            go_wp2_with fail
            go_roundg go
            case measure => omega
            case rel => exact ⟨i + 1, _, rfl, by omega, by first | rfl | go_num, HKJ.out⟩
      · obtain rfl : i = n := by omega
        clear hlt
        have HX6 := Lib.hid (HX4.out.below HK.out.bel)
        have HS6 := Lib.hid (HS3.out.below HK.out.bel)
        have HB6 := Lib.hid (below_next HB4.out HK.out.bel)
        have HC := Lib.hid (pequal_b p s W HX6.out.p.at_ HS6.out.at_ HEQ.out.1 HEQ.out.2)
        clear HX4 HB4 HS3 HK
        have a0 := HX6.out.p.c0
        have a1 := HX6.out.p.c1
        have s0 := HS6.out.c0
        have s1 := HS6.out.c1
        go_wp2_with fail
        clear a0 a1 s0 s1
        with_reducible refine HC.out.mono ?_
        rintro e W7 ⟨rfl, h7⟩
        have HX7 := Lib.hid (HX6.out.below h7.out)
        have HB7 := Lib.hid (below_next HB6.out h7.out)
        have HC := Lib.hid (moves_any x p W7 HX7.out.w.at_ HX7.out.p.at_ HCAP.out)
        clear HX6 HS6 HB6 h7
        have c0 := wbox0 HX7.out.w.box
        have c1 := wbox1 HX7.out.w.box
        have c2 := wbox2 HX7.out.w.box
        have c3 := wbox3 HX7.out.w.box
        have c4 := wbox4 HX7.out.w.box
        have a0 := HX7.out.p.c0
        have a1 := HX7.out.p.c1
        go_wp2_with fail
        clear c0 c1 c2 c3 c4 a0 a1
        with_reducible refine HC.out.mono ?_
        clear HC
        rintro e W8 ⟨A2, n2, c2, l2, rfl, h8⟩
        have HX8 := Lib.hid (HX7.out.below h8.out.1)
        have HB8 := Lib.hid (below_next HB7.out h8.out.1)
        have HQ8 := Lib.hid h8.out.2.2
        have HROW : Hid (RowsP W8 A2 l2 ∧ l2.length = n2 ∧ n2 ≤ 9223372036854775807) := by
          obtain ⟨A', c', he, h1, h2, h3, _⟩ := h8.out.2.1.row
          injection he with e1 e2 e3
          unfold maxLen at h2
          rw [e1]
          exact ⟨h3, e2.symm, by omega⟩
        have hn8 := HROW.out.2.2
        clear HX7 HB7 h8
        have hxm := HX8.out.w.at_.m2
        go_wp2_with fail
        go_loopg [69] n2 (fun gk s69 Wx => ∃ (k : Nat) (U : World), U = Wx ∧ k + gk = n2 ∧ s69 = .int .i64 k ∧ Hid (Below W8.heap.size W8 U))
        case atStart => exact ⟨0, _, rfl, by omega, rfl, Below.refl _ _⟩
        case round =>
          obtain ⟨k, U, rfl, hkg, rfl, HK⟩ := hrel
          by_cases hlk : k < n2
          · obtain ⟨go, rfl⟩ : ∃ j, gk = j + 1 := ⟨gk - 1, by omega⟩
            obtain ⟨q, hq⟩ := mlist_at l2 k (by rw [HROW.out.2.1]; exact hlk)
            have HQ := Lib.hid (HQ8.out q (List.mem_of_getElem? hq))
            obtain ⟨ad, hA, a0, a1⟩ := (HROW.out.1.below HK.out) k q hq
            have i2 : (k : Int) < (n2 : Int) := by omega
            have HKU : Hid (Below W8.heap.size W8 (U.alloc (.cells #[.slice q.rA q.rm q.rc, .slice q.uA q.um q.uc] 32))) := below_more HK.out _
            have HXU : Hid (PX (U.alloc (.cells #[.slice q.rA q.rm q.rc, .slice q.uA q.um q.uc] 32)) U.heap.size q) := PX.new (HQ.out.1.at_.below HK.out)
            have HC := Lib.hid (served_b q _ HXU.out.at_)
            obtain rfl := hA
            have r0 := HXU.out.c0
            have r1 := HXU.out.c1
            clear hq
            go_wp2_with fail
            clear r0 r1 a0 a1
            with_reducible refine HC.out.mono ?_
            clear HC
            rintro e U2 ⟨A3, c3, rfl, hc3, h3⟩
            obtain ⟨L, hL⟩ : ∃ L, (Pl.servedS (ros q.rs)).length = L := ⟨_, rfl⟩
            have HSUM : Hid (L + q.um = x.m) := by rw [← hL]; exact HQ.out.2.2
            have HLL := Lib.hid hL
            have HSV : Hid (IntsAt U2 A3 (Pl.servedS (ros q.rs))) := h3.out.2.1
            have HK2 := Lib.hid (below_next HKU.out h3.out.1)
            have HX2' := Lib.hid (HXU.out.below h3.out.1)
            have hL1 : L ≤ 1000 := by have := HSUM.out; omega
            rw [hL]
            clear h3 hL HXU HKU
            generalize hbx : U.heap.size = bx at *
            clear hbx
            go_wp2_with fail
            go_loopg [14] L (fun gk s14 Wx => ∃ (a d b : Nat), a + gk = L ∧ b = a + 1 ∧ s14 = .int .i64 (b : Int) ∧ Wx = U2.drewN d)
            case atStart => exact ⟨0, 0, 1, by omega, rfl, rfl, rfl⟩
            case round =>
              obtain ⟨a, d, b, hag, hba, rfl, rfl⟩ := hrel
              have HW : Hid (∀ j, (U2.drewN d).drewN j = U2.drewN (d + j)) := fun j => by simp
              by_cases hlb : b < L
              · obtain ⟨gi, rfl⟩ : ∃ j, gk = j + 1 := ⟨gk - 1, by omega⟩
                obtain ⟨y, hy⟩ := mlist_at (Pl.servedS (ros q.rs)) b (by rw [HLL.out]; exact hlb)
                obtain ⟨v, hv⟩ := mlist_at (Pl.servedS (ros q.rs)) a (by rw [HLL.out]; omega)
                have hne : y ≠ v := fun e => by
                  subst e
                  have := Pl.dup_at (l := Pl.servedS (ros q.rs)) (k := a) hv (by rw [← hba]; exact hy)
                  rw [HQ.out.2.1] at this
                  cases this
                have heq : (y == v) = false := beq_eq_false_iff_ne.2 hne
                obtain ⟨ad3, hA3, c5⟩ := HSV.out b y hy
                obtain ⟨ad4, hA4, c6⟩ := HSV.out a v hv
                have e4 : ad4 = ad3 := by rw [hA3] at hA4; exact (Option.some.inj hA4).symm
                subst e4
                have c7 : (U2.drewN d).cell? (ad4.add b) = some (.int .i64 y) := by simpa using c5
                have c8 : (U2.drewN d).cell? (ad4.add a) = some (.int .i64 v) := by simpa using c6
                have i5 : (b : Int) < (L : Int) := by omega
                have i6 : (0 : Int) ≤ (b : Int) := by omega
                have i7 : (a : Int) < (L : Int) := by omega
                have i8 : (0 : Int) ≤ (a : Int) := by omega
                have wr : IntKind.i64.wrap ((b : Int) - 1) = (a : Int) := by rw [IntWalk.i64_in _ (by omega)]; omega
                have wr2 : (b : Int) - 1 = (a : Int) := by omega
                have HBA := Lib.hid hba
                have HA3 := Lib.hid hA3
                clear hy hv hne c5 c6 hA3 hA4 hba
                obtain rfl := HA3.out
                generalize U2.drewN d = T at *
                go_wp2
                go_quiet (fail)
                go_wp2
                go_roundg gi
                case measure => omega
                case rel => exact ⟨a + 1, _, b + 1, by omega, by have := HBA.out; omega, by first | rfl | go_num, HW.out _⟩
              · have HBE2 : Hid (Below U2.heap.size U2 (U2.drewN d)) := drewN_below U2 d
                have HK3 := Lib.hid (below_next HK2.out HBE2.out)
                have HX3 := Lib.hid (HX8.out.below HK3.out)
                have HP3 := Lib.hid (HX2'.out.below HBE2.out)
                have r0 := HP3.out.c0
                have r1 := HP3.out.c1
                have c3 := wbox3 HX3.out.w.box
                have hum : q.um ≤ 1000 := by have := HSUM.out; omega
                have wr : IntKind.i64.wrap ((L : Int) + (q.um : Int)) = (x.m : Int) := by have := HSUM.out; rw [IntWalk.i64_in _ (by omega)]; omega
                have wr2 : (L : Int) + (q.um : Int) = (x.m : Int) := by have := HSUM.out; omega
                have d3 : ((x.m : Int) != (x.m : Int)) = false := by simp
                generalize U2.drewN d = T at *
                go_wp2_with fail
                go_roundg go
                case measure => omega
                case rel => exact ⟨k + 1, _, rfl, by omega, by first | rfl | go_num, HK3.out⟩
          · obtain rfl : k = n2 := by omega
            go_wp2_with fail
            go_ret
            exact ⟨rfl, below_next HB8.out HK.out⟩

set_option maxRecDepth 100000 in
theorem lifted (os : Os) (started : os.Started) (H : Type) (enc : TypeId × Value → H) :
    ReturnsInHanded {} Tryz.checked os 6 .any (Rows.betterOwnSpec.pre6 enc Tryz.prog Tryz.f6 Rows.betterOwnRow.domain false) (Rows.betterOwnSpec.post enc Tryz.prog Tryz.f6 false true false false) := by
  refine returnsInHanded_of_change_sized (C := Tryz.checked) own started (by kernel_rfl) Tryz.func6
    (ChangeSpec.witness6 (enc := enc) (C := Tryz.checked) false ⟨#[], #[.agg #[.int .i64 0, .slice none 0 0, .slice none 0 0, .slice none 0 0, .slice none 0 0], .agg #[.slice none 0 0, .slice none 0 0]], []⟩ 8 (by kernel_rfl) (by kernel_rfl) (by kernel_rfl) (by kernel_rfl)) ?_
  intro W base args ds gs before hval0 hW _ hsz0 _
  have hsz : (DataW.weightsEach Tryz.prog (Tryz.f6.params.toList ++ Rows.betterOwnSpec.plain.varTypes Tryz.prog) (ds ++ gs)).all (· ≤ reachBytes) = true := hsz0
  have hval : ∀ (j : Nat) t v, Tryz.f6.params[j]? = some t → args[j]? = some v → Value.okWide Tryz.prog W .any base t v := hval0
  have hW' := hW
  obtain ⟨p, q, hA0, hV, rfl, hfz, hnd⟩ := hW
  have hA : DataW.TrodAll enc Tryz.prog W 0 (fun _ => true) true Tryz.f6.params.toList args.toList ds p := hA0
  rw [Tryz.params6] at hA hval hsz
  obtain ⟨v0, vs0, d0, ds0, p0, q0, hargs, rfl, rfl, h0, r0⟩ := trodAll_cons hA
  obtain ⟨v1, vs1, d1, ds1, p1, q1, rfl, rfl, rfl, h1, r1⟩ := trodAll_cons r0
  obtain ⟨rfl, rfl, rfl⟩ := trodAll_nil r1
  obtain rfl : args = #[v0, v1] := by cases args; simp_all
  obtain ⟨rfl, rfl⟩ := trodVars_none hV
  have k0 := h0
  have lt0 : ∀ x ∈ p0, x.block < W.heap.size := by obtain ⟨m, hm⟩ := k0; exact DataW.trod_lt m _ _ _ hm
  obtain ⟨x0, rfl, hv0⟩ := open_world_in (hval 0 28 v0 rfl rfl) h0
  have k1 := h1
  have lt1 : ∀ x ∈ p1, x.block < W.heap.size := by obtain ⟨m, hm⟩ := k1; exact DataW.trod_lt m _ _ _ hm
  obtain ⟨x1, rfl, hv1, hw1⟩ := open_plan_in (hval 1 32 v1 rfl rfl) h1
  have hs1 : Few x1 := fun r hr => by
    have hsc := (hv1.ra r hr).sc
    rcases hw1 r hr with h0 | hin
    · omega
    · have := List.all_eq_true.1 hsz _ (DataW.weights_mem_each (j := 1) (t := 32) (d := d1) rfl rfl _ hin)
      have h2 : r.sc * 8 ≤ reachBytes := by simpa using this
      have h3 := reachBytes_lt
      omega
  clear hA0 hval0
  refine (walk x0 hv0 x1 hv1 hs1).mono fun e W' ⟨he, bel⟩ => ?_
  subst he
  exact ⟨_, rfl, _, _, _, [], _, [], hW', trodAll_mk1 (shut_bool Tryz.underlying4 _), (trodAll_cons_mk (Below.trod laidOut (by kernel_rfl) (of_decide_eq_true (by kernel_rfl)) k0 bel lt0) (trodAll_cons_mk (Below.trod laidOut (by kernel_rfl) (of_decide_eq_true (by kernel_rfl)) k1 bel lt1) trodAll_mk0)), rfl, bel.frame _, fun h => by cases h⟩

theorem over : Rows.betterOwnRow.holds Tryz.pinned (OpenSpec.ofChange Rows.betterOwnSpec) :=
  OpenClaim.holds_of_wide 6 Tryz.f6 rfl rfl rfl rfl rfl rfl rfl ⟨rfl, rfl, rfl, rfl, rfl⟩ rfl rfl rfl rfl rfl (by kernel_rfl) Tryz.func6 (by kernel_rfl)
    (of_decide_eq_true (by kernel_rfl)) (by unfold Func.isWrapper; first | (rw [if_pos (by decide +kernel)]; kernel_rfl) | (rw [if_neg (by decide +kernel)]; exact ⟨rfl, rfl⟩))
    (fun os started H enc _ => lifted os started H enc)

theorem proved : Rows.BetterOwnSaid := over
end Go.Proofs.YtgjmlnpfkmpfgaaGreat.betterOwn
