/- Every call of the law that what is saved by joining two rows is what their tours are longer than that of the joined one answers true: for every world, two rows and truck. No conditions. -/
import Derived.Test.YtjidelfpmlnhkaaGreatRows
import Derived.Test.YtjidelfpmlnhkaaGreatSavAw
import Derived.Test.YtjidelfpmlnhkaaGreatSavSumW
import Derived.WalkKit
import Derived.ProofKit
import Derived.OpenShut
import Derived.ShutString
import Derived.ChangeOld
import Derived.Below
import Derived.SizedLaws
namespace Go.Proofs.YtjidelfpmlnhkaaGreat.savingsSums
open Go.ChangeShapes Go.WideShapes Go.ChangeAt Go.RowKit
open Go.ChangeMaps (open_string shut_string)
set_option linter.unusedVariables false

theorem own : ownKnob Tryz.prog.godebug = none := by kernel_rfl
theorem laidOut : laidOutB Tryz.prog = true := by kernel_rfl

set_option maxRecDepth 100000 in
set_option maxHeartbeats 16000000 in
theorem walk {w : World} (x : Wd) (hx : WorldIn w x) (A : Option Addr) (n c : Nat) (l : List Int) (hl : l.length = n) (hlc : n ≤ c) (hsl : c ≤ 140737488355328) (hvl : IntsAt w A l) (B : Option Addr) (m d : Nat) (k : List Int) (hk : k.length = m) (hkc : m ≤ d) (hsk : d ≤ 140737488355328) (hvk : IntsAt w B k) (tr : Int) (htr : Lit.wf (.int .i64 tr) = true) :
    Calls Tryz.prog 6 #[.agg #[.int .i64 x.N, .slice x.dA x.dm x.dc, .slice x.tA x.tm x.tc, .slice x.A x.m x.c, .slice x.B x.k x.d], .slice A n c, .slice B m d, .int .i64 tr] w fun e w' => e = .returned (.bool true) ∧ Below w.heap.size w w' := by
  have HB0 : Hid (Below w.heap.size w (w.alloc (.cells #[.int .i64 x.N, .slice x.dA x.dm x.dc, .slice x.tA x.tm x.tc, .slice x.A x.m x.c, .slice x.B x.k x.d] 28))) := below_alloc _ _
  have HX : Hid (Box (w.alloc (.cells #[.int .i64 x.N, .slice x.dA x.dm x.dc, .slice x.tA x.tm x.tc, .slice x.A x.m x.c, .slice x.B x.k x.d] 28)) w.heap.size x.cells 28) := Box.new w _ _
  have HWI := Lib.hid hx
  have HVL : Hid (IntsAt w A l) := hvl
  have HVK : Hid (IntsAt w B k) := hvk
  have HLL := Lib.hid hl
  have HLK := Lib.hid hk
  have hn47 : n ≤ 140737488355328 := Nat.le_trans hlc hsl
  have hm47 : m ≤ 140737488355328 := Nat.le_trans hkc hsk
  have wr : IntKind.i64.wrap ((n : Int) + (m : Int)) = (n : Int) + (m : Int) := by rw [IntKind.wrap_i64]; omega
  clear hx hvl hvk hl hk hlc hkc hsl hsk
  go_enter Tryz.func6, Tryz.ntmps6
  go_wp2_with fail
  generalize (w.alloc (.cells #[.int .i64 x.N, .slice x.dA x.dm x.dc, .slice x.tA x.tm x.tc, .slice x.A x.m x.c, .slice x.B x.k x.d] 28)) = V at *
  generalize hb1 : w.heap.size = b1 at HX ⊢
  clear hb1
  with_reducible refine (awake_any _).mono ?_
  rintro e V1 ⟨rfl, hv1⟩
  have HX1 : Hid (Box V1 b1 x.cells 28) := HX.out.below hv1
  have HB1 := Lib.hid (below_next HB0.out hv1)
  have HW1 : Hid (WorldIn V1 x) := HWI.out.below HB1.out
  clear hv1 HX HB0
  have c0 := HX1.out.cell 0 _ rfl
  have c1 := HX1.out.cell 1 _ rfl
  have c2 := HX1.out.cell 2 _ rfl
  have c3 := HX1.out.cell 3 _ rfl
  have c4 := HX1.out.cell 4 _ rfl
  by_cases hl : Large x (rz (n + m))
  · have HC : Hid (∀ W, Calls Tryz.prog 8 #[.agg #[.int .i64 x.N, .slice x.dA x.dm x.dc, .slice x.tA x.tm x.tc, .slice x.A x.m x.c, .slice x.B x.k x.d], .int .i64 ((n : Int) + (m : Int))] W fun e w' => e = .returned (.bool true) ∧ Hid (Below W.heap.size W w')) := fun W => large_yes x (rz (n + m)) W HW1.out.mx HW1.out.kx HW1.out.dx HW1.out.tx (by show n + m ≤ maxLen; unfold maxLen; omega) hl
    clear hl
    go_wp2_with fail
    refine (HC.out _).mono ?_
    rintro e V2 ⟨rfl, hv2⟩
    go_wp2
    go_ret
    exact ⟨rfl, below_next HB1.out hv2.out⟩
  · have HC : Hid (∀ W, Calls Tryz.prog 8 #[.agg #[.int .i64 x.N, .slice x.dA x.dm x.dc, .slice x.tA x.tm x.tc, .slice x.A x.m x.c, .slice x.B x.k x.d], .int .i64 ((n : Int) + (m : Int))] W fun e w' => e = .returned (.bool false) ∧ Hid (Below W.heap.size W w')) := fun W => large_no x (rz (n + m)) W hl
    have HAT := Lib.hid (HW1.out.at_ hl)
    have HNL := Lib.hid hl
    clear hl
    go_wp2_with fail
    refine (HC.out _).mono ?_
    rintro e V2 ⟨rfl, hv2⟩
    have HX2 : Hid (WX V2 b1 x) := ⟨HX1.out.below hv2.out, HAT.out.below hv2.out⟩
    have HB2 := Lib.hid (below_next HB1.out hv2.out)
    clear c0 c1 c2 c3 c4 hv2 HX1 HB1 HW1 HAT HC
    have hn100 : n + m ≤ 100 := by
      have h := HNL.out
      unfold Large at h
      have h2 : ¬ 100 < n + m := fun e => h (.inr (.inr (.inr (.inr e))))
      omega
    clear HNL hn47 hm47 wr
    obtain ⟨r1, hr1⟩ : ∃ r, Rt.runS x.N x.D x.T x.os x.ts tr l = r := ⟨_, rfl⟩
    have HR1 := Lib.hid hr1
    have HC := Lib.hid (run_b x ⟨tr, A, n, c, l⟩ V2 r1 hr1 HX2.out.at_ ⟨HLL.out, by show n ≤ 1000; omega, HVL.out.below HB2.out⟩)
    clear hr1
    have x0 := HX2.out.c0
    have x1 := HX2.out.c1
    have x2 := HX2.out.c2
    have x3 := HX2.out.c3
    have x4 := HX2.out.c4
    go_wp2_with fail
    clear x0 x1 x2 x3 x4
    with_reducible refine HC.out.mono ?_
    rintro e U1 ⟨tA1, tc1, rfl, h1⟩
    have HX3 := Lib.hid ((HX2.out.below h1.out.1).below (below_alloc U1 (.cells #[.slice tA1 r1.vs.length tc1, .int .i64 r1.back, .int .i64 r1.dist, .int .i64 r1.cost] 54)))
    have HB3 := Lib.hid (below_more (below_next HB2.out h1.out.1) (.cells #[.slice tA1 r1.vs.length tc1, .int .i64 r1.back, .int .i64 r1.dist, .int .i64 r1.cost] 54))
    have HT1 : Hid (Box (U1.alloc (.cells #[.slice tA1 r1.vs.length tc1, .int .i64 r1.back, .int .i64 r1.dist, .int .i64 r1.cost] 54)) U1.heap.size #[.slice tA1 r1.vs.length tc1, .int .i64 r1.back, .int .i64 r1.dist, .int .i64 r1.cost] 54) := Box.new _ _ _
    clear h1 HC HX2 HB2
    generalize hV3 : U1.alloc (.cells #[.slice tA1 r1.vs.length tc1, .int .i64 r1.back, .int .i64 r1.dist, .int .i64 r1.cost] 54) = V3 at HX3 HB3 HT1
    generalize hq1 : U1.heap.size = q1 at HT1
    obtain ⟨r2, hr2⟩ : ∃ r, Rt.runS x.N x.D x.T x.os x.ts tr k = r := ⟨_, rfl⟩
    have HR2 := Lib.hid hr2
    have HC := Lib.hid (run_b x ⟨tr, B, m, d, k⟩ V3 r2 hr2 HX3.out.at_ ⟨HLK.out, by show m ≤ 1000; omega, HVK.out.below HB3.out⟩)
    clear hr2
    have x0 := HX3.out.c0
    have x1 := HX3.out.c1
    have x2 := HX3.out.c2
    have x3 := HX3.out.c3
    have x4 := HX3.out.c4
    go_wp2_with fail
    (try simp only [hV3, hq1])
    clear hV3 hq1
    clear x0 x1 x2 x3 x4
    with_reducible refine HC.out.mono ?_
    rintro e U2 ⟨tA2, tc2, rfl, h2⟩
    have HX4 := Lib.hid ((HX3.out.below h2.out.1).below (below_alloc U2 (.cells #[.slice tA2 r2.vs.length tc2, .int .i64 r2.back, .int .i64 r2.dist, .int .i64 r2.cost] 54)))
    have HB4 := Lib.hid (below_more (below_next HB3.out h2.out.1) (.cells #[.slice tA2 r2.vs.length tc2, .int .i64 r2.back, .int .i64 r2.dist, .int .i64 r2.cost] 54))
    have HT2 : Hid (Box (U2.alloc (.cells #[.slice tA2 r2.vs.length tc2, .int .i64 r2.back, .int .i64 r2.dist, .int .i64 r2.cost] 54)) U2.heap.size #[.slice tA2 r2.vs.length tc2, .int .i64 r2.back, .int .i64 r2.dist, .int .i64 r2.cost] 54) := Box.new _ _ _
    have HT1n := Lib.hid ((HT1.out.below h2.out.1).below (below_alloc U2 (.cells #[.slice tA2 r2.vs.length tc2, .int .i64 r2.back, .int .i64 r2.dist, .int .i64 r2.cost] 54)))
    clear HT1
    have HT1 := Lib.hid HT1n.out
    clear HT1n
    clear h2 HC HX3 HB3
    generalize hV4 : U2.alloc (.cells #[.slice tA2 r2.vs.length tc2, .int .i64 r2.back, .int .i64 r2.dist, .int .i64 r2.cost] 54) = V4 at HX4 HB4 HT1 HT2
    generalize hq2 : U2.heap.size = q2 at HT2
    have HV4L : Hid (IntsAt V4 A l) := HVL.out.below HB4.out
    have HV4K : Hid (IntsAt V4 B k) := HVK.out.below HB4.out
    obtain ⟨r3, hr3⟩ : ∃ r, Rt.runS x.N x.D x.T x.os x.ts tr (l ++ k) = r := ⟨_, rfl⟩
    have HR3 := Lib.hid hr3
    have HLAP : Hid ((l ++ k).length = n + m) := by unfold Hid; rw [List.length_append, HLL.out, HLK.out]
    have HRUN : Hid (∀ xb U A' c', QI V4 xb (l ++ k) (.slice A' (n + m) c') U → Calls Tryz.prog 21 #[.agg #[.int .i64 x.N, .slice x.dA x.dm x.dc, .slice x.tA x.tm x.tc, .slice x.A x.m x.c, .slice x.B x.k x.d], .agg #[.int .i64 tr, .slice A' (n + m) c']] U fun e U' => ∃ tA tc, e = .returned (.tuple #[.agg #[.slice tA r3.vs.length tc, .int .i64 r3.back, .int .i64 r3.dist, .int .i64 r3.cost], .int .i64 r3.e]) ∧ Hid (TP V4 xb U')) := fun xb U A' c' h => by
      obtain ⟨A2, c2, e, _, _, hi⟩ := h.own.ints
      injection e with e1 _ _
      subst e1
      refine (run_b x ⟨tr, A', n + m, c', l ++ k⟩ U r3 hr3 (HX4.out.below h.bel).at_ ⟨HLAP.out, by show n + m ≤ 1000; omega, hi⟩).mono ?_
      rintro e U' ⟨tA, tc, rfl, h2⟩
      exact ⟨tA, tc, rfl, below_next h.bel h2.out.1, fun q e => ⟨(h.box q e).1, (h.box q e).2.below h2.out.1⟩⟩
    have HA1 := Lib.hid ((QI.a V4).app rfl A n c l HLL.out HV4L.out (by omega))
    have HB1' := Lib.hid ((QI.b V4).app rfl A n c l HLL.out HV4L.out (by omega))
    have HC1 := Lib.hid ((QI.c V4).app rfl A n c l HLL.out HV4L.out (by omega))
    simp only [Nat.zero_add, List.nil_append] at HA1 HB1' HC1
    have HAPP : Hid (∀ xb U A' c', QI V4 xb l (.slice A' n c') U → ∃ v' w', (Builtin.append_ #[29, 29] 29 #[.slice A' n c', .slice B m d]).run Tryz.prog U = .ok v' w' ∧ ∃ A2 c2, v' = .slice A2 (n + m) c2 ∧ Hid (QI V4 xb (l ++ k) (.slice A2 (n + m) c2) w')) := fun xb U A' c' h => h.app HLL.out B m d k HLK.out HV4K.out (by omega)
    have HY : Hid (∀ U, Below V4.heap.size V4 U → U.cell? ⟨b1, 0, none⟩ = some (.int .i64 x.N) ∧ U.cell? ⟨b1, 1, none⟩ = some (.slice x.dA x.dm x.dc) ∧ U.cell? ⟨b1, 2, none⟩ = some (.slice x.tA x.tm x.tc) ∧ U.cell? ⟨b1, 3, none⟩ = some (.slice x.A x.m x.c) ∧ U.cell? ⟨b1, 4, none⟩ = some (.slice x.B x.k x.d)) := fun U hU => ⟨(HX4.out.below hU).c0, (HX4.out.below hU).c1, (HX4.out.below hU).c2, (HX4.out.below hU).c3, (HX4.out.below hU).c4⟩
    clear hr3 HVL HVK
    go_upto_region 7 with fail
    (try simp only [hV4, hq2])
    clear hV4 hq2
    go_cut [13, 14] (fun s13 s14 W => ∃ V5 : World, V5 = W ∧ s14 = .int .i64 r3.e ∧ TBox V4 r3 s13 V5)
    case first => as_aux_lemma =>
      obtain ⟨ya0, ya1, ya2, ya3, ya4⟩ := HY.out V4 (Below.refl _ _)
      obtain ⟨yb0, yb1, yb2, yb3, yb4⟩ := HY.out (V4.alloc (.cells #[] 3)) (below_alloc _ _)
      obtain ⟨yc0, yc1, yc2, yc3, yc4⟩ := HY.out ((V4.alloc (.cells #[] 3)).alloc (.cells #[.slice none 0 0, .int .i64 0, .int .i64 0, .int .i64 0] 54)) (below_more (below_alloc _ _) _)
      obtain ⟨yd0, yd1, yd2, yd3, yd4⟩ := HY.out (V4.alloc (.cells #[.slice none 0 0, .int .i64 0, .int .i64 0, .int .i64 0] 54)) (below_alloc _ _)
      obtain ⟨ye0, ye1, ye2, ye3, ye4⟩ := HY.out ((V4.alloc (.cells #[.slice none 0 0, .int .i64 0, .int .i64 0, .int .i64 0] 54)).alloc (.cells #[] 3)) (below_more (below_alloc _ _) _)
      go_region_law (first
        | (refine step_append_w (w5.alloc (.cells #[.slice none 0 0, .int .i64 0, .int .i64 0, .int .i64 0] 54)) (by with_reducible rfl) (by rfl) (.tmp 47) (.tmp 48) 29 29 29 (by rfl) (by rfl) (.slice A5 n c5) (.slice B m d) (by rfl) (by rfl) _ HA2b.out ?_
           rintro v2 w6 ⟨A6, c6, rfl, HF⟩
           obtain ⟨yh0, yh1, yh2, yh3, yh4⟩ := HY.out w6 HF.out.bel)
        | (refine step_append_w w5 (by with_reducible rfl) (by rfl) (.tmp 47) (.tmp 48) 29 29 29 (by rfl) (by rfl) (.slice A5 n c5) (.slice B m d) (by rfl) (by rfl) _ HA2a.out ?_
           rintro v2 w6 ⟨A6, c6, rfl, HF⟩
           obtain ⟨yh0, yh1, yh2, yh3, yh4⟩ := HY.out w6 HF.out.bel
           obtain ⟨yi0, yi1, yi2, yi3, yi4⟩ := HY.out (w6.alloc (.cells #[.slice none 0 0, .int .i64 0, .int .i64 0, .int .i64 0] 54)) HF.out.late.bel)
        | (refine step_append_w w5 (by with_reducible rfl) (by rfl) (.tmp 47) (.tmp 48) 29 29 29 (by rfl) (by rfl) (.slice A5 n c5) (.slice B m d) (by rfl) (by rfl) _ HA2s.out ?_
           rintro v2 w6 ⟨A6, c6, rfl, HF⟩
           obtain ⟨yh0, yh1, yh2, yh3, yh4⟩ := HY.out w6 HF.out.bel)
        | (refine step_append_w ((V4.alloc (.cells #[] 3)).drew) (by with_reducible rfl) (by rfl) (.tmp 45) (.tmp 46) 29 29 29 (by rfl) (by rfl) (.slice (some ⟨V4.heap.size, 0, none⟩) 0 0) (.slice A n c) (by rfl) (by rfl) _ HA1.out ?_
           rintro v1 w5 ⟨A5, c5, rfl, HF1⟩
           have HA2a := Lib.hid (HAPP.out _ _ _ _ HF1.out)
           have HA2b := Lib.hid (HAPP.out _ _ _ _ HF1.out.late)
           obtain ⟨yf0, yf1, yf2, yf3, yf4⟩ := HY.out w5 HF1.out.bel
           obtain ⟨yg0, yg1, yg2, yg3, yg4⟩ := HY.out (w5.alloc (.cells #[.slice none 0 0, .int .i64 0, .int .i64 0, .int .i64 0] 54)) HF1.out.late.bel)
        | (refine step_append_w (((V4.alloc (.cells #[] 3)).alloc (.cells #[.slice none 0 0, .int .i64 0, .int .i64 0, .int .i64 0] 54)).drew) (by with_reducible rfl) (by rfl) (.tmp 45) (.tmp 46) 29 29 29 (by rfl) (by rfl) (.slice (some ⟨V4.heap.size, 0, none⟩) 0 0) (.slice A n c) (by rfl) (by rfl) _ HB1'.out ?_
           rintro v1 w5 ⟨A5, c5, rfl, HF1⟩
           have HA2s := Lib.hid (HAPP.out _ _ _ _ HF1.out)
           obtain ⟨yf0, yf1, yf2, yf3, yf4⟩ := HY.out w5 HF1.out.bel)
        | (refine step_append_w (((V4.alloc (.cells #[.slice none 0 0, .int .i64 0, .int .i64 0, .int .i64 0] 54)).alloc (.cells #[] 3)).drew) (by with_reducible rfl) (by rfl) (.tmp 45) (.tmp 46) 29 29 29 (by rfl) (by rfl) (.slice (some ⟨V4.heap.size + 1, 0, none⟩) 0 0) (.slice A n c) (by rfl) (by rfl) _ HC1.out ?_
           rintro v1 w5 ⟨A5, c5, rfl, HF1⟩
           have HA2s := Lib.hid (HAPP.out _ _ _ _ HF1.out)
           obtain ⟨yf0, yf1, yf2, yf3, yf4⟩ := HY.out w5 HF1.out.bel)
        | (go_simp; go_at_call 21
           first
            | (with_reducible refine (HRUN.out _ (w6.alloc (.cells #[.slice none 0 0, .int .i64 0, .int .i64 0, .int .i64 0] 54)) A6 c6 HF.out.late).mono ?_
               rintro e w7 ⟨tA, tc, rfl, HTP⟩
               have z0 := (HTP.out.box _ rfl).2.cell 0 _ rfl
               have z1 := (HTP.out.box _ rfl).2.cell 1 _ rfl
               have z2 := (HTP.out.box _ rfl).2.cell 2 _ rfl
               have z3 := (HTP.out.box _ rfl).2.cell 3 _ rfl
               have g0 := (HTP.out.box _ rfl).2.fz 0
               have g1 := (HTP.out.box _ rfl).2.fz 1
               have g2 := (HTP.out.box _ rfl).2.fz 2
               have g3 := (HTP.out.box _ rfl).2.fz 3)
            | (with_reducible refine (HRUN.out (some _) w6 A6 c6 HF.out).mono ?_
               rintro e w7 ⟨tA, tc, rfl, HTP⟩
               have z0 := (HTP.out.box _ rfl).2.cell 0 _ rfl
               have z1 := (HTP.out.box _ rfl).2.cell 1 _ rfl
               have z2 := (HTP.out.box _ rfl).2.cell 2 _ rfl
               have z3 := (HTP.out.box _ rfl).2.cell 3 _ rfl
               have g0 := (HTP.out.box _ rfl).2.fz 0
               have g1 := (HTP.out.box _ rfl).2.fz 1
               have g2 := (HTP.out.box _ rfl).2.fz 2
               have g3 := (HTP.out.box _ rfl).2.fz 3)
            | (with_reducible refine (HRUN.out none w6 A6 c6 HF.out).mono ?_
               rintro e w7 ⟨tA, tc, rfl, HTP⟩)))
      all_goals
        go_wp2_with fail
        go_meet
        case rel =>
          refine ⟨_, rfl, rfl, ?_⟩
          first
            | with_reducible exact HTP.out.new
            | with_reducible exact HTP.out.put
    case rest => as_aux_lemma =>
      obtain ⟨V5, rfl, rfl, q3, tA3, tc3, rfl, HTB⟩ := hcut
      clear HA1 HB1' HC1 HAPP HY HRUN
      have HX5 := Lib.hid (HX4.out.below HTB.out.2)
      have HB5 := Lib.hid (below_next HB4.out HTB.out.2)
      have HT1' := Lib.hid (HT1.out.below HTB.out.2)
      have HT2' := Lib.hid (HT2.out.below HTB.out.2)
      have HT3 := Lib.hid HTB.out.1
      have HL5 : Hid (IntsAt V5 A l) := HV4L.out.below HTB.out.2
      have HK5 : Hid (IntsAt V5 B k) := HV4K.out.below HTB.out.2
      clear HTB HX4 HB4 HT1 HT2 HV4L HV4K
      obtain ⟨vs1, bk1, di1, co1, f1⟩ := r1
      obtain ⟨vs2, bk2, di2, co2, f2⟩ := r2
      obtain ⟨vs3, bk3, di3, co3, f3⟩ := r3
      simp only at *
      by_cases hf1 : f1 = 0
      · subst hf1
        have e1 : ((0 : Int) != (0 : Int)) = false := by decide
        by_cases hf2 : f2 = 0
        · subst hf2
          by_cases hf3 : f3 = 0
          · subst hf3
            obtain ⟨hs, b1, b2, b3, b4, b5, b6⟩ := sums_of (N := x.N) (D := x.D) (T := x.T) (os := x.os) (ts := x.ts) (tr := tr) (a := l) (b := k) (by rw [HR1.out]) (by rw [HR2.out]) (by rw [HR3.out])
            rw [HR1.out, HR2.out, HR3.out] at hs
            rw [HR1.out] at b1 b2
            rw [HR2.out] at b3 b4
            rw [HR3.out] at b5 b6
            simp only at hs b1 b2 b3 b4 b5 b6
            have HC := Lib.hid (saved_b x A n c l B m d k V5 (di1 + di2 - di3, 0) hs HX5.out.at_ HLL.out (by omega) HL5.out HLK.out (by omega) HK5.out)
            have wr1 : IntKind.i64.wrap (di1 + di2) = di1 + di2 := by rw [IntKind.wrap_i64]; omega
            have wr2 : IntKind.i64.wrap (di1 + di2 - di3) = di1 + di2 - di3 := by rw [IntKind.wrap_i64]; omega
            have e2 : (di1 + di2 - di3 == di1 + di2 - di3) = true := by simp
            have e4 : ((0 : Int) == (0 : Int)) = true := by decide
            clear hs
            have x0 := HX5.out.c0
            have x1 := HX5.out.c1
            have x2 := HX5.out.c2
            have x3 := HX5.out.c3
            have x4 := HX5.out.c4
            go_wp2_with fail
            clear x0 x1 x2 x3 x4
            with_reducible refine HC.out.mono ?_
            rintro e V6 ⟨rfl, h6⟩
            have t1 := (HT1'.out.below h6.out).cell 2 _ rfl
            have t2 := (HT2'.out.below h6.out).cell 2 _ rfl
            have t3 := (HT3.out.below h6.out).cell 2 _ rfl
            have HB6 := Lib.hid (below_next HB5.out h6.out)
            go_wp2
            go_ret
            exact ⟨rfl, HB6.out⟩
          · have e3 : (f3 != (0 : Int)) = true := bne_iff_ne.2 hf3
            go_wp2
            go_ret
            exact ⟨rfl, HB5.out⟩
        · have e2 : (f2 != (0 : Int)) = true := bne_iff_ne.2 hf2
          go_wp2
          go_ret
          exact ⟨rfl, HB5.out⟩
      · have e1 : (f1 != (0 : Int)) = true := bne_iff_ne.2 hf1
        go_wp2
        go_ret
        exact ⟨rfl, HB5.out⟩

set_option maxRecDepth 100000 in
theorem lifted (os : Os) (started : os.Started) (H : Type) (enc : TypeId × Value → H) :
    ReturnsInHanded {} Tryz.checked os 6 .any (Rows.savingsSumsSpec.pre6 enc Tryz.prog Tryz.f6 Rows.savingsSumsRow.domain false) (Rows.savingsSumsSpec.post enc Tryz.prog Tryz.f6 false true false false) := by
  refine returnsInHanded_of_change_sized (C := Tryz.checked) own started (by kernel_rfl) Tryz.func6
    (ChangeSpec.witness6 (enc := enc) (C := Tryz.checked) false ⟨#[], #[.agg #[.int .i64 0, .slice none 0 0, .slice none 0 0, .slice none 0 0, .slice none 0 0], .slice none 0 0, .slice none 0 0, .int .i64 0], []⟩ 8 (by kernel_rfl) (by kernel_rfl) (by kernel_rfl) (by kernel_rfl)) ?_
  intro W base args ds gs before hval0 hW _ hsz0 _
  have hsz : (DataW.weightsEach Tryz.prog (Tryz.f6.params.toList ++ Rows.savingsSumsSpec.plain.varTypes Tryz.prog) (ds ++ gs)).all (· ≤ reachBytes) = true := hsz0
  have hval : ∀ (j : Nat) t v, Tryz.f6.params[j]? = some t → args[j]? = some v → Value.okWide Tryz.prog W .any base t v := hval0
  have hW' := hW
  obtain ⟨p, q, hA0, hV, rfl, hfz, hnd⟩ := hW
  have hA : DataW.TrodAll enc Tryz.prog W 0 (fun _ => true) true Tryz.f6.params.toList args.toList ds p := hA0
  rw [Tryz.params6] at hA hval hsz
  obtain ⟨v0, vs0, d0, ds0, p0, q0, hargs, rfl, rfl, h0, r0⟩ := trodAll_cons hA
  obtain ⟨v1, vs1, d1, ds1, p1, q1, rfl, rfl, rfl, h1, r1⟩ := trodAll_cons r0
  obtain ⟨v2, vs2, d2, ds2, p2, q2, rfl, rfl, rfl, h2, r2⟩ := trodAll_cons r1
  obtain ⟨v3, vs3, d3, ds3, p3, q3, rfl, rfl, rfl, h3, r3⟩ := trodAll_cons r2
  obtain ⟨rfl, rfl, rfl⟩ := trodAll_nil r3
  obtain rfl : args = #[v0, v1, v2, v3] := by cases args; simp_all
  obtain ⟨rfl, rfl⟩ := trodVars_none hV
  have k0 := h0
  have lt0 : ∀ x ∈ p0, x.block < W.heap.size := by obtain ⟨m, hm⟩ := k0; exact DataW.trod_lt m _ _ _ hm
  obtain ⟨x0, rfl, hv0⟩ := open_world_in (hval 0 28 v0 rfl rfl) h0
  have k1 := h1
  have lt1 : ∀ x ∈ p1, x.block < W.heap.size := by obtain ⟨m, hm⟩ := k1; exact DataW.trod_lt m _ _ _ hm
  obtain ⟨a1, len1, cap1, l1, rfl, hl1, hlc1, hw1, hv1⟩ := open_nodes_w (hval 1 29 v1 rfl rfl) h1
  have hs1 : cap1 ≤ 140737488355328 := by
    rcases hw1 with h0 | hin
    · omega
    · have := List.all_eq_true.1 hsz _ (DataW.weights_mem_each (j := 1) (t := 29) (d := d1) rfl rfl _ hin)
      have h2 : cap1 * 8 ≤ reachBytes := by simpa using this
      have h3 := reachBytes_lt
      omega
  have k2 := h2
  have lt2 : ∀ x ∈ p2, x.block < W.heap.size := by obtain ⟨m, hm⟩ := k2; exact DataW.trod_lt m _ _ _ hm
  obtain ⟨a2, len2, cap2, l2, rfl, hl2, hlc2, hw2, hv2⟩ := open_nodes_w (hval 2 29 v2 rfl rfl) h2
  have hs2 : cap2 ≤ 140737488355328 := by
    rcases hw2 with h0 | hin
    · omega
    · have := List.all_eq_true.1 hsz _ (DataW.weights_mem_each (j := 2) (t := 29) (d := d2) rfl rfl _ hin)
      have h2 : cap2 * 8 ≤ reachBytes := by simpa using this
      have h3 := reachBytes_lt
      omega
  obtain ⟨a3, rfl, rfl, rfl, w3⟩ := open_int Tryz.underlying3 (hval 3 3 v3 rfl rfl) h3
  clear hA0 hval0
  refine (walk x0 hv0 a1 len1 cap1 l1 hl1 hlc1 hs1 hv1 a2 len2 cap2 l2 hl2 hlc2 hs2 hv2 a3 w3).mono fun e W' ⟨he, bel⟩ => ?_
  subst he
  exact ⟨_, rfl, _, _, _, [], _, [], hW', trodAll_mk1 (shut_bool Tryz.underlying4 _), (trodAll_cons_mk (Below.trod laidOut (by kernel_rfl) (of_decide_eq_true (by kernel_rfl)) k0 bel lt0) (trodAll_cons_mk (Below.trod laidOut (by kernel_rfl) (of_decide_eq_true (by kernel_rfl)) k1 bel lt1) (trodAll_cons_mk (Below.trod laidOut (by kernel_rfl) (of_decide_eq_true (by kernel_rfl)) k2 bel lt2) (trodAll_cons_mk (shut_int Tryz.underlying3 w3) trodAll_mk0)))), rfl, bel.frame _, fun h => by cases h⟩

theorem over : Rows.savingsSumsRow.holds Tryz.pinned (OpenSpec.ofChange Rows.savingsSumsSpec) :=
  OpenClaim.holds_of_wide 6 Tryz.f6 rfl rfl rfl rfl rfl rfl rfl ⟨rfl, rfl, rfl, rfl, rfl⟩ rfl rfl rfl rfl rfl (by kernel_rfl) Tryz.func6 (by kernel_rfl)
    (of_decide_eq_true (by kernel_rfl)) (by unfold Func.isWrapper; first | (rw [if_pos (by decide +kernel)]; kernel_rfl) | (rw [if_neg (by decide +kernel)]; exact ⟨rfl, rfl⟩))
    (fun os started H enc _ => lifted os started H enc)

theorem proved : Rows.SavingsSumsSaid := over
end Go.Proofs.YtjidelfpmlnhkaaGreat.savingsSums
