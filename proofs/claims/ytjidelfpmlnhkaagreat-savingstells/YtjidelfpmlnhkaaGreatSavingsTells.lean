/- Every call of the law that what is saved by joining two rows, the rows of a world and its first plan are as the document says answers true: for every world and two rows. No conditions. -/
import Derived.Test.YtjidelfpmlnhkaaGreatRows
import Derived.Test.YtjidelfpmlnhkaaGreatSavAw
import Derived.Test.YtjidelfpmlnhkaaGreatSavDg
import Derived.WalkKit
import Derived.ProofKit
import Derived.OpenShut
import Derived.ShutString
import Derived.ChangeOld
import Derived.Below
import Derived.SizedLaws
namespace Go.Proofs.YtjidelfpmlnhkaaGreat.savingsTells
open Go.ChangeShapes Go.WideShapes Go.ChangeAt Go.RowKit
open Go.ChangeMaps (open_string shut_string)
set_option linter.unusedVariables false

theorem own : ownKnob Tryz.prog.godebug = none := by kernel_rfl
theorem laidOut : laidOutB Tryz.prog = true := by kernel_rfl

set_option maxRecDepth 100000 in
set_option maxHeartbeats 16000000 in
theorem walk {w : World} (x : Wd) (hx : WorldIn w x) (A : Option Addr) (n c : Nat) (l : List Int) (hl : l.length = n) (hlc : n ≤ c) (hsl : c ≤ 140737488355328) (hvl : IntsAt w A l) (B : Option Addr) (m d : Nat) (k : List Int) (hk : k.length = m) (hkc : m ≤ d) (hsk : d ≤ 140737488355328) (hvk : IntsAt w B k) :
    Calls Tryz.prog 3 #[.agg #[.int .i64 x.N, .slice x.dA x.dm x.dc, .slice x.tA x.tm x.tc, .slice x.A x.m x.c, .slice x.B x.k x.d], .slice A n c, .slice B m d] w fun e w' => e = .returned (.bool true) ∧ Below w.heap.size w w' := by
  have HB0 : Hid (Below w.heap.size w (w.alloc (.cells #[.int .i64 x.N, .slice x.dA x.dm x.dc, .slice x.tA x.tm x.tc, .slice x.A x.m x.c, .slice x.B x.k x.d] 28))) := below_alloc _ _
  have HX : Hid (Box (w.alloc (.cells #[.int .i64 x.N, .slice x.dA x.dm x.dc, .slice x.tA x.tm x.tc, .slice x.A x.m x.c, .slice x.B x.k x.d] 28)) w.heap.size x.cells 28) := Box.new w _ _
  have HWI := Lib.hid hx
  have HVL : Hid (IntsAt w A l) := hvl
  have HVK : Hid (IntsAt w B k) := hvk
  have HLL := Lib.hid hl
  have HLK := Lib.hid hk
  have hn47 : n ≤ 140737488355328 := Nat.le_trans hlc hsl
  have hm47 : m ≤ 140737488355328 := Nat.le_trans hkc hsk
  have wr : IntKind.i64.wrap ((n : Int) + (m : Int)) = (n : Int) + (m : Int) := by rw [IntKind.wrap_i64]; omega
  clear hx hvl hvk hl hk hlc hkc hsl hsk
  go_enter Tryz.func3, Tryz.ntmps3
  go_wp2_with fail
  generalize (w.alloc (.cells #[.int .i64 x.N, .slice x.dA x.dm x.dc, .slice x.tA x.tm x.tc, .slice x.A x.m x.c, .slice x.B x.k x.d] 28)) = V at *
  generalize hb1 : w.heap.size = b1 at HX ⊢
  clear hb1
  with_reducible refine (awake_any _).mono ?_
  rintro e V1 ⟨rfl, hv1⟩
  have HX1 : Hid (Box V1 b1 x.cells 28) := HX.out.below hv1
  have HB1 := Lib.hid (below_next HB0.out hv1)
  have HW1 : Hid (WorldIn V1 x) := HWI.out.below HB1.out
  clear hv1 HX HB0
  have c0 := HX1.out.cell 0 _ rfl
  have c1 := HX1.out.cell 1 _ rfl
  have c2 := HX1.out.cell 2 _ rfl
  have c3 := HX1.out.cell 3 _ rfl
  have c4 := HX1.out.cell 4 _ rfl
  by_cases hl : Large x (rz (n + m))
  · have HC : Hid (∀ W, Calls Tryz.prog 8 #[.agg #[.int .i64 x.N, .slice x.dA x.dm x.dc, .slice x.tA x.tm x.tc, .slice x.A x.m x.c, .slice x.B x.k x.d], .int .i64 ((n : Int) + (m : Int))] W fun e w' => e = .returned (.bool true) ∧ Hid (Below W.heap.size W w')) := fun W => large_yes x (rz (n + m)) W HW1.out.mx HW1.out.kx HW1.out.dx HW1.out.tx (by show n + m ≤ maxLen; unfold maxLen; omega) hl
    clear hl
    go_wp2_with fail
    refine (HC.out _).mono ?_
    rintro e V2 ⟨rfl, hv2⟩
    go_wp2
    go_ret
    exact ⟨rfl, below_next HB1.out hv2.out⟩
  · have HC : Hid (∀ W, Calls Tryz.prog 8 #[.agg #[.int .i64 x.N, .slice x.dA x.dm x.dc, .slice x.tA x.tm x.tc, .slice x.A x.m x.c, .slice x.B x.k x.d], .int .i64 ((n : Int) + (m : Int))] W fun e w' => e = .returned (.bool false) ∧ Hid (Below W.heap.size W w')) := fun W => large_no x (rz (n + m)) W hl
    have HAT := Lib.hid (HW1.out.at_ hl)
    have HNL := Lib.hid hl
    clear hl
    go_wp2_with fail
    refine (HC.out _).mono ?_
    rintro e V2 ⟨rfl, hv2⟩
    have HX2 : Hid (WX V2 b1 x) := ⟨HX1.out.below hv2.out, HAT.out.below hv2.out⟩
    have HB2 := Lib.hid (below_next HB1.out hv2.out)
    clear c0 c1 c2 c3 c4 hv2 HX1 HB1 HW1 HAT HC
    have hn100 : n + m ≤ 100 := by
      have h := HNL.out
      unfold Large at h
      have h2 : ¬ 100 < n + m := fun e => h (.inr (.inr (.inr (.inr e))))
      omega
    clear HNL hn47 hm47 wr
    obtain ⟨f, hf⟩ : ∃ f, Rt.worldE x.N x.D x.T x.os x.ts = f := ⟨_, rfl⟩
    have HF := Lib.hid hf
    obtain ⟨pp, hpp⟩ : ∃ p, Sv.savS x.N x.D x.T x.os x.ts l k = p := ⟨_, rfl⟩
    obtain ⟨sv, er⟩ := pp
    have HPP := Lib.hid hpp
    clear hpp hf
    have HC := Lib.hid (saved_b x A n c l B m d k V2 (sv, er) HPP.out HX2.out.at_ HLL.out (by omega) (HVL.out.below HB2.out) HLK.out (by omega) (HVK.out.below HB2.out))
    have x0 := HX2.out.c0
    have x1 := HX2.out.c1
    have x2 := HX2.out.c2
    have x3 := HX2.out.c3
    have x4 := HX2.out.c4
    go_wp2_with fail
    clear x0 x1 x2 x3 x4
    with_reducible refine HC.out.mono ?_
    rintro e V3 ⟨rfl, h3⟩
    have HX3 := Lib.hid (HX2.out.below h3.out)
    have HB3 := Lib.hid (below_next HB2.out h3.out)
    clear h3 HC HX2 HB2
    have HC := Lib.hid (dsaved_b x A n c l B m d k V3 (sv, er) HPP.out HX3.out.at_ HLL.out (by omega) (HVL.out.below HB3.out) HLK.out (by omega) (HVK.out.below HB3.out))
    have x0 := HX3.out.c0
    have x1 := HX3.out.c1
    have x2 := HX3.out.c2
    have x3 := HX3.out.c3
    have x4 := HX3.out.c4
    go_wp2_with fail
    clear x0 x1 x2 x3 x4
    with_reducible refine HC.out.mono ?_
    rintro e V4 ⟨rfl, h4⟩
    have HX4 := Lib.hid (HX3.out.below h4.out)
    have HB4 := Lib.hid (below_next HB3.out h4.out)
    clear h4 HC HX3 HB3
    clear HPP HVL HVK HLL HLK
    have HC := Lib.hid (rows_b x V4 HX4.out.at_)
    have x0 := HX4.out.c0
    have x1 := HX4.out.c1
    have x2 := HX4.out.c2
    have x3 := HX4.out.c3
    have x4 := HX4.out.c4
    go_wp2_with fail
    clear x0 x1 x2 x3 x4
    with_reducible refine HC.out.mono ?_
    rintro e V5 ⟨A1, n1, c1, L1, rfl, h5⟩
    rw [HF.out] at h5 ⊢
    obtain ⟨g1, g2, g3, g4, g5, g6⟩ := h5.out
    have HR1 : Hid (L1.length = n1 ∧ n1 ≤ 12 ∧ RowsAt V5 A1 L1 ∧ (f = 0 → Sv.IsRows x.N x.D x.T x.os x.ts (sts L1)) ∧ (¬ f = 0 → L1 = [])) := ⟨g2, g3, g4.at', g5, g6⟩
    have HX5 := Lib.hid (HX4.out.below g1)
    have HB5 := Lib.hid (below_next HB4.out g1)
    have HG5 := Lib.hid g1
    clear g1 g2 g3 g4 g5 g6 h5 HC HX4 HB4
    have HC := Lib.hid (drows_b x V5 HX5.out.at_)
    have x0 := HX5.out.c0
    have x1 := HX5.out.c1
    have x2 := HX5.out.c2
    have x3 := HX5.out.c3
    have x4 := HX5.out.c4
    go_wp2_with fail
    clear x0 x1 x2 x3 x4
    with_reducible refine HC.out.mono ?_
    rintro e V6 ⟨A2, n2, c2, L2, rfl, h6⟩
    rw [HF.out] at h6 ⊢
    obtain ⟨g1, g2, g3, g4, g5, g6⟩ := h6.out
    have HR2 : Hid (L2.length = n2 ∧ n2 ≤ 12 ∧ RowsAt V6 A2 L2 ∧ (f = 0 → Sv.IsRows x.N x.D x.T x.os x.ts (sts L2)) ∧ (¬ f = 0 → L2 = [])) := ⟨g2, g3, g4.at', g5, g6⟩
    have HX6 := Lib.hid (HX5.out.below g1)
    have HB6 := Lib.hid (below_next HB5.out g1)
    have HG6 := Lib.hid g1
    clear g1 g2 g3 g4 g5 g6 h6 HC HX5 HB5
    have HEQ : Hid (sts L1 = sts L2) := by
      unfold Hid
      by_cases hf0 : f = 0
      · exact (HR1.out.2.2.2.1 hf0).uniq (by rw [HF.out]; exact hf0) (HR2.out.2.2.2.1 hf0)
      · rw [HR1.out.2.2.2.2 hf0, HR2.out.2.2.2.2 hf0]
    have HRA1 : Hid (RowsAt V6 A1 L1) := HR1.out.2.2.1.below HG6.out
    clear HG5 HG6
    have HC := Lib.hid (build_b x V6 HX6.out.at_)
    have x0 := HX6.out.c0
    have x1 := HX6.out.c1
    have x2 := HX6.out.c2
    have x3 := HX6.out.c3
    have x4 := HX6.out.c4
    go_wp2_with fail
    clear x0 x1 x2 x3 x4
    with_reducible refine HC.out.mono ?_
    rintro e U7 ⟨p, rfl, h7⟩
    rw [HF.out] at h7 ⊢
    obtain ⟨g1, g2, g3, g4⟩ := h7.out
    have HPp : Hid ((f = 0 → Sv.IsPlan x.N x.D x.T x.os x.ts (ros p.rs) ∧ p.us = Pl.restS x.os (ros p.rs)) ∧ (¬ f = 0 → p.rs = [] ∧ p.us = [] ∧ p.rm = 0)) := ⟨g3, g4⟩
    have HX7 := Lib.hid ((HX6.out.below g1).below (below_alloc U7 (.cells #[.slice p.rA p.rm p.rc, .slice p.uA p.um p.uc] 40)))
    have HPXp : Hid (PX (U7.alloc (.cells #[.slice p.rA p.rm p.rc, .slice p.uA p.um p.uc] 40)) U7.heap.size p) := PX.new g2
    have HG7 : Hid (Below V6.heap.size V6 (U7.alloc (.cells #[.slice p.rA p.rm p.rc, .slice p.uA p.um p.uc] 40))) := below_more g1 (.cells #[.slice p.rA p.rm p.rc, .slice p.uA p.um p.uc] 40)
    have HB7 := Lib.hid (below_next HB6.out HG7.out)
    clear g1 g2 g3 g4 h7 HC HX6 HB6
    generalize hV7 : U7.alloc (.cells #[.slice p.rA p.rm p.rc, .slice p.uA p.um p.uc] 40) = V7 at HX7 HPXp HG7 HB7
    generalize hb7 : U7.heap.size = b7 at HPXp
    have HC := Lib.hid (dbuild_b x V7 HX7.out.at_)
    have x0 := HX7.out.c0
    have x1 := HX7.out.c1
    have x2 := HX7.out.c2
    have x3 := HX7.out.c3
    have x4 := HX7.out.c4
    go_wp2_with fail
    clear x0 x1 x2 x3 x4
    (try simp only [hV7, hb7])
    clear hV7 hb7
    with_reducible refine HC.out.mono ?_
    rintro e U8 ⟨q, rfl, h8⟩
    rw [HF.out] at h8 ⊢
    obtain ⟨g1, g2, g3, g4⟩ := h8.out
    have HPq : Hid ((f = 0 → Sv.IsPlan x.N x.D x.T x.os x.ts (ros q.rs) ∧ q.us = Pl.restS x.os (ros q.rs)) ∧ (¬ f = 0 → q.rs = [] ∧ q.us = [] ∧ q.rm = 0)) := ⟨g3, g4⟩
    have HX8 := Lib.hid ((HX7.out.below g1).below (below_alloc U8 (.cells #[.slice q.rA q.rm q.rc, .slice q.uA q.um q.uc] 40)))
    have HPXq : Hid (PX (U8.alloc (.cells #[.slice q.rA q.rm q.rc, .slice q.uA q.um q.uc] 40)) U8.heap.size q) := PX.new g2
    have HG8 : Hid (Below V7.heap.size V7 (U8.alloc (.cells #[.slice q.rA q.rm q.rc, .slice q.uA q.um q.uc] 40))) := below_more g1 (.cells #[.slice q.rA q.rm q.rc, .slice q.uA q.um q.uc] 40)
    have HB8 := Lib.hid (below_next HB7.out HG8.out)
    clear g1 g2 g3 g4 h8 HC HX7 HB7
    generalize hV8 : U8.alloc (.cells #[.slice q.rA q.rm q.rc, .slice q.uA q.um q.uc] 40) = V8 at HX8 HPXq HG8 HB8
    generalize hb8 : U8.heap.size = b8 at HPXq
    have HPE : Hid (ros p.rs = ros q.rs ∧ p.us = q.us) := by
      by_cases hf0 : f = 0
      · have h1 := HPp.out.1 hf0
        have h2 := HPq.out.1 hf0
        have h3 := h1.1.uniq (by rw [HF.out]; exact hf0) h2.1
        exact ⟨h3, by rw [h1.2, h2.2, h3]⟩
      · have h1 := HPp.out.2 hf0
        have h2 := HPq.out.2 hf0
        exact ⟨by rw [h1.1, h2.1], by rw [h1.2.1, h2.2.1]⟩
    have HC := Lib.hid (rowed_b A1 A2 n1 c1 n2 c2 L1 L2 V8 HR1.out.1 HR2.out.1 (by have := HR1.out.2.1; omega) ((HRA1.out.below HG7.out).below HG8.out) ((HR2.out.2.2.1.below HG7.out).below HG8.out) HEQ.out)
    have HPX8 := Lib.hid (HPXp.out.below HG8.out)
    have e1 : (sv == sv) = true := by simp
    have e2 : (er == er) = true := by simp
    have e3 : (f == f) = true := by simp
    clear HX8 HR1 HR2 HRA1 HEQ HPp HPq HPXp HG7 HG8
    go_wp2_with fail
    (try simp only [hV8, hb8])
    clear hV8 hb8
    with_reducible refine HC.out.mono ?_
    rintro e V9 ⟨rfl, qn, rfl⟩
    have HD := Lib.hid (drewN_below V8 qn)
    have HP9 := Lib.hid (HPX8.out.below HD.out)
    have HQ9 := Lib.hid (HPXq.out.below HD.out)
    have HB9 := Lib.hid (below_next HB8.out HD.out)
    clear HC HPX8 HPXq HB8 HD
    generalize V8.drewN qn = V9 at *
    have HC := Lib.hid (pequal_b p q V9 HP9.out.at_ HQ9.out.at_ HPE.out.1 HPE.out.2)
    have p0 := HP9.out.c0
    have p1 := HP9.out.c1
    have q0 := HQ9.out.c0
    have q1 := HQ9.out.c1
    clear HP9 HQ9 HPE
    go_wp2_with fail
    clear p0 p1 q0 q1
    with_reducible refine HC.out.mono ?_
    rintro e V10 ⟨rfl, h10⟩
    have HB10 := Lib.hid (below_next HB9.out h10.out)
    go_wp2
    go_ret
    exact ⟨rfl, HB10.out⟩

set_option maxRecDepth 100000 in
theorem lifted (os : Os) (started : os.Started) (H : Type) (enc : TypeId × Value → H) :
    ReturnsInHanded {} Tryz.checked os 3 .any (Rows.savingsTellsSpec.pre6 enc Tryz.prog Tryz.f3 Rows.savingsTellsRow.domain false) (Rows.savingsTellsSpec.post enc Tryz.prog Tryz.f3 false true false false) := by
  refine returnsInHanded_of_change_sized (C := Tryz.checked) own started (by kernel_rfl) Tryz.func3
    (ChangeSpec.witness6 (enc := enc) (C := Tryz.checked) false ⟨#[], #[.agg #[.int .i64 0, .slice none 0 0, .slice none 0 0, .slice none 0 0, .slice none 0 0], .slice none 0 0, .slice none 0 0], []⟩ 8 (by kernel_rfl) (by kernel_rfl) (by kernel_rfl) (by kernel_rfl)) ?_
  intro W base args ds gs before hval0 hW _ hsz0 _
  have hsz : (DataW.weightsEach Tryz.prog (Tryz.f3.params.toList ++ Rows.savingsTellsSpec.plain.varTypes Tryz.prog) (ds ++ gs)).all (· ≤ reachBytes) = true := hsz0
  have hval : ∀ (j : Nat) t v, Tryz.f3.params[j]? = some t → args[j]? = some v → Value.okWide Tryz.prog W .any base t v := hval0
  have hW' := hW
  obtain ⟨p, q, hA0, hV, rfl, hfz, hnd⟩ := hW
  have hA : DataW.TrodAll enc Tryz.prog W 0 (fun _ => true) true Tryz.f3.params.toList args.toList ds p := hA0
  rw [Tryz.params3] at hA hval hsz
  obtain ⟨v0, vs0, d0, ds0, p0, q0, hargs, rfl, rfl, h0, r0⟩ := trodAll_cons hA
  obtain ⟨v1, vs1, d1, ds1, p1, q1, rfl, rfl, rfl, h1, r1⟩ := trodAll_cons r0
  obtain ⟨v2, vs2, d2, ds2, p2, q2, rfl, rfl, rfl, h2, r2⟩ := trodAll_cons r1
  obtain ⟨rfl, rfl, rfl⟩ := trodAll_nil r2
  obtain rfl : args = #[v0, v1, v2] := by cases args; simp_all
  obtain ⟨rfl, rfl⟩ := trodVars_none hV
  have k0 := h0
  have lt0 : ∀ x ∈ p0, x.block < W.heap.size := by obtain ⟨m, hm⟩ := k0; exact DataW.trod_lt m _ _ _ hm
  obtain ⟨x0, rfl, hv0⟩ := open_world_in (hval 0 28 v0 rfl rfl) h0
  have k1 := h1
  have lt1 : ∀ x ∈ p1, x.block < W.heap.size := by obtain ⟨m, hm⟩ := k1; exact DataW.trod_lt m _ _ _ hm
  obtain ⟨a1, len1, cap1, l1, rfl, hl1, hlc1, hw1, hv1⟩ := open_nodes_w (hval 1 29 v1 rfl rfl) h1
  have hs1 : cap1 ≤ 140737488355328 := by
    rcases hw1 with h0 | hin
    · omega
    · have := List.all_eq_true.1 hsz _ (DataW.weights_mem_each (j := 1) (t := 29) (d := d1) rfl rfl _ hin)
      have h2 : cap1 * 8 ≤ reachBytes := by simpa using this
      have h3 := reachBytes_lt
      omega
  have k2 := h2
  have lt2 : ∀ x ∈ p2, x.block < W.heap.size := by obtain ⟨m, hm⟩ := k2; exact DataW.trod_lt m _ _ _ hm
  obtain ⟨a2, len2, cap2, l2, rfl, hl2, hlc2, hw2, hv2⟩ := open_nodes_w (hval 2 29 v2 rfl rfl) h2
  have hs2 : cap2 ≤ 140737488355328 := by
    rcases hw2 with h0 | hin
    · omega
    · have := List.all_eq_true.1 hsz _ (DataW.weights_mem_each (j := 2) (t := 29) (d := d2) rfl rfl _ hin)
      have h2 : cap2 * 8 ≤ reachBytes := by simpa using this
      have h3 := reachBytes_lt
      omega
  clear hA0 hval0
  refine (walk x0 hv0 a1 len1 cap1 l1 hl1 hlc1 hs1 hv1 a2 len2 cap2 l2 hl2 hlc2 hs2 hv2).mono fun e W' ⟨he, bel⟩ => ?_
  subst he
  exact ⟨_, rfl, _, _, _, [], _, [], hW', trodAll_mk1 (shut_bool Tryz.underlying4 _), (trodAll_cons_mk (Below.trod laidOut (by kernel_rfl) (of_decide_eq_true (by kernel_rfl)) k0 bel lt0) (trodAll_cons_mk (Below.trod laidOut (by kernel_rfl) (of_decide_eq_true (by kernel_rfl)) k1 bel lt1) (trodAll_cons_mk (Below.trod laidOut (by kernel_rfl) (of_decide_eq_true (by kernel_rfl)) k2 bel lt2) trodAll_mk0))), rfl, bel.frame _, fun h => by cases h⟩

theorem over : Rows.savingsTellsRow.holds Tryz.pinned (OpenSpec.ofChange Rows.savingsTellsSpec) :=
  OpenClaim.holds_of_wide 3 Tryz.f3 rfl rfl rfl rfl rfl rfl rfl ⟨rfl, rfl, rfl, rfl, rfl⟩ rfl rfl rfl rfl rfl (by kernel_rfl) Tryz.func3 (by kernel_rfl)
    (of_decide_eq_true (by kernel_rfl)) (by unfold Func.isWrapper; first | (rw [if_pos (by decide +kernel)]; kernel_rfl) | (rw [if_neg (by decide +kernel)]; exact ⟨rfl, rfl⟩))
    (fun os started H enc _ => lifted os started H enc)

theorem proved : Rows.SavingsTellsSaid := over
end Go.Proofs.YtjidelfpmlnhkaaGreat.savingsTells
