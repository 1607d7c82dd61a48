/- Every call of the law that a world may be or not in whichever order its orders and trucks stand, and that one that may be may be without its last order, answers true: for every world. No conditions. -/
import Derived.Test.YtgdgdalegoabpaaRows
import Derived.Test.YtgdgdalegoabpaaLoadRow
import Derived.WalkKit
import Derived.ProofKit
import Derived.OpenShut
import Derived.ShutString
import Derived.ChangeOld
import Derived.Below
import Derived.SizedLaws
namespace Go.Proofs.Ytgdgdalegoabpaa.loadOrder
open Go.ChangeShapes Go.WideShapes Go.ChangeAt Go.RowKit
open Go.ChangeMaps (open_string shut_string)
set_option linter.unusedVariables false

theorem own : ownKnob Try.prog.godebug = none := by kernel_rfl
theorem laidOut : laidOutB Try.prog = true := by kernel_rfl


open Go.Proofs.Ytgdgdalegoabpaa

theorem long_any (N : Int) (v1 v2 : Value) (A : Option Addr) (m c : Nat) (B : Option Addr) (k d : Nat) (w : World) (hm : m ≤ maxLen) (hk : k ≤ maxLen) (h : 200 < m ∨ 200 < k) :
    Calls Try.prog 5 #[.agg #[.int .i64 N, v1, v2, .slice A m c, .slice B k d]] w fun e w' => e = .returned (.bool true) ∧ Below w.heap.size w w' := by
  unfold maxLen at hm hk
  have HX : Hid (Box (w.alloc (.cells #[.int .i64 N, v1, v2, .slice A m c, .slice B k d] 28)) w.heap.size (wV N v1 v2 A m c B k d) 28) := Box.new _ _ _
  have HB0 : Hid (Below w.heap.size w (w.alloc (.cells #[.int .i64 N, v1, v2, .slice A m c, .slice B k d] 28))) := below_alloc _ _
  by_cases h1 : 200 < m
  · have d1 : decide ((200 : Int) < (m : Int)) = true := decide_eq_true (by omega)
    clear h
    go_enter Try.func5, Try.ntmps5
    go_wp2_with fail
    with_reducible refine (awake_any _).mono ?_
    rintro e w1 ⟨rfl, hb1⟩
    have x3 : w1.cell? ⟨w.heap.size, 3, none⟩ = some (.slice A m c) := (HX.out.below hb1).cell 3 _ rfl
    have HB1 := Lib.hid (below_next HB0.out hb1)
    clear hb1
    go_wp2
    go_ret
    exact ⟨rfl, HB1.out⟩
  · have d1 : decide ((200 : Int) < (m : Int)) = false := decide_eq_false (by omega)
    have d2 : decide ((200 : Int) < (k : Int)) = true := decide_eq_true (by omega)
    clear h
    go_enter Try.func5, Try.ntmps5
    go_wp2_with fail
    with_reducible refine (awake_any _).mono ?_
    rintro e w1 ⟨rfl, hb1⟩
    have x3 : w1.cell? ⟨w.heap.size, 3, none⟩ = some (.slice A m c) := (HX.out.below hb1).cell 3 _ rfl
    have x4 : w1.cell? ⟨w.heap.size, 4, none⟩ = some (.slice B k d) := (HX.out.below hb1).cell 4 _ rfl
    have HB1 := Lib.hid (below_next HB0.out hb1)
    clear hb1
    go_wp2
    go_ret
    exact ⟨rfl, HB1.out⟩

theorem fin_b {b : Nat} {w w1 W : World} (h : w.heap.size = b) (h1 : Below b w w1) (h2 : Below w1.heap.size w1 W) : Below w.heap.size w W := by subst h; exact below_next h1 h2
theorem snoc_rev {α : Type} (l : List α) (i j : Nat) (x : α) (h : j + (i + 1) = l.length) (hx : l[i]? = some x) : l.reverse.take j ++ [x] = l.reverse.take (j + 1) := by
  rw [List.take_add_one, List.getElem?_reverse (by omega), show l.length - 1 - j = i by omega, hx]
  rfl

set_option maxHeartbeats 4000000 in
set_option maxRecDepth 100000 in
theorem short_any (N : Int) (p1 : Option Addr) (q1 r1 : Nat) (p2 : Option Addr) (q2 r2 : Nat) (A : Option Addr) (m c : Nat) (os : List Ld.O) (B : Option Addr) (k d : Nat) (ts : List Ld.T) (w : World) (hN : N ≤ 9223372036854775807) (hm : os.length = m) (hm2 : m ≤ 200) (hk : ts.length = k) (hk2 : k ≤ 200) (hos : OrdersAt w A os) (hts : TrucksAt w B ts) :
    Calls Try.prog 5 #[.agg #[.int .i64 N, .slice p1 q1 r1, .slice p2 q2 r2, .slice A m c, .slice B k d]] w fun e w' => e = .returned (.bool true) ∧ Below w.heap.size w w' := by
  have HB0 : Hid (Below w.heap.size w (w.alloc (.cells #[.int .i64 N, .slice p1 q1 r1, .slice p2 q2 r2, .slice A m c, .slice B k d] 28))) := below_alloc _ _
  have HX := Lib.hid (WBox.new (N := N) (v1 := .slice p1 q1 r1) (v2 := .slice p2 q2 r2) (m := m) (c := c) (k := k) (d := d) hos hts)
  have HM := Lib.hid hm
  have HK := Lib.hid hk
  have d1 : decide ((200 : Int) < (m : Int)) = false := decide_eq_false (by omega)
  have d2 : decide ((200 : Int) < (k : Int)) = false := decide_eq_false (by omega)
  clear hos hts hm hk
  go_enter Try.func5, Try.ntmps5
  go_wp2_with fail
  generalize (w.alloc (.cells #[.int .i64 N, .slice p1 q1 r1, .slice p2 q2 r2, .slice A m c, .slice B k d] 28)) = V at *
  with_reducible refine (awake_any V).mono ?_
  rintro e w1 ⟨rfl, hb1⟩
  have HX1 := Lib.hid (HX.out.below hb1)
  have HB1 := Lib.hid (below_next HB0.out hb1)
  clear hb1 HX HB0
  have x0 := HX1.out.c0
  have x1 := HX1.out.c1
  have x2 := HX1.out.c2
  have x3 := HX1.out.c3
  have x4 := HX1.out.c4
  have x3a : (w1.alloc (.cells #[.int .i64 N, .slice p1 q1 r1, .slice p2 q2 r2, .slice none 0 0, .slice none 0 0] 28)).cell? ⟨w.heap.size, 3, none⟩ = some (.slice A m c) := (HX1.out.below (below_alloc _ _)).c3
  have HS := Lib.hid (L1.start (w1 := w1) (N := N) (v1 := .slice p1 q1 r1) (v2 := .slice p2 q2 r2))
  go_wp2_with fail
  generalize hbb : w.heap.size = b at *
  have HBB := Lib.hid hbb
  clear hbb
  generalize w1.alloc (.cells #[.int .i64 N, .slice p1 q1 r1, .slice p2 q2 r2, .slice none 0 0, .slice none 0 0] 28) = V1 at *
  obtain ⟨g, hg⟩ : ∃ g, g = w1.heap.size := ⟨_, rfl⟩
  rw [← hg] at HS ⊢
  have HG := Lib.hid hg
  have HG2 : Hid (w1.heap.size ≤ g) := by unfold Hid; omega
  clear hg x0 x1 x2 x3 x4 x3a
  go_loopg [4] m (fun gk s4 Wx => ∃ (W0 : World) (j : Nat) (q : Int) (X : Option Addr) (n cx : Nat), W0 = Wx ∧ j + gk = m ∧ Hid (q = (gk : Int) - 1) ∧ s4 = .int .i64 q ∧ Hid (L1 w1 g N (.slice p1 q1 r1) (.slice p2 q2 r2) X n cx (os.reverse.take j) W0))
  case atStart => exact ⟨_, 0, _, none, 0, 0, rfl, by omega, rfl, rfl, HS.out⟩
  case round =>
    obtain ⟨W0, j, q, X, n, cx, rfl, hjg, HQ, rfl, HI⟩ := hrel
    by_cases hlt : 0 < gk
    · obtain ⟨gk, rfl⟩ : ∃ i, gk = i + 1 := ⟨gk - 1, by omega⟩
      obtain rfl : q = (gk : Int) := by have := HQ.out; omega
      obtain ⟨s, hs⟩ := mlist_at os gk (by rw [HM.out]; omega)
      obtain ⟨ad, rfl, hc⟩ := (HX1.out.os.below HI.out.bel).at_ hs
      obtain ⟨c0, c1, c2, c3, c4, c5, c6, c7⟩ := hc
      obtain ⟨a0, a1, a2, a3, a4, a5, a6, a7⟩ := s
      simp only at c0 c1 c2 c3 c4 c5 c6 c7
      have HSN := Lib.hid (snoc_rev os gk j _ (by rw [HM.out]; omega) hs)
      have HXW := Lib.hid (HX1.out.below HI.out.bel)
      have y3 := HXW.out.c3
      have z3 : W0.cell? ⟨g, 3, none⟩ = some (.slice X n cx) := HI.out.box.cell 3 _ rfl
      have z3a : (W0.alloc (.cells #[.int .i64 a0, .int .i64 a1, .int .i64 a2, .int .i64 a3, .int .i64 a4, .int .i64 a5, .int .i64 a6, .int .i64 a7] 33)).cell? ⟨g, 3, none⟩ = some (.slice X n cx) := by rw [(below_alloc W0 _).cell (p := ⟨g, 3, none⟩) HI.out.glt]; exact z3
      obtain ⟨n', hn'⟩ : ∃ n', (os.reverse.take (j + 1)).length = n' := ⟨_, rfl⟩
      have HA := Lib.hid (L1.put HG2.out HI.out a0 a1 a2 a3 a4 a5 a6 a7 (os.reverse.take (j + 1)) n' HSN.out hn' (by rw [List.length_take, List.length_reverse, HM.out]; omega))
      clear hs hn'
      have hi0 : (0 : Int) ≤ (gk : Int) := by omega
      have hi1 : (gk : Int) < (m : Int) := by omega
      go_wp2
      go_region_law (first
        | (refine step_append_w ((W0.alloc (.cells #[.int .i64 a0, .int .i64 a1, .int .i64 a2, .int .i64 a3, .int .i64 a4, .int .i64 a5, .int .i64 a6, .int .i64 a7] 33)).drew) (by with_reducible rfl) (by rfl) (.tmp 31) (.tmp 37) 25 25 25 (by rfl) (by rfl) (.slice X n cx) (.slice (some ⟨W0.heap.size, 0, none⟩) 1 1) (by rfl) (by rfl) _ HA.out ?_
           rintro v2 w5 ⟨A', cp, rfl, u1, u2, u3⟩))
      all_goals
        clear z3 z3a y3 u1 u2 c0 c1 c2 c3 c4 c5 c6 c7 HA
        go_wp2
        go_roundg gk
        case measure => omega
        case rel => exact ⟨_, j + 1, _, A', n', cp, rfl, by omega, by unfold Hid; omega, rfl, u3.out⟩
    · obtain rfl : gk = 0 := by omega
      obtain rfl : q = -1 := by have := HQ.out; omega
      obtain rfl : j = m := by omega
      have HRO : Hid (os.reverse.take j = os.reverse) := by unfold Hid; rw [List.take_of_length_le (by rw [List.length_reverse, HM.out]; exact Nat.le_refl _)]
      have hI := HI.out
      rw [HRO.out] at hI
      have HL2 := Lib.hid (L2.start hI)
      have HCN : Hid (n = j ∧ j ≤ cx) := by
        have := hI.count
        rw [List.length_reverse, HM.out] at this
        unfold Hid
        omega
      clear hI HI HQ
      obtain ⟨rfl, hncx⟩ := HCN.out
      clear HCN
      have HX2 := Lib.hid (HX1.out.below HL2.out.bel)
      have y4 := HX2.out.c4
      go_wp2_with fail
      clear y4 HX2
      generalize W0.heap.size = Bd at *
      go_loopg [5] k (fun gk s5 Wx => ∃ (W2 : World) (j2 : Nat) (q : Int) (Y : Option Addr) (k2 cy : Nat), W2 = Wx ∧ j2 + gk = k ∧ Hid (q = (gk : Int) - 1) ∧ s5 = .int .i64 q ∧ Hid (L2 w1 g Bd N (.slice p1 q1 r1) (.slice p2 q2 r2) X n cx os.reverse Y k2 cy (ts.reverse.take j2) W2))
      case atStart => exact ⟨_, 0, _, none, 0, 0, rfl, by omega, rfl, rfl, HL2.out⟩
      case round =>
        obtain ⟨W2, j2, q, Y, k2, cy, rfl, hjg, HQ, rfl, HI⟩ := hrel
        by_cases hlt : 0 < gk
        · obtain ⟨gk, rfl⟩ : ∃ i, gk = i + 1 := ⟨gk - 1, by omega⟩
          obtain rfl : q = (gk : Int) := by have := HQ.out; omega
          obtain ⟨s, hs⟩ := mlist_at ts gk (by rw [HK.out]; omega)
          obtain ⟨ad, rfl, hc⟩ := (HX1.out.ts.below HI.out.bel).at_ hs
          obtain ⟨c0, c1, c2, c3, c4, c5, c6⟩ := hc
          obtain ⟨a0, a1, a2, a3, a4, a5, a6⟩ := s
          simp only at c0 c1 c2 c3 c4 c5 c6
          have HSN := Lib.hid (snoc_rev ts gk j2 _ (by rw [HK.out]; omega) hs)
          have HXW := Lib.hid (HX1.out.below HI.out.bel)
          have y4 := HXW.out.c4
          have z4 : W2.cell? ⟨g, 4, none⟩ = some (.slice Y k2 cy) := HI.out.box.cell 4 _ rfl
          have z4a : (W2.alloc (.cells #[.int .i64 a0, .int .i64 a1, .int .i64 a2, .int .i64 a3, .int .i64 a4, .int .i64 a5, .int .i64 a6] 30)).cell? ⟨g, 4, none⟩ = some (.slice Y k2 cy) := by rw [(below_alloc W2 _).cell (p := ⟨g, 4, none⟩) HI.out.box.lt]; exact z4
          obtain ⟨n', hn'⟩ : ∃ n', (ts.reverse.take (j2 + 1)).length = n' := ⟨_, rfl⟩
          have HA := Lib.hid (L2.put HG2.out HI.out a0 a1 a2 a3 a4 a5 a6 (ts.reverse.take (j2 + 1)) n' HSN.out hn' (by rw [List.length_take, List.length_reverse, HK.out]; omega))
          clear hs hn'
          have hi0 : (0 : Int) ≤ (gk : Int) := by omega
          have hi1 : (gk : Int) < (k : Int) := by omega
          go_wp2
          go_region_law (first
            | (refine step_append_w ((W2.alloc (.cells #[.int .i64 a0, .int .i64 a1, .int .i64 a2, .int .i64 a3, .int .i64 a4, .int .i64 a5, .int .i64 a6] 30)).drew) (by with_reducible rfl) (by rfl) (.tmp 49) (.tmp 55) 26 26 26 (by rfl) (by rfl) (.slice Y k2 cy) (.slice (some ⟨W2.heap.size, 0, none⟩) 1 1) (by rfl) (by rfl) _ HA.out ?_
               rintro v2 w5 ⟨A', cp, rfl, u1, u2, u3⟩))
          all_goals
            clear z4 z4a y4 u1 u2 c0 c1 c2 c3 c4 c5 c6 HA
            go_wp2
            go_roundg gk
            case measure => omega
            case rel => exact ⟨_, j2 + 1, _, A', n', cp, rfl, by omega, by unfold Hid; omega, rfl, u3.out⟩
        · obtain rfl : gk = 0 := by omega
          obtain rfl : q = -1 := by have := HQ.out; omega
          obtain rfl : j2 = k := by omega
          have HRO2 : Hid (ts.reverse.take j2 = ts.reverse) := by unfold Hid; rw [List.take_of_length_le (by rw [List.length_reverse, HK.out]; exact Nat.le_refl _)]
          have hI := HI.out
          rw [HRO2.out] at hI
          have hk3 : j2 = k2 := by
            have := hI.trucks.1
            rw [List.length_reverse, HK.out] at this
            exact this
          subst hk3
          have HL3 := Lib.hid hI
          clear hI HI HQ
          have HMD := Lib.hid HL3.out.made
          have HXW := Lib.hid (HX1.out.below HL3.out.bel)
          obtain ⟨r, hr⟩ : ∃ r, Ld.worldE N os ts = r := ⟨_, rfl⟩
          have HR := Lib.hid hr
          have HRR : Hid (Ld.worldE N os.reverse ts.reverse = r) := by unfold Hid; rw [Ld.world_rev]; exact hr
          have HLR : Hid (os.reverse.length = n) := by unfold Hid; rw [List.length_reverse]; exact HM.out
          have HLT : Hid (ts.reverse.length = j2) := by unfold Hid; rw [List.length_reverse]; exact HK.out
          clear hr HRO HRO2
          have HCE : Hid (∀ W', Below W2.heap.size W2 W' → W'.cell? ⟨g, 0, none⟩ = some (.int .i64 N) ∧ W'.cell? ⟨g, 1, none⟩ = some (.slice p1 q1 r1) ∧ W'.cell? ⟨g, 2, none⟩ = some (.slice p2 q2 r2) ∧ W'.cell? ⟨g, 3, none⟩ = some (.slice X n cx) ∧ W'.cell? ⟨g, 4, none⟩ = some (.slice Y j2 cy) ∧ W'.cell? ⟨b, 0, none⟩ = some (.int .i64 N) ∧ W'.cell? ⟨b, 1, none⟩ = some (.slice p1 q1 r1) ∧ W'.cell? ⟨b, 2, none⟩ = some (.slice p2 q2 r2) ∧ W'.cell? ⟨b, 3, none⟩ = some (.slice A n c) ∧ W'.cell? ⟨b, 4, none⟩ = some (.slice B j2 d) ∧ Below W2.heap.size W2 W') := fun W' hb => ⟨(HMD.out.below hb).box.cell 0 _ rfl, (HMD.out.below hb).box.cell 1 _ rfl, (HMD.out.below hb).box.cell 2 _ rfl, (HMD.out.below hb).box.cell 3 _ rfl, (HMD.out.below hb).box.cell 4 _ rfl, (HXW.out.below hb).c0, (HXW.out.below hb).c1, (HXW.out.below hb).c2, (HXW.out.below hb).c3, (HXW.out.below hb).c4, hb⟩
          have HC1 : Hid (∀ W1, (W1.cell? ⟨g, 0, none⟩ = some (.int .i64 N) ∧ W1.cell? ⟨g, 1, none⟩ = some (.slice p1 q1 r1) ∧ W1.cell? ⟨g, 2, none⟩ = some (.slice p2 q2 r2) ∧ W1.cell? ⟨g, 3, none⟩ = some (.slice X n cx) ∧ W1.cell? ⟨g, 4, none⟩ = some (.slice Y j2 cy) ∧ W1.cell? ⟨b, 0, none⟩ = some (.int .i64 N) ∧ W1.cell? ⟨b, 1, none⟩ = some (.slice p1 q1 r1) ∧ W1.cell? ⟨b, 2, none⟩ = some (.slice p2 q2 r2) ∧ W1.cell? ⟨b, 3, none⟩ = some (.slice A n c) ∧ W1.cell? ⟨b, 4, none⟩ = some (.slice B j2 d) ∧ Below W2.heap.size W2 W1) → Calls Try.prog 11 #[.agg #[.int .i64 N, .slice p1 q1 r1, .slice p2 q2 r2, .slice X n cx, .slice Y j2 cy]] W1 fun e W' => e = .returned (.int .i64 r) ∧ W'.cell? ⟨g, 0, none⟩ = some (.int .i64 N) ∧ W'.cell? ⟨g, 1, none⟩ = some (.slice p1 q1 r1) ∧ W'.cell? ⟨g, 2, none⟩ = some (.slice p2 q2 r2) ∧ W'.cell? ⟨g, 3, none⟩ = some (.slice X n cx) ∧ W'.cell? ⟨g, 4, none⟩ = some (.slice Y j2 cy) ∧ W'.cell? ⟨b, 0, none⟩ = some (.int .i64 N) ∧ W'.cell? ⟨b, 1, none⟩ = some (.slice p1 q1 r1) ∧ W'.cell? ⟨b, 2, none⟩ = some (.slice p2 q2 r2) ∧ W'.cell? ⟨b, 3, none⟩ = some (.slice A n c) ∧ W'.cell? ⟨b, 4, none⟩ = some (.slice B j2 d) ∧ Below W2.heap.size W2 W') := by
            rintro W1 ⟨_, _, _, _, _, _, _, _, _, _, h⟩
            exact (world_b N (.slice p1 q1 r1) (.slice p2 q2 r2) X n cx os.reverse Y j2 cy ts.reverse W1 r HRR.out hN HLR.out (by omega) HLT.out (by omega) (HMD.out.below h).ro (HMD.out.below h).rt).mono fun _ _ ⟨e1, e2⟩ => ⟨e1, HCE.out _ (below_next h e2.out)⟩
          have HC2 : Hid (∀ W1, (W1.cell? ⟨g, 0, none⟩ = some (.int .i64 N) ∧ W1.cell? ⟨g, 1, none⟩ = some (.slice p1 q1 r1) ∧ W1.cell? ⟨g, 2, none⟩ = some (.slice p2 q2 r2) ∧ W1.cell? ⟨g, 3, none⟩ = some (.slice X n cx) ∧ W1.cell? ⟨g, 4, none⟩ = some (.slice Y j2 cy) ∧ W1.cell? ⟨b, 0, none⟩ = some (.int .i64 N) ∧ W1.cell? ⟨b, 1, none⟩ = some (.slice p1 q1 r1) ∧ W1.cell? ⟨b, 2, none⟩ = some (.slice p2 q2 r2) ∧ W1.cell? ⟨b, 3, none⟩ = some (.slice A n c) ∧ W1.cell? ⟨b, 4, none⟩ = some (.slice B j2 d) ∧ Below W2.heap.size W2 W1) → Calls Try.prog 11 #[.agg #[.int .i64 N, .slice p1 q1 r1, .slice p2 q2 r2, .slice A n c, .slice B j2 d]] W1 fun e W' => e = .returned (.int .i64 r) ∧ W'.cell? ⟨g, 0, none⟩ = some (.int .i64 N) ∧ W'.cell? ⟨g, 1, none⟩ = some (.slice p1 q1 r1) ∧ W'.cell? ⟨g, 2, none⟩ = some (.slice p2 q2 r2) ∧ W'.cell? ⟨g, 3, none⟩ = some (.slice X n cx) ∧ W'.cell? ⟨g, 4, none⟩ = some (.slice Y j2 cy) ∧ W'.cell? ⟨b, 0, none⟩ = some (.int .i64 N) ∧ W'.cell? ⟨b, 1, none⟩ = some (.slice p1 q1 r1) ∧ W'.cell? ⟨b, 2, none⟩ = some (.slice p2 q2 r2) ∧ W'.cell? ⟨b, 3, none⟩ = some (.slice A n c) ∧ W'.cell? ⟨b, 4, none⟩ = some (.slice B j2 d) ∧ Below W2.heap.size W2 W') := by
            rintro W1 ⟨_, _, _, _, _, _, _, _, _, _, h⟩
            exact (world_b N (.slice p1 q1 r1) (.slice p2 q2 r2) A n c os B j2 d ts W1 r HR.out hN HM.out (by omega) HK.out (by omega) (HXW.out.below h).os (HXW.out.below h).ts).mono fun _ _ ⟨e1, e2⟩ => ⟨e1, HCE.out _ (below_next h e2.out)⟩
          obtain ⟨z0, z1, z2, z3, z4, y0, y1, y2, y3, y4, hB0⟩ := HCE.out W2 (Below.refl _ _)
          have hB := hB0.drew
          have b1 : (r != r) = false := by simp
          go_wp2
          go_region_held3 (fun W' : World => W'.cell? ⟨g, 0, none⟩ = some (.int .i64 N) ∧ W'.cell? ⟨g, 1, none⟩ = some (.slice p1 q1 r1) ∧ W'.cell? ⟨g, 2, none⟩ = some (.slice p2 q2 r2) ∧ W'.cell? ⟨g, 3, none⟩ = some (.slice X n cx) ∧ W'.cell? ⟨g, 4, none⟩ = some (.slice Y j2 cy) ∧ W'.cell? ⟨b, 0, none⟩ = some (.int .i64 N) ∧ W'.cell? ⟨b, 1, none⟩ = some (.slice p1 q1 r1) ∧ W'.cell? ⟨b, 2, none⟩ = some (.slice p2 q2 r2) ∧ W'.cell? ⟨b, 3, none⟩ = some (.slice A n c) ∧ W'.cell? ⟨b, 4, none⟩ = some (.slice B j2 d) ∧ Below W2.heap.size W2 W') (first | exact ⟨z0, z1, z2, z3, z4, y0, y1, y2, y3, y4, hB⟩ | exact ⟨kz0, kz1, kz2, kz3, kz4, ky0, ky1, ky2, ky3, ky4, kb⟩ | assumption)
            (first
              | (go_at_call 11; ((with_reducible refine (HC1.out _ (by assumption)).mono ?_)); rintro e w3 ⟨rfl, kz0, kz1, kz2, kz3, kz4, ky0, ky1, ky2, ky3, ky4, kb⟩)
              | (go_at_call 11; ((with_reducible refine (HC2.out _ (by assumption)).mono ?_)); rintro e w3 ⟨rfl, kz0, kz1, kz2, kz3, kz4, ky0, ky1, ky2, ky3, ky4, kb⟩))
          --TAIL
          all_goals
            have KB := Lib.hid kb
            clear z0 z1 z2 z3 z4 y0 y1 y2 y3 y4 hB0 hB kb HC1 b1
            go_wp2_with fail
            with_reducible refine (HC2.out _ (HCE.out _ KB.out)).mono ?_
            clear kz0 kz1 kz2 kz3 kz4 ky0 ky1 ky2 ky3 ky4
            rintro e w4 ⟨rfl, _, _, _, z3, _, _, _, _, y3, _, kb4⟩
            have KB4 := Lib.hid kb4
            have HM4 := Lib.hid (HMD.out.below kb4)
            clear kb4 KB HC2 HCE
            by_cases hr0 : r = 0
            · subst hr0
              by_cases hn0 : n = 0
              · have b3 : ((n : Int) == 0) = true := by simp [hn0]
                go_wp2
                go_ret
                exact ⟨rfl, fin_b HBB.out HB1.out HM4.out.bel⟩
              · have b3 : ((n : Int) == 0) = false := by simp [hn0]
                obtain ⟨X', c1, hsl, hX⟩ := rest_os X n cx os.reverse HLR.out (by omega) hncx
                obtain ⟨n1, hn1⟩ : ∃ n1, n - 1 = n1 := ⟨_, rfl⟩
                rw [hn1] at hsl
                have HN1 : Hid (n = n1 + 1) := by unfold Hid; omega
                have fz3 : w4.frozen? ⟨g, 3, none⟩ = false := HM4.out.box.fz 3
                have HMC := Lib.hid (L2.cut HG2.out HL3.out KB4.out X' n1 c1 hX)
                have HXC := Lib.hid (HX1.out.below HMC.out.bel)
                have y3c := HXC.out.c3
                obtain ⟨s, hs⟩ := mlist_at os n1 (by rw [HM.out]; omega)
                obtain ⟨ad, rfl, hc⟩ := HXC.out.os.at_ hs
                obtain ⟨c0, c1', c2, c3, c4, c5, c6, c7⟩ := hc
                obtain ⟨a0, a1, a2, a3, a4, a5, a6, a7⟩ := s
                simp only at c0 c1' c2 c3 c4 c5 c6 c7
                have HS := Lib.hid hs
                have hi0 : (0 : Int) ≤ (n : Int) - 1 := by omega
                have hi1 : (n : Int) - 1 < (n : Int) := by omega
                have hi2 : ((n : Int) - 1).toNat = n1 := by omega
                clear hs hn1 hX
                have HBX := Lib.hid (Box.new (w4.setCell ⟨g, 3, none⟩ (.slice X' n1 c1)) #[.int .i64 a0, .int .i64 a1, .int .i64 a2, .int .i64 a3, .int .i64 a4, .int .i64 a5, .int .i64 a6, .int .i64 a7] 33)
                have HBL := Lib.hid (below_alloc (w4.setCell ⟨g, 3, none⟩ (.slice X' n1 c1)) (.cells #[.int .i64 a0, .int .i64 a1, .int .i64 a2, .int .i64 a3, .int .i64 a4, .int .i64 a5, .int .i64 a6, .int .i64 a7] 33))
                rw [show (w4.setCell ⟨g, 3, none⟩ (.slice X' n1 c1)).heap.size = w4.heap.size from Go.Deep.nblk_setCell _ _ _] at HBX
                have HFD := Lib.hid (Ld.last_find (by rw [HM.out]; exact HN1.out) (Ld.world_is HR.out).2.2.2.2.1 HS.out)
                have HWL := Lib.hid (Ld.world_less HR.out)
                go_wp2_with fail
                have HM6 := Lib.hid (HMC.out.below HBL.out)
                have HX6 := Lib.hid (HXC.out.below HBL.out)
                clear c0 c1' c2 c3 c4 c5 c6 c7 y3c HMC HXC HBL
                generalize (w4.setCell ⟨g, 3, none⟩ (.slice X' n1 c1)).alloc (.cells #[.int .i64 a0, .int .i64 a1, .int .i64 a2, .int .i64 a3, .int .i64 a4, .int .i64 a5, .int .i64 a6, .int .i64 a7] 33) = W6 at *
                try rw [show (w4.setCell ⟨g, 3, none⟩ (.slice X' n1 c1)).heap.size = w4.heap.size from Go.Deep.nblk_setCell _ _ _]
                generalize w4.heap.size = bl at *
                have HLD : Hid ((os.reverse.drop 1).length = n1) := by
                  unfold Hid
                  rw [List.length_drop, HLR.out, HN1.out]
                  rfl
                have HE : Hid ((n1 : Int) = (n : Int) - 1) := by
                  have := HN1.out
                  unfold Hid
                  omega
                have hn1b : n1 ≤ 200 := by have := HN1.out; omega
                have HCE : Hid (∀ V, Below W6.heap.size W6 V → V.cell? ⟨g, 0, none⟩ = some (.int .i64 N) ∧ V.cell? ⟨g, 1, none⟩ = some (.slice p1 q1 r1) ∧ V.cell? ⟨g, 2, none⟩ = some (.slice p2 q2 r2) ∧ V.cell? ⟨g, 3, none⟩ = some (.slice X' n1 c1) ∧ V.cell? ⟨g, 4, none⟩ = some (.slice Y j2 cy) ∧ V.cell? ⟨b, 3, none⟩ = some (.slice (some ad) n c) ∧ V.cell? ⟨bl, 0, none⟩ = some (.int .i64 a0) ∧ Below W6.heap.size W6 V) := fun V hb => ⟨(HM6.out.below hb).box.cell 0 _ rfl, (HM6.out.below hb).box.cell 1 _ rfl, (HM6.out.below hb).box.cell 2 _ rfl, (HM6.out.below hb).box.cell 3 _ rfl, (HM6.out.below hb).box.cell 4 _ rfl, (HX6.out.below hb).c3, (HBX.out.below hb).cell 0 _ rfl, hb⟩
                have HC1 : Hid (∀ V1, (V1.cell? ⟨g, 0, none⟩ = some (.int .i64 N) ∧ V1.cell? ⟨g, 1, none⟩ = some (.slice p1 q1 r1) ∧ V1.cell? ⟨g, 2, none⟩ = some (.slice p2 q2 r2) ∧ V1.cell? ⟨g, 3, none⟩ = some (.slice X' n1 c1) ∧ V1.cell? ⟨g, 4, none⟩ = some (.slice Y j2 cy) ∧ V1.cell? ⟨b, 3, none⟩ = some (.slice (some ad) n c) ∧ V1.cell? ⟨bl, 0, none⟩ = some (.int .i64 a0) ∧ Below W6.heap.size W6 V1) → Calls Try.prog 11 #[.agg #[.int .i64 N, .slice p1 q1 r1, .slice p2 q2 r2, .slice X' n1 c1, .slice Y j2 cy]] V1 fun e V => e = .returned (.int .i64 0) ∧ V.cell? ⟨g, 0, none⟩ = some (.int .i64 N) ∧ V.cell? ⟨g, 1, none⟩ = some (.slice p1 q1 r1) ∧ V.cell? ⟨g, 2, none⟩ = some (.slice p2 q2 r2) ∧ V.cell? ⟨g, 3, none⟩ = some (.slice X' n1 c1) ∧ V.cell? ⟨g, 4, none⟩ = some (.slice Y j2 cy) ∧ V.cell? ⟨b, 3, none⟩ = some (.slice (some ad) n c) ∧ V.cell? ⟨bl, 0, none⟩ = some (.int .i64 a0) ∧ Below W6.heap.size W6 V) := by
                  rintro V1 ⟨_, _, _, _, _, _, _, h⟩
                  exact (world_b N (.slice p1 q1 r1) (.slice p2 q2 r2) X' n1 c1 (os.reverse.drop 1) Y j2 cy ts.reverse V1 0 HWL.out hN HLD.out (by omega) HLT.out (by omega) (HM6.out.below h).ro (HM6.out.below h).rt).mono fun _ _ ⟨e1, e2⟩ => ⟨e1, HCE.out _ (below_next h e2.out)⟩
                have HC2 : Hid (∀ V1, (V1.cell? ⟨g, 0, none⟩ = some (.int .i64 N) ∧ V1.cell? ⟨g, 1, none⟩ = some (.slice p1 q1 r1) ∧ V1.cell? ⟨g, 2, none⟩ = some (.slice p2 q2 r2) ∧ V1.cell? ⟨g, 3, none⟩ = some (.slice X' n1 c1) ∧ V1.cell? ⟨g, 4, none⟩ = some (.slice Y j2 cy) ∧ V1.cell? ⟨b, 3, none⟩ = some (.slice (some ad) n c) ∧ V1.cell? ⟨bl, 0, none⟩ = some (.int .i64 a0) ∧ Below W6.heap.size W6 V1) → Calls Try.prog 17 #[.slice X' n1 c1, .int .i64 a0] V1 fun e V => e = .returned (.int .i64 (-1)) ∧ V.cell? ⟨g, 0, none⟩ = some (.int .i64 N) ∧ V.cell? ⟨g, 1, none⟩ = some (.slice p1 q1 r1) ∧ V.cell? ⟨g, 2, none⟩ = some (.slice p2 q2 r2) ∧ V.cell? ⟨g, 3, none⟩ = some (.slice X' n1 c1) ∧ V.cell? ⟨g, 4, none⟩ = some (.slice Y j2 cy) ∧ V.cell? ⟨b, 3, none⟩ = some (.slice (some ad) n c) ∧ V.cell? ⟨bl, 0, none⟩ = some (.int .i64 a0) ∧ Below W6.heap.size W6 V) := by
                  rintro V1 ⟨_, _, _, _, _, _, _, h⟩
                  exact (find_val X' n1 c1 (os.reverse.drop 1) a0 V1 (-1) HFD.out.2 HLD.out (by omega) (HM6.out.below h).ro).mono fun _ _ ⟨e1, e2⟩ => ⟨e1, HCE.out _ (below_next h e2.out)⟩
                have HC3 : Hid (∀ V1, (V1.cell? ⟨g, 0, none⟩ = some (.int .i64 N) ∧ V1.cell? ⟨g, 1, none⟩ = some (.slice p1 q1 r1) ∧ V1.cell? ⟨g, 2, none⟩ = some (.slice p2 q2 r2) ∧ V1.cell? ⟨g, 3, none⟩ = some (.slice X' n1 c1) ∧ V1.cell? ⟨g, 4, none⟩ = some (.slice Y j2 cy) ∧ V1.cell? ⟨b, 3, none⟩ = some (.slice (some ad) n c) ∧ V1.cell? ⟨bl, 0, none⟩ = some (.int .i64 a0) ∧ Below W6.heap.size W6 V1) → Calls Try.prog 17 #[.slice (some ad) n c, .int .i64 a0] V1 fun e V => e = .returned (.int .i64 ((n : Int) - 1)) ∧ V.cell? ⟨g, 0, none⟩ = some (.int .i64 N) ∧ V.cell? ⟨g, 1, none⟩ = some (.slice p1 q1 r1) ∧ V.cell? ⟨g, 2, none⟩ = some (.slice p2 q2 r2) ∧ V.cell? ⟨g, 3, none⟩ = some (.slice X' n1 c1) ∧ V.cell? ⟨g, 4, none⟩ = some (.slice Y j2 cy) ∧ V.cell? ⟨b, 3, none⟩ = some (.slice (some ad) n c) ∧ V.cell? ⟨bl, 0, none⟩ = some (.int .i64 a0) ∧ Below W6.heap.size W6 V) := by
                  rintro V1 ⟨_, _, _, _, _, _, _, h⟩
                  exact (find_val (some ad) n c os a0 V1 ((n : Int) - 1) (HFD.out.1.trans HE.out) HM.out (by omega) (HX6.out.below h).os).mono fun _ _ ⟨e1, e2⟩ => ⟨e1, HCE.out _ (below_next h e2.out)⟩
                obtain ⟨x0, x1, x2, x3, x4, x5, x6, kb0⟩ := HCE.out W6 (Below.refl _ _)
                have kb := kb0.drew
                have HWR : Hid (IntKind.i64.wrap ((n : Int) - 1) = (n : Int) - 1) := by
                  unfold Hid
                  exact IntWalk.i64_in _ (by omega)
                have b7 : (((n : Int) - 1) == ((n : Int) - 1)) = true := by simp
                go_wp2
                go_region_held3 (fun V : World => V.cell? ⟨g, 0, none⟩ = some (.int .i64 N) ∧ V.cell? ⟨g, 1, none⟩ = some (.slice p1 q1 r1) ∧ V.cell? ⟨g, 2, none⟩ = some (.slice p2 q2 r2) ∧ V.cell? ⟨g, 3, none⟩ = some (.slice X' n1 c1) ∧ V.cell? ⟨g, 4, none⟩ = some (.slice Y j2 cy) ∧ V.cell? ⟨b, 3, none⟩ = some (.slice (some ad) n c) ∧ V.cell? ⟨bl, 0, none⟩ = some (.int .i64 a0) ∧ Below W6.heap.size W6 V) (first | exact ⟨x0, x1, x2, x3, x4, x5, x6, kb⟩ | exact ⟨kx0, kx1, kx2, kx3, kx4, kx5, kx6, kkb⟩ | assumption)
                  (first
                    | (go_at_call 11; ((with_reducible refine (HC1.out _ (by assumption)).mono ?_)); rintro e w7 ⟨rfl, kx0, kx1, kx2, kx3, kx4, kx5, kx6, kkb⟩)
                    | (go_at_call 17; ((with_reducible refine (HC2.out _ (by assumption)).mono ?_)); rintro e w7 ⟨rfl, kx0, kx1, kx2, kx3, kx4, kx5, kx6, kkb⟩)
                    | (go_at_call 17; ((with_reducible refine (HC3.out _ (by assumption)).mono ?_)); rintro e w7 ⟨rfl, kx0, kx1, kx2, kx3, kx4, kx5, kx6, kkb⟩))
                all_goals
                  go_wp2
                  go_ret
                  exact ⟨by first | rfl | (show Ending.returned (Value.bool (((n : Int) - 1) == IntKind.i64.wrap ((n : Int) - 1))) = _; rw [HWR.out, b7]), fin_b HBB.out HB1.out (HM6.out.below (by assumption)).bel⟩
            · have b2 : (r != 0) = true := by simp [hr0]
              go_wp2
              go_ret
              exact ⟨rfl, fin_b HBB.out HB1.out HM4.out.bel⟩

theorem walk (N : Int) (v1 v2 : Value) (A : Option Addr) (m c : Nat) (os : List Ld.O) (B : Option Addr) (k d : Nat) (ts : List Ld.T) {W : World} (hv : WorldCame W (.agg #[.int .i64 N, v1, v2, .slice A m c, .slice B k d]) N v1 v2 A m c os B k d ts) :
    Calls Try.prog 5 #[.agg #[.int .i64 N, v1, v2, .slice A m c, .slice B k d]] W fun e w' => e = .returned (.bool true) ∧ Below W.heap.size W w' := by
  by_cases h : 200 < m ∨ 200 < k
  · exact long_any N v1 v2 A m c B k d W hv.mx hv.kx h
  · obtain ⟨p1, q1, r1, rfl⟩ := hv.s1
    obtain ⟨p2, q2, r2, rfl⟩ := hv.s2
    exact short_any N p1 q1 r1 p2 q2 r2 A m c os B k d ts W hv.n hv.ml (by omega) hv.kl (by omega) hv.os hv.ts

set_option maxRecDepth 100000 in
theorem lifted (os : Os) (started : os.Started) (H : Type) (enc : TypeId × Value → H) :
    ReturnsInHanded {} Try.checked os 5 .any (Rows.loadOrderSpec.pre6 enc Try.prog Try.f5 Rows.loadOrderRow.domain false) (Rows.loadOrderSpec.post enc Try.prog Try.f5 false true false false) := by
  refine returnsInHanded_of_change_sized (C := Try.checked) own started (by kernel_rfl) Try.func5
    (ChangeSpec.witness6 (enc := enc) (C := Try.checked) false ⟨#[], #[.agg #[.int .i64 0, .slice none 0 0, .slice none 0 0, .slice none 0 0, .slice none 0 0]], []⟩ 8 (by kernel_rfl) (by kernel_rfl) (by kernel_rfl) (by kernel_rfl)) ?_
  intro W base args ds gs before hval0 hW _ hsz0 _
  have hsz : (DataW.weightsEach Try.prog (Try.f5.params.toList ++ Rows.loadOrderSpec.plain.varTypes Try.prog) (ds ++ gs)).all (· ≤ reachBytes) = true := hsz0
  have hval : ∀ (j : Nat) t v, Try.f5.params[j]? = some t → args[j]? = some v → Value.okWide Try.prog W .any base t v := hval0
  have hW' := hW
  obtain ⟨p, q, hA0, hV, rfl, hfz, hnd⟩ := hW
  have hA : DataW.TrodAll enc Try.prog W 0 (fun _ => true) true Try.f5.params.toList args.toList ds p := hA0
  rw [Try.params5] at hA hval hsz
  obtain ⟨v0, vs0, d0, ds0, p0, q0, hargs, rfl, rfl, h0, r0⟩ := trodAll_cons hA
  obtain ⟨rfl, rfl, rfl⟩ := trodAll_nil r0
  obtain rfl : args = #[v0] := by cases args; simp_all
  obtain ⟨rfl, rfl⟩ := trodVars_none hV
  have k0 := h0
  have lt0 : ∀ x ∈ p0, x.block < W.heap.size := by obtain ⟨m, hm⟩ := k0; exact DataW.trod_lt m _ _ _ hm
  obtain ⟨N0, u0a, u0b, A0, m0, c0, os0, B0, k0n, d0n, ts0, hv0⟩ := open_world (hval 0 28 v0 rfl rfl) h0
  obtain rfl := hv0.val
  clear hA0 hval0
  refine (walk N0 u0a u0b A0 m0 c0 os0 B0 k0n d0n ts0 hv0).mono fun e W' ⟨he, bel⟩ => ?_
  subst he
  exact ⟨_, rfl, _, _, _, [], _, [], hW', trodAll_mk1 (shut_bool Try.underlying4 _), (trodAll_cons_mk (Below.trod laidOut (by kernel_rfl) (of_decide_eq_true (by kernel_rfl)) k0 bel lt0) trodAll_mk0), rfl, bel.frame _, fun h => by cases h⟩

theorem over : Rows.loadOrderRow.holds Try.pinned (OpenSpec.ofChange Rows.loadOrderSpec) :=
  OpenClaim.holds_of_wide 5 Try.f5 rfl rfl rfl rfl rfl rfl rfl ⟨rfl, rfl, rfl, rfl, rfl⟩ rfl rfl rfl rfl rfl (by kernel_rfl) Try.func5 (by kernel_rfl)
    (of_decide_eq_true (by kernel_rfl)) (by unfold Func.isWrapper; first | (rw [if_pos (by decide +kernel)]; kernel_rfl) | (rw [if_neg (by decide +kernel)]; exact ⟨rfl, rfl⟩))
    (fun os started H enc _ => lifted os started H enc)

theorem proved : Rows.LoadOrderSaid := over
end Go.Proofs.Ytgdgdalegoabpaa.loadOrder
