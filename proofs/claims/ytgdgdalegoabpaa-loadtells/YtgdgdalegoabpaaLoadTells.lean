/- Every call of the law that whether any order, truck and world may be, what any orders weigh together, whether any truck carries them, and where any one is, are as the document says, answers true: for every world, truck, list of orders and Id. No conditions. -/
import Derived.Test.YtgdgdalegoabpaaRows
import Derived.Test.YtgdgdalegoabpaaLoadR3
import Derived.WalkKit
import Derived.ProofKit
import Derived.OpenShut
import Derived.ShutString
import Derived.ChangeOld
import Derived.Below
import Derived.SizedLaws
namespace Go.Proofs.Ytgdgdalegoabpaa.loadTells
open Go.ChangeShapes Go.WideShapes Go.ChangeAt Go.RowKit
open Go.ChangeMaps (open_string shut_string)
set_option linter.unusedVariables false

theorem own : ownKnob Try.prog.godebug = none := by kernel_rfl
theorem laidOut : laidOutB Try.prog = true := by kernel_rfl

open Go.Proofs.Ytgdgdalegoabpaa

/-- the world's box and the truck's -/
structure Bx (V : World) (b g : Nat) (N : Int) (v1 v2 : Value) (A : Option Addr) (m c : Nat) (os : List Ld.O) (B : Option Addr) (k d : Nat) (ts : List Ld.T) (tc : Array Value) (L : Option Addr) (l : List Ld.O) : Prop where
  w : WBox V b N v1 v2 A m c os B k d ts
  t : Box V g tc 30
  l : OrdersAt V L l
theorem Bx.below {V V' : World} {b g : Nat} {N : Int} {v1 v2 : Value} {A : Option Addr} {m c : Nat} {os : List Ld.O} {B : Option Addr} {k d : Nat} {ts : List Ld.T} {tc : Array Value} {L : Option Addr} {l : List Ld.O} (h : Bx V b g N v1 v2 A m c os B k d ts tc L l) (hb : Below V.heap.size V V') : Bx V' b g N v1 v2 A m c os B k d ts tc L l := ⟨h.w.below hb, h.t.below hb, h.l.below hb⟩
theorem Bx.new {w : World} {N : Int} {v1 v2 : Value} {A : Option Addr} {m c : Nat} {os : List Ld.O} {B : Option Addr} {k d : Nat} {ts : List Ld.T} {L : Option Addr} {l : List Ld.O} (tc : Array Value) (h1 : OrdersAt w A os) (h2 : TrucksAt w B ts) (h3 : OrdersAt w L l) : Bx ((w.alloc (.cells #[.int .i64 N, v1, v2, .slice A m c, .slice B k d] 28)).alloc (.cells tc 30)) w.heap.size (w.heap.size + 1) N v1 v2 A m c os B k d ts tc L l := by
  refine ⟨(WBox.new h1 h2).below (below_alloc _ _), ?_, (h3.below (below_alloc _ _)).below (below_alloc _ _)⟩
  rw [size_one w (.cells #[.int .i64 N, v1, v2, .slice A m c, .slice B k d] 28)]
  exact Box.new _ _ _

theorem long_any (N : Int) (v1 v2 : Value) (A : Option Addr) (m c : Nat) (B : Option Addr) (k d : Nat) (t0 t1 t2 t3 t4 t5 t6 : Int) (L : Option Addr) (n cl : Nat) (id : Int) (w : World) (hm : m ≤ maxLen) (hk : k ≤ maxLen) (hn : n ≤ maxLen) (h : 200 < n ∨ 200 < m ∨ 200 < k) :
    Calls Try.prog 3 #[.agg #[.int .i64 N, v1, v2, .slice A m c, .slice B k d], .agg #[.int .i64 t0, .int .i64 t1, .int .i64 t2, .int .i64 t3, .int .i64 t4, .int .i64 t5, .int .i64 t6], .slice L n cl, .int .i64 id] w fun e w' => e = .returned (.bool true) ∧ Below w.heap.size w w' := by
  unfold maxLen at hm hk hn
  have HX : Hid (Box ((w.alloc (.cells #[.int .i64 N, v1, v2, .slice A m c, .slice B k d] 28)).alloc (.cells #[.int .i64 t0, .int .i64 t1, .int .i64 t2, .int .i64 t3, .int .i64 t4, .int .i64 t5, .int .i64 t6] 30)) w.heap.size (wV N v1 v2 A m c B k d) 28) := (Box.new _ _ _).below (below_alloc _ _)
  have HB0 : Hid (Below w.heap.size w ((w.alloc (.cells #[.int .i64 N, v1, v2, .slice A m c, .slice B k d] 28)).alloc (.cells #[.int .i64 t0, .int .i64 t1, .int .i64 t2, .int .i64 t3, .int .i64 t4, .int .i64 t5, .int .i64 t6] 30))) := below_more (below_alloc _ _) _
  by_cases h0 : 200 < n
  · have d0 : decide ((200 : Int) < (n : Int)) = true := decide_eq_true (by omega)
    clear h
    go_enter Try.func3, Try.ntmps3
    go_wp2_with fail
    with_reducible refine (awake_any _).mono ?_
    rintro e w1 ⟨rfl, hb1⟩
    have HB1 := Lib.hid (below_next HB0.out hb1)
    clear hb1
    go_wp2
    go_ret
    exact ⟨rfl, HB1.out⟩
  have d0 : decide ((200 : Int) < (n : Int)) = false := decide_eq_false (by omega)
  by_cases h1 : 200 < m
  · have d1 : decide ((200 : Int) < (m : Int)) = true := decide_eq_true (by omega)
    clear h
    go_enter Try.func3, Try.ntmps3
    go_wp2_with fail
    with_reducible refine (awake_any _).mono ?_
    rintro e w1 ⟨rfl, hb1⟩
    have x3 : w1.cell? ⟨w.heap.size, 3, none⟩ = some (.slice A m c) := (HX.out.below hb1).cell 3 _ rfl
    have HB1 := Lib.hid (below_next HB0.out hb1)
    clear hb1
    go_wp2
    go_ret
    exact ⟨rfl, HB1.out⟩
  have d1 : decide ((200 : Int) < (m : Int)) = false := decide_eq_false (by omega)
  have d2 : decide ((200 : Int) < (k : Int)) = true := decide_eq_true (by omega)
  clear h
  go_enter Try.func3, Try.ntmps3
  go_wp2_with fail
  with_reducible refine (awake_any _).mono ?_
  rintro e w1 ⟨rfl, hb1⟩
  have x3 : w1.cell? ⟨w.heap.size, 3, none⟩ = some (.slice A m c) := (HX.out.below hb1).cell 3 _ rfl
  have x4 : w1.cell? ⟨w.heap.size, 4, none⟩ = some (.slice B k d) := (HX.out.below hb1).cell 4 _ rfl
  have HB1 := Lib.hid (below_next HB0.out hb1)
  clear hb1
  go_wp2
  go_ret
  exact ⟨rfl, HB1.out⟩

set_option maxHeartbeats 8000000 in
set_option maxRecDepth 100000 in
theorem short_any (N : Int) (p1 : Option Addr) (q1 r1 : Nat) (p2 : Option Addr) (q2 r2 : Nat) (A : Option Addr) (m c : Nat) (os : List Ld.O) (B : Option Addr) (k d : Nat) (ts : List Ld.T) (t0 t1 t2 t3 t4 t5 t6 : Int) (L : Option Addr) (n cl : Nat) (l : List Ld.O) (id : Int) (w : World) (hN : N ≤ 9223372036854775807) (hm : os.length = m) (hm2 : m ≤ 200) (hk : ts.length = k) (hk2 : k ≤ 200) (hn : l.length = n) (hn2 : n ≤ 200) (hos : OrdersAt w A os) (hts : TrucksAt w B ts) (hl : OrdersAt w L l) :
    Calls Try.prog 3 #[.agg #[.int .i64 N, .slice p1 q1 r1, .slice p2 q2 r2, .slice A m c, .slice B k d], .agg #[.int .i64 t0, .int .i64 t1, .int .i64 t2, .int .i64 t3, .int .i64 t4, .int .i64 t5, .int .i64 t6], .slice L n cl, .int .i64 id] w fun e w' => e = .returned (.bool true) ∧ Below w.heap.size w w' := by
  have HB0 : Hid (Below w.heap.size w ((w.alloc (.cells #[.int .i64 N, .slice p1 q1 r1, .slice p2 q2 r2, .slice A m c, .slice B k d] 28)).alloc (.cells #[.int .i64 t0, .int .i64 t1, .int .i64 t2, .int .i64 t3, .int .i64 t4, .int .i64 t5, .int .i64 t6] 30))) := below_more (below_alloc _ _) _
  have HX := Lib.hid (Bx.new (N := N) (v1 := .slice p1 q1 r1) (v2 := .slice p2 q2 r2) (m := m) (c := c) (k := k) (d := d) #[.int .i64 t0, .int .i64 t1, .int .i64 t2, .int .i64 t3, .int .i64 t4, .int .i64 t5, .int .i64 t6] hos hts hl)
  have HM := Lib.hid hm
  have HK := Lib.hid hk
  have HN := Lib.hid hn
  have d0 : decide ((200 : Int) < (n : Int)) = false := decide_eq_false (by omega)
  have d1 : decide ((200 : Int) < (m : Int)) = false := decide_eq_false (by omega)
  have d2 : decide ((200 : Int) < (k : Int)) = false := decide_eq_false (by omega)
  clear hos hts hl hm hk hn
  go_enter Try.func3, Try.ntmps3
  go_wp2_with fail
  generalize ((w.alloc (.cells #[.int .i64 N, .slice p1 q1 r1, .slice p2 q2 r2, .slice A m c, .slice B k d] 28)).alloc (.cells #[.int .i64 t0, .int .i64 t1, .int .i64 t2, .int .i64 t3, .int .i64 t4, .int .i64 t5, .int .i64 t6] 30)) = V at *
  generalize w.heap.size + 1 = g at *
  with_reducible refine (awake_any V).mono ?_
  rintro e w1 ⟨rfl, hb1⟩
  have HX1 := Lib.hid (HX.out.below hb1)
  have HB1 := Lib.hid (below_next HB0.out hb1)
  clear hb1 HX HB0
  generalize hbb : w.heap.size = b at HX1 ⊢
  have HBB := Lib.hid hbb
  clear hbb
  have x3 := HX1.out.w.c3
  have x4 := HX1.out.w.c4
  go_wp2_with fail
  clear x3 x4
  go_loopg [37] m (fun gk s37 Wx => ∃ (W : World) (j : Nat), W = Wx ∧ j + gk = m ∧ s37 = .int .i64 j ∧ Hid (Below w1.heap.size w1 W))
  case atStart => exact ⟨_, 0, rfl, by omega, rfl, Below.refl _ _⟩
  case round =>
    obtain ⟨W, j, rfl, hjg, rfl, HB⟩ := hrel
    by_cases hlt : j < m
    · obtain ⟨gk, rfl⟩ : ∃ i, gk = i + 1 := ⟨gk - 1, by omega⟩
      obtain ⟨s, hs⟩ := mlist_at os j (by rw [HM.out]; exact hlt)
      obtain ⟨ad, rfl, hc⟩ := (HX1.out.below HB.out).w.os.at_ hs
      obtain ⟨c0, c1, c2, c3, c4, c5, c6, c7⟩ := hc
      obtain ⟨a0, a1, a2, a3, a4, a5, a6, a7⟩ := s
      simp only at c0 c1 c2 c3 c4 c5 c6 c7
      have HBX := Lib.hid (Box.new W #[.int .i64 a0, .int .i64 a1, .int .i64 a2, .int .i64 a3, .int .i64 a4, .int .i64 a5, .int .i64 a6, .int .i64 a7] 33)
      have HBL := Lib.hid (below_more HB.out (.cells #[.int .i64 a0, .int .i64 a1, .int .i64 a2, .int .i64 a3, .int .i64 a4, .int .i64 a5, .int .i64 a6, .int .i64 a7] 33))
      go_wp2_with fail
      clear hs c0 c1 c2 c3 c4 c5 c6 c7
      generalize W.alloc (.cells #[.int .i64 a0, .int .i64 a1, .int .i64 a2, .int .i64 a3, .int .i64 a4, .int .i64 a5, .int .i64 a6, .int .i64 a7] 33) = V1 at *
      generalize W.heap.size = h at *
      obtain ⟨r, hr⟩ : ∃ r, Ld.oE ⟨a0, a1, a2, a3, a4, a5, a6, a7⟩ N = r := ⟨_, rfl⟩
      have HR := Lib.hid hr
      clear hr
      have HCE : Hid (∀ U, Below V1.heap.size V1 U → U.cell? ⟨h, 0, none⟩ = some (.int .i64 a0) ∧ U.cell? ⟨h, 1, none⟩ = some (.int .i64 a1) ∧ U.cell? ⟨h, 2, none⟩ = some (.int .i64 a2) ∧ U.cell? ⟨h, 3, none⟩ = some (.int .i64 a3) ∧ U.cell? ⟨h, 4, none⟩ = some (.int .i64 a4) ∧ U.cell? ⟨h, 5, none⟩ = some (.int .i64 a5) ∧ U.cell? ⟨h, 6, none⟩ = some (.int .i64 a6) ∧ U.cell? ⟨h, 7, none⟩ = some (.int .i64 a7) ∧ U.cell? ⟨b, 0, none⟩ = some (.int .i64 N) ∧ Below V1.heap.size V1 U) := fun U hb => ⟨(HBX.out.below hb).cell 0 _ rfl, (HBX.out.below hb).cell 1 _ rfl, (HBX.out.below hb).cell 2 _ rfl, (HBX.out.below hb).cell 3 _ rfl, (HBX.out.below hb).cell 4 _ rfl, (HBX.out.below hb).cell 5 _ rfl, (HBX.out.below hb).cell 6 _ rfl, (HBX.out.below hb).cell 7 _ rfl, (HX1.out.below (below_next HBL.out hb)).w.c0, hb⟩
      have HC1 : Hid (∀ U, (U.cell? ⟨h, 0, none⟩ = some (.int .i64 a0) ∧ U.cell? ⟨h, 1, none⟩ = some (.int .i64 a1) ∧ U.cell? ⟨h, 2, none⟩ = some (.int .i64 a2) ∧ U.cell? ⟨h, 3, none⟩ = some (.int .i64 a3) ∧ U.cell? ⟨h, 4, none⟩ = some (.int .i64 a4) ∧ U.cell? ⟨h, 5, none⟩ = some (.int .i64 a5) ∧ U.cell? ⟨h, 6, none⟩ = some (.int .i64 a6) ∧ U.cell? ⟨h, 7, none⟩ = some (.int .i64 a7) ∧ U.cell? ⟨b, 0, none⟩ = some (.int .i64 N) ∧ Below V1.heap.size V1 U) → Calls Try.prog 7 #[.agg #[.int .i64 a0, .int .i64 a1, .int .i64 a2, .int .i64 a3, .int .i64 a4, .int .i64 a5, .int .i64 a6, .int .i64 a7], .int .i64 N] U fun e U => e = .returned (.int .i64 r) ∧ U.cell? ⟨h, 0, none⟩ = some (.int .i64 a0) ∧ U.cell? ⟨h, 1, none⟩ = some (.int .i64 a1) ∧ U.cell? ⟨h, 2, none⟩ = some (.int .i64 a2) ∧ U.cell? ⟨h, 3, none⟩ = some (.int .i64 a3) ∧ U.cell? ⟨h, 4, none⟩ = some (.int .i64 a4) ∧ U.cell? ⟨h, 5, none⟩ = some (.int .i64 a5) ∧ U.cell? ⟨h, 6, none⟩ = some (.int .i64 a6) ∧ U.cell? ⟨h, 7, none⟩ = some (.int .i64 a7) ∧ U.cell? ⟨b, 0, none⟩ = some (.int .i64 N) ∧ Below V1.heap.size V1 U) := by
        rintro U ⟨_, _, _, _, _, _, _, _, _, h⟩
        exact (order_any ⟨a0, a1, a2, a3, a4, a5, a6, a7⟩ N U r HR.out hN).mono fun _ _ ⟨e1, e2⟩ => ⟨e1, HCE.out _ (below_next h e2.out)⟩
      have HC2 : Hid (∀ U, (U.cell? ⟨h, 0, none⟩ = some (.int .i64 a0) ∧ U.cell? ⟨h, 1, none⟩ = some (.int .i64 a1) ∧ U.cell? ⟨h, 2, none⟩ = some (.int .i64 a2) ∧ U.cell? ⟨h, 3, none⟩ = some (.int .i64 a3) ∧ U.cell? ⟨h, 4, none⟩ = some (.int .i64 a4) ∧ U.cell? ⟨h, 5, none⟩ = some (.int .i64 a5) ∧ U.cell? ⟨h, 6, none⟩ = some (.int .i64 a6) ∧ U.cell? ⟨h, 7, none⟩ = some (.int .i64 a7) ∧ U.cell? ⟨b, 0, none⟩ = some (.int .i64 N) ∧ Below V1.heap.size V1 U) → Calls Try.prog 8 #[.agg #[.int .i64 a0, .int .i64 a1, .int .i64 a2, .int .i64 a3, .int .i64 a4, .int .i64 a5, .int .i64 a6, .int .i64 a7], .int .i64 N] U fun e U => e = .returned (.int .i64 r) ∧ U.cell? ⟨h, 0, none⟩ = some (.int .i64 a0) ∧ U.cell? ⟨h, 1, none⟩ = some (.int .i64 a1) ∧ U.cell? ⟨h, 2, none⟩ = some (.int .i64 a2) ∧ U.cell? ⟨h, 3, none⟩ = some (.int .i64 a3) ∧ U.cell? ⟨h, 4, none⟩ = some (.int .i64 a4) ∧ U.cell? ⟨h, 5, none⟩ = some (.int .i64 a5) ∧ U.cell? ⟨h, 6, none⟩ = some (.int .i64 a6) ∧ U.cell? ⟨h, 7, none⟩ = some (.int .i64 a7) ∧ U.cell? ⟨b, 0, none⟩ = some (.int .i64 N) ∧ Below V1.heap.size V1 U) := by
        rintro U ⟨_, _, _, _, _, _, _, _, _, h⟩
        exact (rorder_any ⟨a0, a1, a2, a3, a4, a5, a6, a7⟩ N U r HR.out).mono fun _ _ ⟨e1, e2⟩ => ⟨e1, HCE.out _ (below_next h e2.out)⟩
      obtain ⟨y0, y1, y2, y3, y4, y5, y6, y7, y8, hB0⟩ := HCE.out V1 (Below.refl _ _)
      have hB := hB0.drew
      have b1 : (r != r) = false := by simp
      go_wp2
      go_region_held3 (fun U : World => U.cell? ⟨h, 0, none⟩ = some (.int .i64 a0) ∧ U.cell? ⟨h, 1, none⟩ = some (.int .i64 a1) ∧ U.cell? ⟨h, 2, none⟩ = some (.int .i64 a2) ∧ U.cell? ⟨h, 3, none⟩ = some (.int .i64 a3) ∧ U.cell? ⟨h, 4, none⟩ = some (.int .i64 a4) ∧ U.cell? ⟨h, 5, none⟩ = some (.int .i64 a5) ∧ U.cell? ⟨h, 6, none⟩ = some (.int .i64 a6) ∧ U.cell? ⟨h, 7, none⟩ = some (.int .i64 a7) ∧ U.cell? ⟨b, 0, none⟩ = some (.int .i64 N) ∧ Below V1.heap.size V1 U) (first | exact ⟨y0, y1, y2, y3, y4, y5, y6, y7, y8, hB⟩ | exact ⟨k0, k1, k2, k3, k4, k5, k6, k7, k8, kb⟩ | assumption)
        (first
          | (go_at_call 7; ((with_reducible refine (HC1.out _ (by assumption)).mono ?_)); rintro e w7 ⟨rfl, k0, k1, k2, k3, k4, k5, k6, k7, k8, kb⟩)
          | (go_at_call 8; ((with_reducible refine (HC2.out _ (by assumption)).mono ?_)); rintro e w7 ⟨rfl, k0, k1, k2, k3, k4, k5, k6, k7, k8, kb⟩))
      all_goals
        have KB := Lib.hid (below_next HBL.out kb)
        clear k0 k1 k2 k3 k4 k5 k6 k7 k8 kb y0 y1 y2 y3 y4 y5 y6 y7 y8 hB0 hB HC1 HC2
        go_wp2
        go_roundg gk
        case measure => omega
        case rel => exact ⟨_, j + 1, rfl, by omega, by first | rfl | go_num, KB.out⟩
    · obtain rfl : j = m := by omega
      clear hlt
      obtain ⟨sx, sy, se, hse⟩ : ∃ sx sy se, Ld.sumE l = (sx, sy, se) := ⟨_, _, _, rfl⟩
      obtain ⟨rw, hrw⟩ : ∃ r, Ld.worldE N os ts = r := ⟨_, rfl⟩
      obtain ⟨rt, hrt⟩ : ∃ r, Ld.tE ⟨t0, t1, t2, t3, t4, t5, t6⟩ = r := ⟨_, rfl⟩
      obtain ⟨rc, hrc⟩ : ∃ r, Ld.carE ⟨t0, t1, t2, t3, t4, t5, t6⟩ l = r := ⟨_, rfl⟩
      obtain ⟨rf, hrf⟩ : ∃ r, Ld.findI (l.map Ld.O.id) id = r := ⟨_, rfl⟩
      have HQse := Lib.hid hse
      have HQrw := Lib.hid hrw
      have HQrt := Lib.hid hrt
      have HQrc := Lib.hid hrc
      have HQrf := Lib.hid hrf
      clear hse hrw hrt hrc hrf
      go_wp2_with fail
      with_reducible refine (sum_val L n cl l _ sx sy se HQse.out HN.out (by omega) (HX1.out.below HB.out).l).mono ?_
      rintro e w2 ⟨rfl, hb2⟩
      have HP2 := Lib.hid (below_next HB.out hb2.out)
      clear hb2
      go_wp2_with fail
      with_reducible refine (rsum_val L n cl l _ sx sy se HQse.out HN.out (by omega) (HX1.out.below HP2.out).l).mono ?_
      rintro e w3 ⟨rfl, hb3⟩
      have HP3 := Lib.hid (below_next HP2.out hb3.out)
      clear hb3 HP2
      have HCE : Hid (∀ U, Below w1.heap.size w1 U → U.cell? ⟨b, 0, none⟩ = some (.int .i64 N) ∧ U.cell? ⟨b, 1, none⟩ = some (.slice p1 q1 r1) ∧ U.cell? ⟨b, 2, none⟩ = some (.slice p2 q2 r2) ∧ U.cell? ⟨b, 3, none⟩ = some (.slice A j c) ∧ U.cell? ⟨b, 4, none⟩ = some (.slice B k d) ∧ U.cell? ⟨g, 0, none⟩ = some (.int .i64 t0) ∧ U.cell? ⟨g, 1, none⟩ = some (.int .i64 t1) ∧ U.cell? ⟨g, 2, none⟩ = some (.int .i64 t2) ∧ U.cell? ⟨g, 3, none⟩ = some (.int .i64 t3) ∧ U.cell? ⟨g, 4, none⟩ = some (.int .i64 t4) ∧ U.cell? ⟨g, 5, none⟩ = some (.int .i64 t5) ∧ U.cell? ⟨g, 6, none⟩ = some (.int .i64 t6) ∧ Below w1.heap.size w1 U) := fun U hb => ⟨(HX1.out.below hb).w.c0, (HX1.out.below hb).w.c1, (HX1.out.below hb).w.c2, (HX1.out.below hb).w.c3, (HX1.out.below hb).w.c4, (HX1.out.below hb).t.cell 0 _ rfl, (HX1.out.below hb).t.cell 1 _ rfl, (HX1.out.below hb).t.cell 2 _ rfl, (HX1.out.below hb).t.cell 3 _ rfl, (HX1.out.below hb).t.cell 4 _ rfl, (HX1.out.below hb).t.cell 5 _ rfl, (HX1.out.below hb).t.cell 6 _ rfl, hb⟩
      have HC0 : Hid (∀ U, (U.cell? ⟨b, 0, none⟩ = some (.int .i64 N) ∧ U.cell? ⟨b, 1, none⟩ = some (.slice p1 q1 r1) ∧ U.cell? ⟨b, 2, none⟩ = some (.slice p2 q2 r2) ∧ U.cell? ⟨b, 3, none⟩ = some (.slice A j c) ∧ U.cell? ⟨b, 4, none⟩ = some (.slice B k d) ∧ U.cell? ⟨g, 0, none⟩ = some (.int .i64 t0) ∧ U.cell? ⟨g, 1, none⟩ = some (.int .i64 t1) ∧ U.cell? ⟨g, 2, none⟩ = some (.int .i64 t2) ∧ U.cell? ⟨g, 3, none⟩ = some (.int .i64 t3) ∧ U.cell? ⟨g, 4, none⟩ = some (.int .i64 t4) ∧ U.cell? ⟨g, 5, none⟩ = some (.int .i64 t5) ∧ U.cell? ⟨g, 6, none⟩ = some (.int .i64 t6) ∧ Below w1.heap.size w1 U) → Calls Try.prog 11 #[.agg #[.int .i64 N, .slice p1 q1 r1, .slice p2 q2 r2, .slice A j c, .slice B k d]] U fun e U => e = .returned (.int .i64 rw) ∧ U.cell? ⟨b, 0, none⟩ = some (.int .i64 N) ∧ U.cell? ⟨b, 1, none⟩ = some (.slice p1 q1 r1) ∧ U.cell? ⟨b, 2, none⟩ = some (.slice p2 q2 r2) ∧ U.cell? ⟨b, 3, none⟩ = some (.slice A j c) ∧ U.cell? ⟨b, 4, none⟩ = some (.slice B k d) ∧ U.cell? ⟨g, 0, none⟩ = some (.int .i64 t0) ∧ U.cell? ⟨g, 1, none⟩ = some (.int .i64 t1) ∧ U.cell? ⟨g, 2, none⟩ = some (.int .i64 t2) ∧ U.cell? ⟨g, 3, none⟩ = some (.int .i64 t3) ∧ U.cell? ⟨g, 4, none⟩ = some (.int .i64 t4) ∧ U.cell? ⟨g, 5, none⟩ = some (.int .i64 t5) ∧ U.cell? ⟨g, 6, none⟩ = some (.int .i64 t6) ∧ Below w1.heap.size w1 U) := by
        rintro U ⟨_, _, _, _, _, _, _, _, _, _, _, _, h⟩
        exact (world_b N (.slice p1 q1 r1) (.slice p2 q2 r2) A j c os B k d ts U rw HQrw.out hN HM.out (by omega) HK.out (by omega) (HX1.out.below h).w.os (HX1.out.below h).w.ts).mono fun _ _ ⟨e1, e2⟩ => ⟨e1, HCE.out _ (below_next h e2.out)⟩
      have HC1 : Hid (∀ U, (U.cell? ⟨b, 0, none⟩ = some (.int .i64 N) ∧ U.cell? ⟨b, 1, none⟩ = some (.slice p1 q1 r1) ∧ U.cell? ⟨b, 2, none⟩ = some (.slice p2 q2 r2) ∧ U.cell? ⟨b, 3, none⟩ = some (.slice A j c) ∧ U.cell? ⟨b, 4, none⟩ = some (.slice B k d) ∧ U.cell? ⟨g, 0, none⟩ = some (.int .i64 t0) ∧ U.cell? ⟨g, 1, none⟩ = some (.int .i64 t1) ∧ U.cell? ⟨g, 2, none⟩ = some (.int .i64 t2) ∧ U.cell? ⟨g, 3, none⟩ = some (.int .i64 t3) ∧ U.cell? ⟨g, 4, none⟩ = some (.int .i64 t4) ∧ U.cell? ⟨g, 5, none⟩ = some (.int .i64 t5) ∧ U.cell? ⟨g, 6, none⟩ = some (.int .i64 t6) ∧ Below w1.heap.size w1 U) → Calls Try.prog 12 #[.agg #[.int .i64 N, .slice p1 q1 r1, .slice p2 q2 r2, .slice A j c, .slice B k d]] U fun e U => e = .returned (.int .i64 rw) ∧ U.cell? ⟨b, 0, none⟩ = some (.int .i64 N) ∧ U.cell? ⟨b, 1, none⟩ = some (.slice p1 q1 r1) ∧ U.cell? ⟨b, 2, none⟩ = some (.slice p2 q2 r2) ∧ U.cell? ⟨b, 3, none⟩ = some (.slice A j c) ∧ U.cell? ⟨b, 4, none⟩ = some (.slice B k d) ∧ U.cell? ⟨g, 0, none⟩ = some (.int .i64 t0) ∧ U.cell? ⟨g, 1, none⟩ = some (.int .i64 t1) ∧ U.cell? ⟨g, 2, none⟩ = some (.int .i64 t2) ∧ U.cell? ⟨g, 3, none⟩ = some (.int .i64 t3) ∧ U.cell? ⟨g, 4, none⟩ = some (.int .i64 t4) ∧ U.cell? ⟨g, 5, none⟩ = some (.int .i64 t5) ∧ U.cell? ⟨g, 6, none⟩ = some (.int .i64 t6) ∧ Below w1.heap.size w1 U) := by
        rintro U ⟨_, _, _, _, _, _, _, _, _, _, _, _, h⟩
        exact (rworld_val N (.slice p1 q1 r1) (.slice p2 q2 r2) A j c os B k d ts U rw HQrw.out HM.out (by omega) HK.out (by omega) (HX1.out.below h).w.os (HX1.out.below h).w.ts).mono fun _ _ ⟨e1, e2⟩ => ⟨e1, HCE.out _ (below_next h e2.out)⟩
      have HC2 : Hid (∀ U, (U.cell? ⟨b, 0, none⟩ = some (.int .i64 N) ∧ U.cell? ⟨b, 1, none⟩ = some (.slice p1 q1 r1) ∧ U.cell? ⟨b, 2, none⟩ = some (.slice p2 q2 r2) ∧ U.cell? ⟨b, 3, none⟩ = some (.slice A j c) ∧ U.cell? ⟨b, 4, none⟩ = some (.slice B k d) ∧ U.cell? ⟨g, 0, none⟩ = some (.int .i64 t0) ∧ U.cell? ⟨g, 1, none⟩ = some (.int .i64 t1) ∧ U.cell? ⟨g, 2, none⟩ = some (.int .i64 t2) ∧ U.cell? ⟨g, 3, none⟩ = some (.int .i64 t3) ∧ U.cell? ⟨g, 4, none⟩ = some (.int .i64 t4) ∧ U.cell? ⟨g, 5, none⟩ = some (.int .i64 t5) ∧ U.cell? ⟨g, 6, none⟩ = some (.int .i64 t6) ∧ Below w1.heap.size w1 U) → Calls Try.prog 13 #[.agg #[.int .i64 t0, .int .i64 t1, .int .i64 t2, .int .i64 t3, .int .i64 t4, .int .i64 t5, .int .i64 t6]] U fun e U => e = .returned (.int .i64 rt) ∧ U.cell? ⟨b, 0, none⟩ = some (.int .i64 N) ∧ U.cell? ⟨b, 1, none⟩ = some (.slice p1 q1 r1) ∧ U.cell? ⟨b, 2, none⟩ = some (.slice p2 q2 r2) ∧ U.cell? ⟨b, 3, none⟩ = some (.slice A j c) ∧ U.cell? ⟨b, 4, none⟩ = some (.slice B k d) ∧ U.cell? ⟨g, 0, none⟩ = some (.int .i64 t0) ∧ U.cell? ⟨g, 1, none⟩ = some (.int .i64 t1) ∧ U.cell? ⟨g, 2, none⟩ = some (.int .i64 t2) ∧ U.cell? ⟨g, 3, none⟩ = some (.int .i64 t3) ∧ U.cell? ⟨g, 4, none⟩ = some (.int .i64 t4) ∧ U.cell? ⟨g, 5, none⟩ = some (.int .i64 t5) ∧ U.cell? ⟨g, 6, none⟩ = some (.int .i64 t6) ∧ Below w1.heap.size w1 U) := by
        rintro U ⟨_, _, _, _, _, _, _, _, _, _, _, _, h⟩
        exact (truck_any ⟨t0, t1, t2, t3, t4, t5, t6⟩ U rt HQrt.out).mono fun _ _ ⟨e1, e2⟩ => ⟨e1, HCE.out _ (below_next h e2.out)⟩
      have HC3 : Hid (∀ U, (U.cell? ⟨b, 0, none⟩ = some (.int .i64 N) ∧ U.cell? ⟨b, 1, none⟩ = some (.slice p1 q1 r1) ∧ U.cell? ⟨b, 2, none⟩ = some (.slice p2 q2 r2) ∧ U.cell? ⟨b, 3, none⟩ = some (.slice A j c) ∧ U.cell? ⟨b, 4, none⟩ = some (.slice B k d) ∧ U.cell? ⟨g, 0, none⟩ = some (.int .i64 t0) ∧ U.cell? ⟨g, 1, none⟩ = some (.int .i64 t1) ∧ U.cell? ⟨g, 2, none⟩ = some (.int .i64 t2) ∧ U.cell? ⟨g, 3, none⟩ = some (.int .i64 t3) ∧ U.cell? ⟨g, 4, none⟩ = some (.int .i64 t4) ∧ U.cell? ⟨g, 5, none⟩ = some (.int .i64 t5) ∧ U.cell? ⟨g, 6, none⟩ = some (.int .i64 t6) ∧ Below w1.heap.size w1 U) → Calls Try.prog 14 #[.agg #[.int .i64 t0, .int .i64 t1, .int .i64 t2, .int .i64 t3, .int .i64 t4, .int .i64 t5, .int .i64 t6]] U fun e U => e = .returned (.int .i64 rt) ∧ U.cell? ⟨b, 0, none⟩ = some (.int .i64 N) ∧ U.cell? ⟨b, 1, none⟩ = some (.slice p1 q1 r1) ∧ U.cell? ⟨b, 2, none⟩ = some (.slice p2 q2 r2) ∧ U.cell? ⟨b, 3, none⟩ = some (.slice A j c) ∧ U.cell? ⟨b, 4, none⟩ = some (.slice B k d) ∧ U.cell? ⟨g, 0, none⟩ = some (.int .i64 t0) ∧ U.cell? ⟨g, 1, none⟩ = some (.int .i64 t1) ∧ U.cell? ⟨g, 2, none⟩ = some (.int .i64 t2) ∧ U.cell? ⟨g, 3, none⟩ = some (.int .i64 t3) ∧ U.cell? ⟨g, 4, none⟩ = some (.int .i64 t4) ∧ U.cell? ⟨g, 5, none⟩ = some (.int .i64 t5) ∧ U.cell? ⟨g, 6, none⟩ = some (.int .i64 t6) ∧ Below w1.heap.size w1 U) := by
        rintro U ⟨_, _, _, _, _, _, _, _, _, _, _, _, h⟩
        exact (rtruck_any ⟨t0, t1, t2, t3, t4, t5, t6⟩ U rt HQrt.out).mono fun _ _ ⟨e1, e2⟩ => ⟨e1, HCE.out _ (below_next h e2.out)⟩
      have HC4 : Hid (∀ U, (U.cell? ⟨b, 0, none⟩ = some (.int .i64 N) ∧ U.cell? ⟨b, 1, none⟩ = some (.slice p1 q1 r1) ∧ U.cell? ⟨b, 2, none⟩ = some (.slice p2 q2 r2) ∧ U.cell? ⟨b, 3, none⟩ = some (.slice A j c) ∧ U.cell? ⟨b, 4, none⟩ = some (.slice B k d) ∧ U.cell? ⟨g, 0, none⟩ = some (.int .i64 t0) ∧ U.cell? ⟨g, 1, none⟩ = some (.int .i64 t1) ∧ U.cell? ⟨g, 2, none⟩ = some (.int .i64 t2) ∧ U.cell? ⟨g, 3, none⟩ = some (.int .i64 t3) ∧ U.cell? ⟨g, 4, none⟩ = some (.int .i64 t4) ∧ U.cell? ⟨g, 5, none⟩ = some (.int .i64 t5) ∧ U.cell? ⟨g, 6, none⟩ = some (.int .i64 t6) ∧ Below w1.heap.size w1 U) → Calls Try.prog 15 #[.agg #[.int .i64 t0, .int .i64 t1, .int .i64 t2, .int .i64 t3, .int .i64 t4, .int .i64 t5, .int .i64 t6], .slice L n cl] U fun e U => e = .returned (.int .i64 rc) ∧ U.cell? ⟨b, 0, none⟩ = some (.int .i64 N) ∧ U.cell? ⟨b, 1, none⟩ = some (.slice p1 q1 r1) ∧ U.cell? ⟨b, 2, none⟩ = some (.slice p2 q2 r2) ∧ U.cell? ⟨b, 3, none⟩ = some (.slice A j c) ∧ U.cell? ⟨b, 4, none⟩ = some (.slice B k d) ∧ U.cell? ⟨g, 0, none⟩ = some (.int .i64 t0) ∧ U.cell? ⟨g, 1, none⟩ = some (.int .i64 t1) ∧ U.cell? ⟨g, 2, none⟩ = some (.int .i64 t2) ∧ U.cell? ⟨g, 3, none⟩ = some (.int .i64 t3) ∧ U.cell? ⟨g, 4, none⟩ = some (.int .i64 t4) ∧ U.cell? ⟨g, 5, none⟩ = some (.int .i64 t5) ∧ U.cell? ⟨g, 6, none⟩ = some (.int .i64 t6) ∧ Below w1.heap.size w1 U) := by
        rintro U ⟨_, _, _, _, _, _, _, _, _, _, _, _, h⟩
        exact (car_val ⟨t0, t1, t2, t3, t4, t5, t6⟩ L n cl l U rc HQrc.out HN.out (by omega) (HX1.out.below h).l).mono fun _ _ ⟨e1, e2⟩ => ⟨e1, HCE.out _ (below_next h e2.out)⟩
      have HC5 : Hid (∀ U, (U.cell? ⟨b, 0, none⟩ = some (.int .i64 N) ∧ U.cell? ⟨b, 1, none⟩ = some (.slice p1 q1 r1) ∧ U.cell? ⟨b, 2, none⟩ = some (.slice p2 q2 r2) ∧ U.cell? ⟨b, 3, none⟩ = some (.slice A j c) ∧ U.cell? ⟨b, 4, none⟩ = some (.slice B k d) ∧ U.cell? ⟨g, 0, none⟩ = some (.int .i64 t0) ∧ U.cell? ⟨g, 1, none⟩ = some (.int .i64 t1) ∧ U.cell? ⟨g, 2, none⟩ = some (.int .i64 t2) ∧ U.cell? ⟨g, 3, none⟩ = some (.int .i64 t3) ∧ U.cell? ⟨g, 4, none⟩ = some (.int .i64 t4) ∧ U.cell? ⟨g, 5, none⟩ = some (.int .i64 t5) ∧ U.cell? ⟨g, 6, none⟩ = some (.int .i64 t6) ∧ Below w1.heap.size w1 U) → Calls Try.prog 16 #[.agg #[.int .i64 t0, .int .i64 t1, .int .i64 t2, .int .i64 t3, .int .i64 t4, .int .i64 t5, .int .i64 t6], .slice L n cl] U fun e U => e = .returned (.int .i64 rc) ∧ U.cell? ⟨b, 0, none⟩ = some (.int .i64 N) ∧ U.cell? ⟨b, 1, none⟩ = some (.slice p1 q1 r1) ∧ U.cell? ⟨b, 2, none⟩ = some (.slice p2 q2 r2) ∧ U.cell? ⟨b, 3, none⟩ = some (.slice A j c) ∧ U.cell? ⟨b, 4, none⟩ = some (.slice B k d) ∧ U.cell? ⟨g, 0, none⟩ = some (.int .i64 t0) ∧ U.cell? ⟨g, 1, none⟩ = some (.int .i64 t1) ∧ U.cell? ⟨g, 2, none⟩ = some (.int .i64 t2) ∧ U.cell? ⟨g, 3, none⟩ = some (.int .i64 t3) ∧ U.cell? ⟨g, 4, none⟩ = some (.int .i64 t4) ∧ U.cell? ⟨g, 5, none⟩ = some (.int .i64 t5) ∧ U.cell? ⟨g, 6, none⟩ = some (.int .i64 t6) ∧ Below w1.heap.size w1 U) := by
        rintro U ⟨_, _, _, _, _, _, _, _, _, _, _, _, h⟩
        exact (rcar_val ⟨t0, t1, t2, t3, t4, t5, t6⟩ L n cl l U rc HQrc.out HN.out (by omega) (HX1.out.below h).l).mono fun _ _ ⟨e1, e2⟩ => ⟨e1, HCE.out _ (below_next h e2.out)⟩
      have HC6 : Hid (∀ U, (U.cell? ⟨b, 0, none⟩ = some (.int .i64 N) ∧ U.cell? ⟨b, 1, none⟩ = some (.slice p1 q1 r1) ∧ U.cell? ⟨b, 2, none⟩ = some (.slice p2 q2 r2) ∧ U.cell? ⟨b, 3, none⟩ = some (.slice A j c) ∧ U.cell? ⟨b, 4, none⟩ = some (.slice B k d) ∧ U.cell? ⟨g, 0, none⟩ = some (.int .i64 t0) ∧ U.cell? ⟨g, 1, none⟩ = some (.int .i64 t1) ∧ U.cell? ⟨g, 2, none⟩ = some (.int .i64 t2) ∧ U.cell? ⟨g, 3, none⟩ = some (.int .i64 t3) ∧ U.cell? ⟨g, 4, none⟩ = some (.int .i64 t4) ∧ U.cell? ⟨g, 5, none⟩ = some (.int .i64 t5) ∧ U.cell? ⟨g, 6, none⟩ = some (.int .i64 t6) ∧ Below w1.heap.size w1 U) → Calls Try.prog 17 #[.slice L n cl, .int .i64 id] U fun e U => e = .returned (.int .i64 rf) ∧ U.cell? ⟨b, 0, none⟩ = some (.int .i64 N) ∧ U.cell? ⟨b, 1, none⟩ = some (.slice p1 q1 r1) ∧ U.cell? ⟨b, 2, none⟩ = some (.slice p2 q2 r2) ∧ U.cell? ⟨b, 3, none⟩ = some (.slice A j c) ∧ U.cell? ⟨b, 4, none⟩ = some (.slice B k d) ∧ U.cell? ⟨g, 0, none⟩ = some (.int .i64 t0) ∧ U.cell? ⟨g, 1, none⟩ = some (.int .i64 t1) ∧ U.cell? ⟨g, 2, none⟩ = some (.int .i64 t2) ∧ U.cell? ⟨g, 3, none⟩ = some (.int .i64 t3) ∧ U.cell? ⟨g, 4, none⟩ = some (.int .i64 t4) ∧ U.cell? ⟨g, 5, none⟩ = some (.int .i64 t5) ∧ U.cell? ⟨g, 6, none⟩ = some (.int .i64 t6) ∧ Below w1.heap.size w1 U) := by
        rintro U ⟨_, _, _, _, _, _, _, _, _, _, _, _, h⟩
        exact (find_val L n cl l id U rf HQrf.out HN.out (by omega) (HX1.out.below h).l).mono fun _ _ ⟨e1, e2⟩ => ⟨e1, HCE.out _ (below_next h e2.out)⟩
      have HC7 : Hid (∀ U, (U.cell? ⟨b, 0, none⟩ = some (.int .i64 N) ∧ U.cell? ⟨b, 1, none⟩ = some (.slice p1 q1 r1) ∧ U.cell? ⟨b, 2, none⟩ = some (.slice p2 q2 r2) ∧ U.cell? ⟨b, 3, none⟩ = some (.slice A j c) ∧ U.cell? ⟨b, 4, none⟩ = some (.slice B k d) ∧ U.cell? ⟨g, 0, none⟩ = some (.int .i64 t0) ∧ U.cell? ⟨g, 1, none⟩ = some (.int .i64 t1) ∧ U.cell? ⟨g, 2, none⟩ = some (.int .i64 t2) ∧ U.cell? ⟨g, 3, none⟩ = some (.int .i64 t3) ∧ U.cell? ⟨g, 4, none⟩ = some (.int .i64 t4) ∧ U.cell? ⟨g, 5, none⟩ = some (.int .i64 t5) ∧ U.cell? ⟨g, 6, none⟩ = some (.int .i64 t6) ∧ Below w1.heap.size w1 U) → Calls Try.prog 18 #[.slice L n cl, .int .i64 id] U fun e U => e = .returned (.int .i64 rf) ∧ U.cell? ⟨b, 0, none⟩ = some (.int .i64 N) ∧ U.cell? ⟨b, 1, none⟩ = some (.slice p1 q1 r1) ∧ U.cell? ⟨b, 2, none⟩ = some (.slice p2 q2 r2) ∧ U.cell? ⟨b, 3, none⟩ = some (.slice A j c) ∧ U.cell? ⟨b, 4, none⟩ = some (.slice B k d) ∧ U.cell? ⟨g, 0, none⟩ = some (.int .i64 t0) ∧ U.cell? ⟨g, 1, none⟩ = some (.int .i64 t1) ∧ U.cell? ⟨g, 2, none⟩ = some (.int .i64 t2) ∧ U.cell? ⟨g, 3, none⟩ = some (.int .i64 t3) ∧ U.cell? ⟨g, 4, none⟩ = some (.int .i64 t4) ∧ U.cell? ⟨g, 5, none⟩ = some (.int .i64 t5) ∧ U.cell? ⟨g, 6, none⟩ = some (.int .i64 t6) ∧ Below w1.heap.size w1 U) := by
        rintro U ⟨_, _, _, _, _, _, _, _, _, _, _, _, h⟩
        exact (rfind_val L n cl l id U rf HQrf.out HN.out (by omega) (HX1.out.below h).l).mono fun _ _ ⟨e1, e2⟩ => ⟨e1, HCE.out _ (below_next h e2.out)⟩
      obtain ⟨x0, x1, x2, x3, x4, x5, x6, x7, x8, x9, x10, x11, hB0⟩ := HCE.out w3 HP3.out
      have hB := hB0.drew
      have b0 : (rw == rw) = true := by simp
      have b1 : (rt == rt) = true := by simp
      have b2 : (sx == sx) = true := by simp
      have b3 : (sy == sy) = true := by simp
      have b4 : (se == se) = true := by simp
      have b5 : (rc == rc) = true := by simp
      have b6 : (rf == rf) = true := by simp
      clear HCE
      go_wp2
      go_region_held3 (fun U : World => U.cell? ⟨b, 0, none⟩ = some (.int .i64 N) ∧ U.cell? ⟨b, 1, none⟩ = some (.slice p1 q1 r1) ∧ U.cell? ⟨b, 2, none⟩ = some (.slice p2 q2 r2) ∧ U.cell? ⟨b, 3, none⟩ = some (.slice A j c) ∧ U.cell? ⟨b, 4, none⟩ = some (.slice B k d) ∧ U.cell? ⟨g, 0, none⟩ = some (.int .i64 t0) ∧ U.cell? ⟨g, 1, none⟩ = some (.int .i64 t1) ∧ U.cell? ⟨g, 2, none⟩ = some (.int .i64 t2) ∧ U.cell? ⟨g, 3, none⟩ = some (.int .i64 t3) ∧ U.cell? ⟨g, 4, none⟩ = some (.int .i64 t4) ∧ U.cell? ⟨g, 5, none⟩ = some (.int .i64 t5) ∧ U.cell? ⟨g, 6, none⟩ = some (.int .i64 t6) ∧ Below w1.heap.size w1 U) (first | exact ⟨x0, x1, x2, x3, x4, x5, x6, x7, x8, x9, x10, x11, hB⟩ | exact ⟨k0, k1, k2, k3, k4, k5, k6, k7, k8, k9, k10, k11, kb⟩ | assumption)
        (first
          | (go_at_call 11; ((with_reducible refine (HC0.out _ (by assumption)).mono ?_)); rintro e w7 ⟨rfl, k0, k1, k2, k3, k4, k5, k6, k7, k8, k9, k10, k11, kb⟩)
          | (go_at_call 12; ((with_reducible refine (HC1.out _ (by assumption)).mono ?_)); rintro e w7 ⟨rfl, k0, k1, k2, k3, k4, k5, k6, k7, k8, k9, k10, k11, kb⟩)
          | (go_at_call 13; ((with_reducible refine (HC2.out _ (by assumption)).mono ?_)); rintro e w7 ⟨rfl, k0, k1, k2, k3, k4, k5, k6, k7, k8, k9, k10, k11, kb⟩)
          | (go_at_call 14; ((with_reducible refine (HC3.out _ (by assumption)).mono ?_)); rintro e w7 ⟨rfl, k0, k1, k2, k3, k4, k5, k6, k7, k8, k9, k10, k11, kb⟩)
          | (go_at_call 15; ((with_reducible refine (HC4.out _ (by assumption)).mono ?_)); rintro e w7 ⟨rfl, k0, k1, k2, k3, k4, k5, k6, k7, k8, k9, k10, k11, kb⟩)
          | (go_at_call 16; ((with_reducible refine (HC5.out _ (by assumption)).mono ?_)); rintro e w7 ⟨rfl, k0, k1, k2, k3, k4, k5, k6, k7, k8, k9, k10, k11, kb⟩)
          | (go_at_call 17; ((with_reducible refine (HC6.out _ (by assumption)).mono ?_)); rintro e w7 ⟨rfl, k0, k1, k2, k3, k4, k5, k6, k7, k8, k9, k10, k11, kb⟩)
          | (go_at_call 18; ((with_reducible refine (HC7.out _ (by assumption)).mono ?_)); rintro e w7 ⟨rfl, k0, k1, k2, k3, k4, k5, k6, k7, k8, k9, k10, k11, kb⟩))
      all_goals
        have KB := Lib.hid (below_next HB1.out kb)
        clear k0 k1 k2 k3 k4 k5 k6 k7 k8 k9 k10 k11 kb x0 x1 x2 x3 x4 x5 x6 x7 x8 x9 x10 x11
        go_wp2
        go_ret
        exact ⟨rfl, KB.out⟩

theorem walk (N : Int) (v1 v2 : Value) (A : Option Addr) (m c : Nat) (os : List Ld.O) (B : Option Addr) (k d : Nat) (ts : List Ld.T) {W : World} (hv : WorldCame W (.agg #[.int .i64 N, v1, v2, .slice A m c, .slice B k d]) N v1 v2 A m c os B k d ts) (t : Ld.T) (L : Option Addr) (n cl : Nat) (l : List Ld.O) (hl : l.length = n) (hnc : n ≤ cl) (hcm : cl ≤ maxLen) (hll : OrdersAt W L l) (id : Int) (_h : (Lit.int .i64 id).wf = true) :
    Calls Try.prog 3 #[.agg #[.int .i64 N, v1, v2, .slice A m c, .slice B k d], .agg #[.int .i64 t.id, .int .i64 t.weight, .int .i64 t.volume, .int .i64 t.start, .int .i64 t.fin, .int .i64 t.fixed, .int .i64 t.rate], .slice L n cl, .int .i64 id] W fun e w' => e = .returned (.bool true) ∧ Below W.heap.size W w' := by
  by_cases h : 200 < n ∨ 200 < m ∨ 200 < k
  · exact long_any N v1 v2 A m c B k d _ _ _ _ _ _ _ L n cl id W hv.mx hv.kx (Nat.le_trans hnc hcm) h
  · obtain ⟨p1, q1, r1, rfl⟩ := hv.s1
    obtain ⟨p2, q2, r2, rfl⟩ := hv.s2
    exact short_any N p1 q1 r1 p2 q2 r2 A m c os B k d ts _ _ _ _ _ _ _ L n cl l id W hv.n hv.ml (by omega) hv.kl (by omega) hl (by omega) hv.os hv.ts hll

set_option maxRecDepth 100000 in
theorem lifted (os : Os) (started : os.Started) (H : Type) (enc : TypeId × Value → H) :
    ReturnsInHanded {} Try.checked os 3 .any (Rows.loadTellsSpec.pre6 enc Try.prog Try.f3 Rows.loadTellsRow.domain false) (Rows.loadTellsSpec.post enc Try.prog Try.f3 false true false false) := by
  refine returnsInHanded_of_change_sized (C := Try.checked) own started (by kernel_rfl) Try.func3
    (ChangeSpec.witness6 (enc := enc) (C := Try.checked) false ⟨#[], #[.agg #[.int .i64 0, .slice none 0 0, .slice none 0 0, .slice none 0 0, .slice none 0 0], .agg #[.int .i64 0, .int .i64 0, .int .i64 0, .int .i64 0, .int .i64 0, .int .i64 0, .int .i64 0], .slice none 0 0, .int .i64 0], []⟩ 8 (by kernel_rfl) (by kernel_rfl) (by kernel_rfl) (by kernel_rfl)) ?_
  intro W base args ds gs before hval0 hW _ hsz0 _
  have hsz : (DataW.weightsEach Try.prog (Try.f3.params.toList ++ Rows.loadTellsSpec.plain.varTypes Try.prog) (ds ++ gs)).all (· ≤ reachBytes) = true := hsz0
  have hval : ∀ (j : Nat) t v, Try.f3.params[j]? = some t → args[j]? = some v → Value.okWide Try.prog W .any base t v := hval0
  have hW' := hW
  obtain ⟨p, q, hA0, hV, rfl, hfz, hnd⟩ := hW
  have hA : DataW.TrodAll enc Try.prog W 0 (fun _ => true) true Try.f3.params.toList args.toList ds p := hA0
  rw [Try.params3] at hA hval hsz
  obtain ⟨v0, vs0, d0, ds0, p0, q0, hargs, rfl, rfl, h0, r0⟩ := trodAll_cons hA
  obtain ⟨v1, vs1, d1, ds1, p1, q1, rfl, rfl, rfl, h1, r1⟩ := trodAll_cons r0
  obtain ⟨v2, vs2, d2, ds2, p2, q2, rfl, rfl, rfl, h2, r2⟩ := trodAll_cons r1
  obtain ⟨v3, vs3, d3, ds3, p3, q3, rfl, rfl, rfl, h3, r3⟩ := trodAll_cons r2
  obtain ⟨rfl, rfl, rfl⟩ := trodAll_nil r3
  obtain rfl : args = #[v0, v1, v2, v3] := by cases args; simp_all
  obtain ⟨rfl, rfl⟩ := trodVars_none hV
  have k0 := h0
  have lt0 : ∀ x ∈ p0, x.block < W.heap.size := by obtain ⟨m, hm⟩ := k0; exact DataW.trod_lt m _ _ _ hm
  obtain ⟨N0, u0a, u0b, A0, m0, c0, os0, B0, k0n, d0n, ts0, hv0⟩ := open_world (hval 0 28 v0 rfl rfl) h0
  obtain rfl := hv0.val
  have k1 := h1
  have lt1 : ∀ x ∈ p1, x.block < W.heap.size := by obtain ⟨m, hm⟩ := k1; exact DataW.trod_lt m _ _ _ hm
  obtain ⟨t1, rfl⟩ := open_truck (hval 1 30 v1 rfl rfl) h1
  have k2 := h2
  have lt2 : ∀ x ∈ p2, x.block < W.heap.size := by obtain ⟨m, hm⟩ := k2; exact DataW.trod_lt m _ _ _ hm
  obtain ⟨a2, len2, cap2, l2, rfl, hl2, hlc2, hcm2, hv2⟩ := open_orders (hval 2 25 v2 rfl rfl) h2
  obtain ⟨a3, rfl, rfl, rfl, w3⟩ := open_int Try.underlying3 (hval 3 3 v3 rfl rfl) h3
  clear hA0 hval0
  refine (walk N0 u0a u0b A0 m0 c0 os0 B0 k0n d0n ts0 hv0 t1 a2 len2 cap2 l2 hl2 hlc2 hcm2 hv2 a3 w3).mono fun e W' ⟨he, bel⟩ => ?_
  subst he
  exact ⟨_, rfl, _, _, _, [], _, [], hW', trodAll_mk1 (shut_bool Try.underlying4 _), (trodAll_cons_mk (Below.trod laidOut (by kernel_rfl) (of_decide_eq_true (by kernel_rfl)) k0 bel lt0) (trodAll_cons_mk (Below.trod laidOut (by kernel_rfl) (of_decide_eq_true (by kernel_rfl)) k1 bel lt1) (trodAll_cons_mk (Below.trod laidOut (by kernel_rfl) (of_decide_eq_true (by kernel_rfl)) k2 bel lt2) (trodAll_cons_mk (shut_int Try.underlying3 w3) trodAll_mk0)))), rfl, bel.frame _, fun h => by cases h⟩

theorem over : Rows.loadTellsRow.holds Try.pinned (OpenSpec.ofChange Rows.loadTellsSpec) :=
  OpenClaim.holds_of_wide 3 Try.f3 rfl rfl rfl rfl rfl rfl rfl ⟨rfl, rfl, rfl, rfl, rfl⟩ rfl rfl rfl rfl rfl (by kernel_rfl) Try.func3 (by kernel_rfl)
    (of_decide_eq_true (by kernel_rfl)) (by unfold Func.isWrapper; first | (rw [if_pos (by decide +kernel)]; kernel_rfl) | (rw [if_neg (by decide +kernel)]; exact ⟨rfl, rfl⟩))
    (fun os started H enc _ => lifted os started H enc)

theorem proved : Rows.LoadTellsSaid := over
end Go.Proofs.Ytgdgdalegoabpaa.loadTells
