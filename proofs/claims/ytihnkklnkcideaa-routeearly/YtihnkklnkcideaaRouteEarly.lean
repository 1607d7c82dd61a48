/- Every call of the law that a truck that starts earlier is nowhere later, and one that ends later runs what it ran, as far, and for as much, answers true: for every world and route, by how much earlier and later. No conditions. -/
import Derived.Test.YtihnkklnkcideaaRows
import Derived.Test.YtihnkklnkcideaaRouteOpen
import Derived.Test.YtihnkklnkcideaaRouteAw
import Derived.Test.YtihnkklnkcideaaRouteMath2
import Derived.Test.YtihnkklnkcideaaAreaApp
import Derived.BigRegion
import Derived.RegionTactic
import Derived.WalkKit
import Derived.ProofKit
import Derived.OpenShut
import Derived.ShutString
import Derived.ChangeOld
import Derived.Below
import Derived.SizedLaws
namespace Go.Proofs.Ytihnkklnkcideaa.routeEarly
open Go.ChangeShapes Go.WideShapes Go.ChangeAt Go.RowKit
open Go.ChangeMaps (open_string shut_string)
set_option linter.unusedVariables false

theorem own : ownKnob Try.prog.godebug = none := by kernel_rfl
theorem laidOut : laidOutB Try.prog = true := by kernel_rfl

open Go.Proofs.Ytihnkklnkcideaa
set_option maxRecDepth 100000

/-- numbers in a row of one's own, perhaps with room behind them -/
def RowT (W : World) (g : Nat) (L : List Int) : Prop := ∃ cs, Box W g cs 51 ∧ ∀ (j : Nat) (z : Int), L[j]? = some z → cs[j]? = some (.int .i64 z)
theorem RowT.lt {W : World} {g : Nat} {L : List Int} (h : RowT W g L) : g < W.heap.size := by obtain ⟨cs, h, _⟩ := h; exact h.lt
theorem RowT.below {W W' : World} {g : Nat} {L : List Int} (h : RowT W g L) (hb : Below W.heap.size W W') : RowT W' g L := by obtain ⟨cs, h, k⟩ := h; exact ⟨cs, h.below hb, k⟩
theorem RowT.cell {W : World} {g : Nat} {L : List Int} (h : RowT W g L) {j : Nat} {z : Int} (hz : L[j]? = some z) : W.cell? ⟨g, j, none⟩ = some (.int .i64 z) := by obtain ⟨cs, h, k⟩ := h; exact h.cell j _ (k j z hz)
theorem RowT.fz {W : World} {g : Nat} {L : List Int} (h : RowT W g L) (j : Nat) : W.frozen? ⟨g, j, none⟩ = false := by obtain ⟨cs, h, _⟩ := h; exact h.fz j
theorem RowT.blk {W W' : World} {g : Nat} {L : List Int} (h : RowT W g L) (hb : W'.heap[g]? = W.heap[g]?) : RowT W' g L := by obtain ⟨cs, h, k⟩ := h; exact ⟨cs, hb.trans h, k⟩
theorem RowT.set {W : World} {g : Nat} {L : List Int} (h : RowT W g L) (p : Nat) (z : Int) : RowT (W.setCell ⟨g, p, none⟩ (.int .i64 z)) g (L.set p z) := by
  obtain ⟨cs, hb, k⟩ := h
  refine ⟨cs.setIfInBounds p (.int .i64 z), hb.set p _ _ rfl, fun j u hu => ?_⟩
  rw [List.getElem?_set] at hu
  rw [Array.getElem?_setIfInBounds]
  split at hu
  · rename_i e
    subst e
    split at hu
    · rename_i hl
      obtain rfl := Option.some.inj hu
      have hs : p < cs.size := by
        obtain ⟨y, hy⟩ := mlist_at L p hl
        exact (Array.getElem?_eq_some_iff.1 (k p y hy)).1
      simp [hs]
    · cases hu
  · rename_i e
    rw [if_neg e]
    exact k j u hu
theorem RowT.set_trucks {W : World} {g : Nat} {ts : List Ld.T} {k : Nat} {t0 t1 t2 t3 t4 t5 t6 s' f' : Int} (ht : ts[k]? = some ⟨t0, t1, t2, t3, t4, t5, t6⟩) (h : RowT W g (((ts.flatMap Ld.T.ints).set (k * 7 + 3) s').set (k * 7 + 4) f')) :
    TrucksAt W (some ⟨g, 0, none⟩) (ts.set k ⟨t0, t1, t2, s', f', t5, t6⟩) := by
  refine ints_of_rows Ld.T.ints 7 (by omega) (fun _ => rfl) _ _ fun q o hq j z hz => ?_
  rw [Addr.add_mid, Nat.zero_add]
  refine h.cell ?_
  have hj : j < 7 := (List.getElem?_eq_some_iff.1 hz).1
  have hk : k < ts.length := (List.getElem?_eq_some_iff.1 ht).1
  have hlen : (ts.flatMap Ld.T.ints).length = ts.length * 7 := Ld.flat_len Ld.T.ints 7 (fun _ => rfl) ts
  rw [List.getElem?_set] at hq
  split at hq
  · rename_i e
    subst e
    try rw [if_pos hk] at hq
    obtain rfl := Option.some.inj hq
    have hold := fun j (hj : j < 7) => Ld.flat_at Ld.T.ints 7 (fun _ => rfl) ts k _ j hj ht
    simp only [List.getElem?_set, List.length_set, hlen]
    match j, hj, hz with
    | 0, hj, hz => rw [if_neg (by omega), if_neg (by omega), hold 0 hj]; exact hz
    | 1, hj, hz => rw [if_neg (by omega), if_neg (by omega), hold 1 hj]; exact hz
    | 2, hj, hz => rw [if_neg (by omega), if_neg (by omega), hold 2 hj]; exact hz
    | 3, hj, hz => rw [if_neg (by omega), if_pos rfl, if_pos (by omega)]; exact hz
    | 4, hj, hz => rw [if_pos rfl, if_pos (by omega)]; exact hz
    | 5, hj, hz => rw [if_neg (by omega), if_neg (by omega), hold 5 hj]; exact hz
    | 6, hj, hz => rw [if_neg (by omega), if_neg (by omega), hold 6 hj]; exact hz
  · rename_i e
    rw [List.getElem?_set_ne (by omega), List.getElem?_set_ne (by omega), Ld.flat_at Ld.T.ints 7 (fun _ => rfl) ts q o j hj hq]
    exact hz

/-- what a copy of the trucks leaves -/
def CopyT (W5 : World) (m : Nat) (ts : List Ld.T) (v' : Value) (w' : World) : Prop := ∃ g cp, v' = .slice (some ⟨g, 0, none⟩) m cp ∧ Hid (W5.heap.size ≤ g ∧ RowT w' g (ts.flatMap Ld.T.ints) ∧ Below W5.heap.size W5 w')
theorem trucks_copy {W5 : World} (b : Nat) (hb5 : b = W5.heap.size) {ad : Addr} {m : Nat} (c : Nat) {ts : List Ld.T} (h : TrucksAt (W5.alloc (.cells #[] 51)) (some ad) ts) (hm : ts.length = m) (hm2 : m ≤ 1000) (h1 : 1 ≤ m) :
    ∃ v' w', (Builtin.append_ #[26, 26] 26 #[.slice (some ⟨b, 0, none⟩) 0 0, .slice (some ad) m c]).run Try.prog (W5.alloc (.cells #[] 51)) = .ok v' w' ∧ CopyT W5 m ts v' w' := by
  subst hb5
  obtain ⟨i0, hi0, hz0, hz1, hz2⟩ := info_parts4 truck_info
  have hown : (W5.alloc (.cells #[] 51)).ownsRow W5.heap.size 51 7 (.slice (some ⟨W5.heap.size, 0, none⟩) 0 0) 0 [] := ⟨by simp, .inr ⟨W5.heap.size, 0, #[], rfl, Nat.le_refl _, heap_alloc_new W5 _, Nat.le_refl _, by decide, by simp, by simp⟩⟩
  obtain ⟨v', w', h2, h3, h4, _⟩ := run_append_own (P := Try.prog) (W5.alloc (.cells #[] 51)) W5.heap.size 26 26 51 i0 _ 7 56 Try.underlying26 hi0 hz0 hz1 hz2 rfl (by omega) _ 0 [] hown ad m c ((ts.flatMap Ld.T.ints).map (Value.int .i64)) (by rw [List.length_map, Ld.flat_len Ld.T.ints 7 (fun _ => rfl), hm])
    (fun j u hu => by
      rw [List.getElem?_map] at hu
      cases hz : (ts.flatMap Ld.T.ints)[j]? with
      | none => rw [hz] at hu; cases hu
      | some z =>
        rw [hz] at hu
        obtain rfl := Option.some.inj hu
        obtain ⟨ad', e, hc⟩ := h j z hz
        obtain rfl := Option.some.inj e
        exact hc) (by intro y hy; obtain ⟨z, _, rfl⟩ := List.mem_map.1 hy; rfl) (by unfold maxLen; omega) (by omega) (below_alloc W5 _).size
  rw [List.nil_append, Nat.zero_add] at h3
  rcases h3.2 with ⟨rfl, h0⟩ | ⟨g, cap, cur, rfl, hbg, hg, hnc, hcm, _⟩
  · omega
  · refine ⟨_, w', h2, g, cap, rfl, hbg, ⟨cur, hg, fun j z hz => ?_⟩, ?_⟩
    · have hc := h3.cells (g := g) rfl j (.int .i64 z) (by rw [List.getElem?_map, hz]; rfl)
      rw [Addr.add_mid, Nat.zero_add, cell_of_row w' g j _ _ _ hg] at hc
      exact hc
    · have hb : Below W5.heap.size (W5.alloc (.cells #[] 51)) w' := ⟨h4.os, h4.tape, h4.output, h4.size, fun k hk => h4.block k (Nat.lt_of_lt_of_le hk (below_alloc W5 _).size) (fun e => by have : k = W5.heap.size := Option.some.inj e; omega)⟩
      exact (below_alloc W5 _).trans hb

/-- the world with its trucks copied -/
def exW (x : Wd) (g cp : Nat) (ts : List Ld.T) : Wd := ⟨x.N, x.dA, x.dm, x.dc, x.D, x.tA, x.tm, x.tc, x.T, x.A, x.m, x.c, x.os, some ⟨g, 0, none⟩, x.k, cp, ts⟩
/-- what the copy holds -/
structure EX (w4 : World) (xb : Nat) (x : Wd) (g cp : Nat) (L : List Int) (W : World) : Prop where
  b : Box W xb (exW x g cp []).cells 28
  r : RowT W g L
  n : g ≠ xb
  h : w4.heap.size ≤ g
  bel : Below w4.heap.size w4 W
theorem EX.set {w4 W : World} {xb : Nat} {x : Wd} {g cp : Nat} {L : List Int} (h : EX w4 xb x g cp L W) (p : Nat) (z : Int) : EX w4 xb x g cp (L.set p z) (W.setCell ⟨g, p, none⟩ (.int .i64 z)) :=
  ⟨(Go.Deep.blk_setCell_other _ _ _ _ (by show xb ≠ g; exact fun e => h.n e.symm)).trans h.b, h.r.set p z, h.n, h.h, h.bel.setCell (p := ⟨g, p, none⟩) h.h _⟩
theorem EX.drew {w4 W : World} {xb : Nat} {x : Wd} {g cp : Nat} {L : List Int} (h : EX w4 xb x g cp L W) : EX w4 xb x g cp L W.drew := ⟨h.b, h.r, h.n, h.h, h.bel.drew⟩
theorem exb0 {w : World} {b : Nat} {x : Wd} {g cp : Nat} {ts : List Ld.T} (h : Box w b (exW x g cp ts).cells 28) : w.cell? ⟨b, 0, none⟩ = some (.int .i64 x.N) := h.cell 0 _ rfl
theorem exb1 {w : World} {b : Nat} {x : Wd} {g cp : Nat} {ts : List Ld.T} (h : Box w b (exW x g cp ts).cells 28) : w.cell? ⟨b, 1, none⟩ = some (.slice x.dA x.dm x.dc) := h.cell 1 _ rfl
theorem exb2 {w : World} {b : Nat} {x : Wd} {g cp : Nat} {ts : List Ld.T} (h : Box w b (exW x g cp ts).cells 28) : w.cell? ⟨b, 2, none⟩ = some (.slice x.tA x.tm x.tc) := h.cell 2 _ rfl
theorem exb3 {w : World} {b : Nat} {x : Wd} {g cp : Nat} {ts : List Ld.T} (h : Box w b (exW x g cp ts).cells 28) : w.cell? ⟨b, 3, none⟩ = some (.slice x.A x.m x.c) := h.cell 3 _ rfl
theorem exb4 {w : World} {b : Nat} {x : Wd} {g cp : Nat} {ts : List Ld.T} (h : Box w b (exW x g cp ts).cells 28) : w.cell? ⟨b, 4, none⟩ = some (.slice (some ⟨g, 0, none⟩) x.k cp) := h.cell 4 _ rfl

set_option maxHeartbeats 2000000 in
theorem long_any (x : Wd) (r : Rd) (early late : Int) (w : World) (hx : WorldIn w x) (hr : RouteIn w r) (h : Large x r) :
    Calls Try.prog 4 #[.agg #[.int .i64 x.N, .slice x.dA x.dm x.dc, .slice x.tA x.tm x.tc, .slice x.A x.m x.c, .slice x.B x.k x.d], .agg #[.int .i64 r.tr, .slice r.sA r.sm r.sc], .int .i64 early, .int .i64 late] w fun e w' => e = .returned (.bool true) ∧ Below w.heap.size w w' := by
  have HB0 : Hid (Below w.heap.size w ((w.alloc (.cells #[.int .i64 x.N, .slice x.dA x.dm x.dc, .slice x.tA x.tm x.tc, .slice x.A x.m x.c, .slice x.B x.k x.d] 28)).alloc (.cells #[.int .i64 r.tr, .slice r.sA r.sm r.sc] 31))) := below_more (below_alloc _ _) _
  have HX := Lib.hid (LB.new w x r)
  have HC : Hid (∀ W, _) := fun W => large_yes x r W hx.mx hx.kx hx.dx hx.tx (Nat.le_trans hr.sc hr.sx) h
  have hsm : r.sm ≤ 9223372036854775807 := by have := hr.sc; have := hr.sx; unfold maxLen at this; omega
  clear h hx hr

  go_enter Try.func4, Try.ntmps4
  go_wp2_with fail
  with_reducible refine (awake_any _).mono ?_
  rintro e w1 ⟨rfl, hb1⟩
  have HB1 := Lib.hid (below_next HB0.out hb1)
  have HX1 := Lib.hid (HX.out.below hb1)
  have c0 := wbox0 HX1.out.w
  have c1 := wbox1 HX1.out.w
  have c2 := wbox2 HX1.out.w
  have c3 := wbox3 HX1.out.w
  have c4 := wbox4 HX1.out.w
  have r1 := rbox1 HX1.out.r
  clear hb1
  go_wp2_with fail
  with_reducible refine (HC.out _).mono ?_
  rintro e w2 ⟨rfl, hb2⟩
  clear c0 c1 c2 c3 c4 r1
  go_wp2
  go_ret
  exact ⟨rfl, below_next HB1.out hb2.out⟩

set_option maxHeartbeats 2000000 in
theorem out_any (x : Wd) (r : Rd) (early late : Int) (w : World) (h : ¬ Large x r) (hs : r.sm ≤ 100) (hm : early < 0 ∨ late < 0 ∨ 1000000 < early ∨ 1000000 < late) :
    Calls Try.prog 4 #[.agg #[.int .i64 x.N, .slice x.dA x.dm x.dc, .slice x.tA x.tm x.tc, .slice x.A x.m x.c, .slice x.B x.k x.d], .agg #[.int .i64 r.tr, .slice r.sA r.sm r.sc], .int .i64 early, .int .i64 late] w fun e w' => e = .returned (.bool true) ∧ Below w.heap.size w w' := by
  have HB0 : Hid (Below w.heap.size w ((w.alloc (.cells #[.int .i64 x.N, .slice x.dA x.dm x.dc, .slice x.tA x.tm x.tc, .slice x.A x.m x.c, .slice x.B x.k x.d] 28)).alloc (.cells #[.int .i64 r.tr, .slice r.sA r.sm r.sc] 31))) := below_more (below_alloc _ _) _
  have HX := Lib.hid (LB.new w x r)
  have HC : Hid (∀ W, _) := fun W => large_no x r W h
  have h0 : early < 0 ∨ (0 ≤ early ∧ late < 0) ∨ (0 ≤ early ∧ 0 ≤ late ∧ 1000000 < early) ∨ (0 ≤ early ∧ 0 ≤ late ∧ early ≤ 1000000 ∧ 1000000 < late) := by omega
  clear h hm
  rcases h0 with h0 | ⟨h0, h1⟩ | ⟨h0, h1, h2⟩ | ⟨h0, h1, h2, h3⟩
  · have d0 : decide (early < 0) = true := decide_eq_true h0

    go_enter Try.func4, Try.ntmps4
    go_wp2_with fail
    with_reducible refine (awake_any _).mono ?_
    rintro e w1 ⟨rfl, hb1⟩
    have HB1 := Lib.hid (below_next HB0.out hb1)
    have HX1 := Lib.hid (HX.out.below hb1)
    have c0 := wbox0 HX1.out.w
    have c1 := wbox1 HX1.out.w
    have c2 := wbox2 HX1.out.w
    have c3 := wbox3 HX1.out.w
    have c4 := wbox4 HX1.out.w
    have r1 := rbox1 HX1.out.r
    clear hb1
    go_wp2_with fail
    with_reducible refine (HC.out _).mono ?_
    rintro e w2 ⟨rfl, hb2⟩
    clear c0 c1 c2 c3 c4 r1
    go_wp2
    go_ret
    exact ⟨rfl, below_next HB1.out hb2.out⟩

  · have d0 : decide (early < 0) = false := decide_eq_false (by omega)
    have d1 : decide (late < 0) = true := decide_eq_true h1

    go_enter Try.func4, Try.ntmps4
    go_wp2_with fail
    with_reducible refine (awake_any _).mono ?_
    rintro e w1 ⟨rfl, hb1⟩
    have HB1 := Lib.hid (below_next HB0.out hb1)
    have HX1 := Lib.hid (HX.out.below hb1)
    have c0 := wbox0 HX1.out.w
    have c1 := wbox1 HX1.out.w
    have c2 := wbox2 HX1.out.w
    have c3 := wbox3 HX1.out.w
    have c4 := wbox4 HX1.out.w
    have r1 := rbox1 HX1.out.r
    clear hb1
    go_wp2_with fail
    with_reducible refine (HC.out _).mono ?_
    rintro e w2 ⟨rfl, hb2⟩
    clear c0 c1 c2 c3 c4 r1
    go_wp2
    go_ret
    exact ⟨rfl, below_next HB1.out hb2.out⟩

  · have d0 : decide (early < 0) = false := decide_eq_false (by omega)
    have d1 : decide (late < 0) = false := decide_eq_false (by omega)
    have d2 : decide (1000000 < early) = true := decide_eq_true h2

    go_enter Try.func4, Try.ntmps4
    go_wp2_with fail
    with_reducible refine (awake_any _).mono ?_
    rintro e w1 ⟨rfl, hb1⟩
    have HB1 := Lib.hid (below_next HB0.out hb1)
    have HX1 := Lib.hid (HX.out.below hb1)
    have c0 := wbox0 HX1.out.w
    have c1 := wbox1 HX1.out.w
    have c2 := wbox2 HX1.out.w
    have c3 := wbox3 HX1.out.w
    have c4 := wbox4 HX1.out.w
    have r1 := rbox1 HX1.out.r
    clear hb1
    go_wp2_with fail
    with_reducible refine (HC.out _).mono ?_
    rintro e w2 ⟨rfl, hb2⟩
    clear c0 c1 c2 c3 c4 r1
    go_wp2
    go_ret
    exact ⟨rfl, below_next HB1.out hb2.out⟩

  · have d0 : decide (early < 0) = false := decide_eq_false (by omega)
    have d1 : decide (late < 0) = false := decide_eq_false (by omega)
    have d2 : decide (1000000 < early) = false := decide_eq_false (by omega)
    have d3 : decide (1000000 < late) = true := decide_eq_true h3

    go_enter Try.func4, Try.ntmps4
    go_wp2_with fail
    with_reducible refine (awake_any _).mono ?_
    rintro e w1 ⟨rfl, hb1⟩
    have HB1 := Lib.hid (below_next HB0.out hb1)
    have HX1 := Lib.hid (HX.out.below hb1)
    have c0 := wbox0 HX1.out.w
    have c1 := wbox1 HX1.out.w
    have c2 := wbox2 HX1.out.w
    have c3 := wbox3 HX1.out.w
    have c4 := wbox4 HX1.out.w
    have r1 := rbox1 HX1.out.r
    clear hb1
    go_wp2_with fail
    with_reducible refine (HC.out _).mono ?_
    rintro e w2 ⟨rfl, hb2⟩
    clear c0 c1 c2 c3 c4 r1
    go_wp2
    go_ret
    exact ⟨rfl, below_next HB1.out hb2.out⟩


set_option maxHeartbeats 10000000 in
theorem short_any (x : Wd) (r : Rd) (early late : Int) (w : World) (hx : WorldIn w x) (hr : RouteIn w r) (h : ¬ Large x r) (hs : r.sm ≤ 100) (l0 : 0 ≤ early) (l1 : early ≤ 1000000) (l2 : 0 ≤ late) (l3 : late ≤ 1000000) :
    Calls Try.prog 4 #[.agg #[.int .i64 x.N, .slice x.dA x.dm x.dc, .slice x.tA x.tm x.tc, .slice x.A x.m x.c, .slice x.B x.k x.d], .agg #[.int .i64 r.tr, .slice r.sA r.sm r.sc], .int .i64 early, .int .i64 late] w fun e w' => e = .returned (.bool true) ∧ Below w.heap.size w w' := by
  have HB0 : Hid (Below w.heap.size w ((w.alloc (.cells #[.int .i64 x.N, .slice x.dA x.dm x.dc, .slice x.tA x.tm x.tc, .slice x.A x.m x.c, .slice x.B x.k x.d] 28)).alloc (.cells #[.int .i64 r.tr, .slice r.sA r.sm r.sc] 31))) := below_more (below_alloc _ _) _
  have HX : Hid (LW ((w.alloc (.cells #[.int .i64 x.N, .slice x.dA x.dm x.dc, .slice x.tA x.tm x.tc, .slice x.A x.m x.c, .slice x.B x.k x.d] 28)).alloc (.cells #[.int .i64 r.tr, .slice r.sA r.sm r.sc] 31)) w.heap.size (w.heap.size + 1) x r) := ⟨LB.new w x r, (hx.at_ h).below HB0.out, (hr.at_ h).below HB0.out⟩
  have HC : Hid (∀ W, _) := fun W => large_no x r W h
  have HSL := Lib.hid hr.sl
  have HKL := Lib.hid hx.kl
  have hk50 : x.k ≤ 50 := by unfold Large at h; omega
  have d0 : decide (early < 0) = false := decide_eq_false (by omega)
  have d1 : decide (late < 0) = false := decide_eq_false (by omega)
  have d2 : decide (1000000 < early) = false := decide_eq_false (by omega)
  have d3 : decide (1000000 < late) = false := decide_eq_false (by omega)
  clear h hx hr
  go_enter Try.func4, Try.ntmps4
  go_wp2_with fail
  generalize ((w.alloc (.cells #[.int .i64 x.N, .slice x.dA x.dm x.dc, .slice x.tA x.tm x.tc, .slice x.A x.m x.c, .slice x.B x.k x.d] 28)).alloc (.cells #[.int .i64 r.tr, .slice r.sA r.sm r.sc] 31)) = V at *
  generalize w.heap.size + 1 = b2 at *
  generalize hb1 : w.heap.size = b1 at HX ⊢
  clear hb1
  with_reducible refine (awake_any _).mono ?_
  rintro e w1 ⟨rfl, hb1⟩
  have HB1 := Lib.hid (below_next HB0.out hb1)
  have HX1 := Lib.hid (HX.out.below hb1)
  have c0 := wbox0 HX1.out.b.w
  have c1 := wbox1 HX1.out.b.w
  have c2 := wbox2 HX1.out.b.w
  have c3 := wbox3 HX1.out.b.w
  have c4 := wbox4 HX1.out.b.w
  have r1 := rbox1 HX1.out.b.r
  clear hb1 HX HB0
  go_wp2_with fail
  with_reducible refine (HC.out _).mono ?_
  rintro e w2 ⟨rfl, hb2⟩
  clear c0 c1 c2 c3 c4 r1
  have HB2 := Lib.hid (below_next HB1.out hb2.out)
  have HX2 := Lib.hid (HX1.out.below hb2.out)
  have c0 := wbox0 HX2.out.b.w
  have c1 := wbox1 HX2.out.b.w
  have c2 := wbox2 HX2.out.b.w
  have c3 := wbox3 HX2.out.b.w
  have c4 := wbox4 HX2.out.b.w
  have r0 := rbox0 HX2.out.b.r
  have r1 := rbox1 HX2.out.b.r
  clear hb2 HX1 HB1 HC d0 d1 d2 d3
  obtain ⟨res, hres⟩ : ∃ z, Rt.runS x.N x.D x.T x.os x.ts r.tr r.st = z := ⟨_, rfl⟩
  have HRES := Lib.hid hres
  have HC := Lib.hid (run_b x r w2 res hres HX2.out.x HX2.out.r)
  clear hres
  go_wp2_with fail
  with_reducible refine HC.out.mono ?_
  rintro e w3 ⟨A, cA, rfl, h3⟩
  clear c0 c1 c2 c3 c4 r0 r1 HC
  obtain ⟨n, hn⟩ : ∃ n, res.vs.length = n := ⟨_, rfl⟩
  have HN := Lib.hid hn
  rw [hn]
  clear hn
  have HVA := Lib.hid (VisAt.below h3.out.2.1 (below_alloc w3 (.cells #[.slice A n cA, .int .i64 res.back, .int .i64 res.dist, .int .i64 res.cost] 36)))
  have HBA := Lib.hid (below_more (below_next HB2.out h3.out.1) (.cells #[.slice A n cA, .int .i64 res.back, .int .i64 res.dist, .int .i64 res.cost] 36))
  have HXA := Lib.hid ((HX2.out.below h3.out.1).below (below_alloc w3 (.cells #[.slice A n cA, .int .i64 res.back, .int .i64 res.dist, .int .i64 res.cost] 36)))
  have HTA : Hid (Box (w3.alloc (.cells #[.slice A n cA, .int .i64 res.back, .int .i64 res.dist, .int .i64 res.cost] 36)) w3.heap.size #[.slice A n cA, .int .i64 res.back, .int .i64 res.dist, .int .i64 res.cost] 36) := Box.new _ _ _
  clear h3 HX2 HB2
  have c0 := wbox0 HXA.out.b.w
  have c1 := wbox1 HXA.out.b.w
  have c2 := wbox2 HXA.out.b.w
  have c3 := wbox3 HXA.out.b.w
  have c4 := wbox4 HXA.out.b.w
  have r0 := rbox0 HXA.out.b.r
  obtain ⟨f, hf⟩ : ∃ z, Ld.findI (x.ts.map Ld.T.id) r.tr = z := ⟨_, rfl⟩
  have HF := Lib.hid hf
  go_wp2_with fail
  generalize w3.alloc (.cells #[.slice A n cA, .int .i64 res.back, .int .i64 res.dist, .int .i64 res.cost] 36) = V1 at *
  generalize w3.heap.size = q1 at *
  with_reducible refine (truck_b x r.tr V1 f hf HXA.out.x).mono ?_
  rintro e w4 ⟨rfl, h4⟩
  have HB4 := Lib.hid (below_next HBA.out h4.out)
  have HX4 := Lib.hid (HXA.out.below h4.out)
  have HT4 := Lib.hid (HTA.out.below h4.out)
  have HV4 := Lib.hid (HVA.out.below h4.out)
  clear h4 hf c0 c1 c2 c3 c4 r0 HXA HTA HVA HBA
  by_cases e0 : res.e = 0
  · have e1 : (res.e != 0) = false := by rw [e0]; rfl
    have hruns := (Rt.runs_of (by rw [HRES.out]; exact e0)).1
    have hftk := hruns.tk
    obtain ⟨kt, t, hkt, hktl, htk, hti⟩ := Rt.find_mem Ld.T.id x.ts r.tr hftk
    have hfk : f = (kt : Int) := by rw [← HF.out]; exact hkt
    subst hfk
    have htok := (Rt.ok_of hruns.w).tt t (List.mem_of_getElem? htk)
    obtain ⟨t0, t1, t2, t3, t4, t5, t6⟩ := t
    obtain ⟨s', hs'⟩ : ∃ s', max (t3 - early) 0 = s' := ⟨_, rfl⟩
    obtain ⟨f', hf'⟩ : ∃ f', min (t4 + late) 1000000 = f' := ⟨_, rfl⟩
    have hb0 := htok.st0
    have hb1 := htok.st1
    have hb2 := htok.fi1
    simp only at hb0 hb1 hb2
    have hearly := Rt.early_of hruns (t' := ⟨t0, t1, t2, s', f', t5, t6⟩) hkt htk rfl rfl rfl rfl rfl (by show 0 ≤ s'; omega) (by show s' ≤ t3; omega) (by show t4 ≤ f'; omega) (by show f' ≤ 1000000; omega)
    obtain ⟨rs2, hrs2⟩ : ∃ z, Rt.runS x.N x.D x.T x.os (x.ts.set kt ⟨t0, t1, t2, s', f', t5, t6⟩) r.tr r.st = z := ⟨_, rfl⟩
    rw [hrs2, HRES.out] at hearly
    have HEA := Lib.hid hearly
    have HRS2 := Lib.hid hrs2
    have HTK := Lib.hid htk
    have HFL : Hid (∀ (j : Nat) (z : Int), j < 7 → [t0, t1, t2, t3, t4, t5, t6][j]? = some z → (x.ts.flatMap Ld.T.ints)[kt * 7 + j]? = some z) := fun j z hj hz => by rw [Ld.flat_at Ld.T.ints 7 (fun _ => rfl) x.ts kt _ j hj htk]; exact hz
    have i1 : (kt : Int) < (x.k : Int) := by rw [← HKL.out]; omega
    have hk1 : 1 ≤ x.k := by rw [← HKL.out]; omega
    have e2 : decide ((kt : Int) < 0) = false := decide_eq_false (by omega)
    have c0 := wbox0 HX4.out.b.w
    have c1 := wbox1 HX4.out.b.w
    have c2 := wbox2 HX4.out.b.w
    have c3 := wbox3 HX4.out.b.w
    have c4 := wbox4 HX4.out.b.w
    have a4 : ((w4.alloc (.cells #[.int .i64 x.N, .slice x.dA x.dm x.dc, .slice x.tA x.tm x.tc, .slice x.A x.m x.c, .slice x.B x.k x.d] 28)).alloc (.cells #[] 51)).cell? ⟨b1, 4, none⟩ = some (.slice x.B x.k x.d) := wbox4 (HX4.out.b.below (below_more (below_alloc w4 (.cells #[.int .i64 x.N, .slice x.dA x.dm x.dc, .slice x.tA x.tm x.tc, .slice x.A x.m x.c, .slice x.B x.k x.d] 28)) (.cells #[] 51))).w
    obtain ⟨ab, hab, _⟩ := HX4.out.x.ts.at_ htk
    have HAB := Lib.hid hab
    have HCP : Hid (∃ v' w', (Builtin.append_ #[26, 26] 26 #[.slice (some ⟨w4.heap.size + 1, 0, none⟩) 0 0, .slice x.B x.k x.d]).run Try.prog ((w4.alloc (.cells #[.int .i64 x.N, .slice x.dA x.dm x.dc, .slice x.tA x.tm x.tc, .slice x.A x.m x.c, .slice x.B x.k x.d] 28)).alloc (.cells #[] 51)) = .ok v' w' ∧ CopyT (w4.alloc (.cells #[.int .i64 x.N, .slice x.dA x.dm x.dc, .slice x.tA x.tm x.tc, .slice x.A x.m x.c, .slice x.B x.k x.d] 28)) x.k x.ts v' w') := by
      have h1 := HX4.out.x.ts.below (below_more (below_alloc w4 (.cells #[.int .i64 x.N, .slice x.dA x.dm x.dc, .slice x.tA x.tm x.tc, .slice x.A x.m x.c, .slice x.B x.k x.d] 28)) (.cells #[] 51))
      unfold Hid
      rw [hab] at h1 ⊢
      exact trucks_copy (w4.heap.size + 1) (by simp) x.d h1 HKL.out (by omega) hk1
    have HS' := Lib.hid hs'
    have HF' := Lib.hid hf'
    clear hs' hf' hearly hrs2 htk hab hruns hftk hkt hktl hti htok e0
    have HXB : Hid (∀ w5 : World, Below (w4.alloc (.cells #[.int .i64 x.N, .slice x.dA x.dm x.dc, .slice x.tA x.tm x.tc, .slice x.A x.m x.c, .slice x.B x.k x.d] 28)).heap.size (w4.alloc (.cells #[.int .i64 x.N, .slice x.dA x.dm x.dc, .slice x.tA x.tm x.tc, .slice x.A x.m x.c, .slice x.B x.k x.d] 28)) w5 → w5.cell? ⟨w4.heap.size, 4, none⟩ = some (.slice x.B x.k x.d) ∧ w5.frozen? ⟨w4.heap.size, 4, none⟩ = false) := fun w5 h => ⟨wbox4 (x := x) ((Box.new w4 _ _).below h), ((Box.new w4 _ _).below h).fz 4⟩
    have HXE : Hid (∀ (w5 : World) (g cp : Nat), (w4.alloc (.cells #[.int .i64 x.N, .slice x.dA x.dm x.dc, .slice x.tA x.tm x.tc, .slice x.A x.m x.c, .slice x.B x.k x.d] 28)).heap.size ≤ g → RowT w5 g (x.ts.flatMap Ld.T.ints) → Below (w4.alloc (.cells #[.int .i64 x.N, .slice x.dA x.dm x.dc, .slice x.tA x.tm x.tc, .slice x.A x.m x.c, .slice x.B x.k x.d] 28)).heap.size (w4.alloc (.cells #[.int .i64 x.N, .slice x.dA x.dm x.dc, .slice x.tA x.tm x.tc, .slice x.A x.m x.c, .slice x.B x.k x.d] 28)) w5 → EX w4 w4.heap.size x g cp (x.ts.flatMap Ld.T.ints) (w5.setCell ⟨w4.heap.size, 4, none⟩ (.slice (some ⟨g, 0, none⟩) x.k cp))) := fun w5 g cp hg hr hb => by
      have hsz : (w4.alloc (.cells #[.int .i64 x.N, .slice x.dA x.dm x.dc, .slice x.tA x.tm x.tc, .slice x.A x.m x.c, .slice x.B x.k x.d] 28)).heap.size = w4.heap.size + 1 := by simp
      have hn : g ≠ w4.heap.size := by omega
      exact ⟨((Box.new w4 _ _).below hb).set 4 _ _ rfl, hr.blk (Go.Deep.blk_setCell_other _ _ _ _ hn), hn, by omega, (below_box hb).setCell (p := ⟨w4.heap.size, 4, none⟩) (Nat.le_refl _) _⟩
    go_wp2_with (first
      | (at_builtin; refine wpList_append_any rfl (.tmp 66) (.tmp 68) 26 26 rfl _ _ rfl rfl _ HCP.out ?_; intro v2 w5 hap; obtain ⟨g, cp, rfl, HG⟩ := hap; have hx4 := (HXB.out _ HG.out.2.2).1; have hf4 := (HXB.out _ HG.out.2.2).2))
    have HE := Lib.hid (HXE.out w5 g cp HG.out.1 HG.out.2.1 HG.out.2.2)
    clear hx4 hf4 HXB HXE HCP HG c0 c1 c2 c3 c4 a4
    generalize w5.setCell ⟨w4.heap.size, 4, none⟩ (.slice (some ⟨g, 0, none⟩) x.k cp) = W6 at *
    obtain ⟨xb, hxb⟩ : ∃ xb, xb = w4.heap.size := ⟨_, rfl⟩
    rw [← hxb] at HE ⊢
    clear hxb
    go_upto_region 11 with fail
    go_cut [] (fun W => Hid (EX w4 xb x g cp ((x.ts.flatMap Ld.T.ints).set (kt * 7 + 3) s') W))
    case first =>
      have y4 := exb4 HE.out.b
      have yc : W6.cell? ⟨g, kt * 7 + 3, none⟩ = some (.int .i64 t3) := HE.out.r.cell (HFL.out 3 _ (by omega) rfl)
      have yf := HE.out.r.fz (kt * 7 + 3)
      have hwr : IntKind.i64.wrap (t3 - early) = t3 - early := IntWalk.i64_in _ (by omega)
      have hs' := HS'.out
      obtain ⟨hm1, rfl⟩ | ⟨hm1, rfl⟩ : (early ≤ t3 ∧ s' = t3 - early) ∨ (t3 < early ∧ s' = 0) := by omega
      · clear hs'
        have hm2 : ¬ t3 - early < 0 := by omega
        have hm3 : 0 ≤ t3 - early := by omega
        go_region
        all_goals
          clear y4 yc yf hwr
          go_wp2
          go_meet
          case rel => first | exact HE.out.drew.set _ _ | exact (HE.out.set _ _).drew | exact HE.out.set _ _
      · clear hs'
        have hm2 : t3 - early < 0 := by omega
        have hm3 : ¬ 0 ≤ t3 - early := by omega
        go_region
        all_goals
          clear y4 yc yf hwr
          go_wp2
          go_meet
          case rel => first | exact HE.out.drew.set _ _ | exact (HE.out.set _ _).drew | exact HE.out.set _ _
    case rest =>
      have HE1 := Lib.hid hcut.out
      clear HE hcut
      generalize wc = U1 at *
      go_upto_region 12 with fail
      go_cut [] (fun W => Hid (EX w4 xb x g cp (((x.ts.flatMap Ld.T.ints).set (kt * 7 + 3) s').set (kt * 7 + 4) f') W))
      case first =>
        have y4 := exb4 HE1.out.b
        have yc : U1.cell? ⟨g, kt * 7 + 4, none⟩ = some (.int .i64 t4) := HE1.out.r.cell (by rw [List.getElem?_set_ne (by omega)]; exact HFL.out 4 _ (by omega) rfl)
        have yf := HE1.out.r.fz (kt * 7 + 4)
        have hwr : IntKind.i64.wrap (t4 + late) = t4 + late := IntWalk.i64_in _ (by omega)
        have hf' := HF'.out
        obtain ⟨hm1, rfl⟩ | ⟨hm1, rfl⟩ : (t4 + late ≤ 1000000 ∧ f' = t4 + late) ∨ (1000000 < t4 + late ∧ f' = 1000000) := by omega
        · clear hf'
          have hm2 : ¬ 1000000 < t4 + late := by omega
          go_region
          all_goals
            clear y4 yc yf hwr
            go_wp2
            go_meet
            case rel => first | exact HE1.out.drew.set _ _ | exact (HE1.out.set _ _).drew | exact HE1.out.set _ _
        · clear hf'
          have hm2 : ¬ t4 + late ≤ 1000000 := by omega
          go_region
          all_goals
            clear y4 yc yf hwr
            go_wp2
            go_meet
            case rel => first | exact HE1.out.drew.set _ _ | exact (HE1.out.set _ _).drew | exact HE1.out.set _ _
      case rest =>
        have HE2 := Lib.hid hcut.out
        clear HE1 hcut
        generalize wc = U2 at *
        clear HS' HF' hb0 hb1 hb2
        have HXU := Lib.hid (HX4.out.below HE2.out.bel)
        have HTU := Lib.hid (HT4.out.below HE2.out.bel)
        have HVU := Lib.hid (HV4.out.below HE2.out.bel)
        have HBU := Lib.hid (below_next HB4.out HE2.out.bel)
        have HTS := Lib.hid (RowT.set_trucks HTK.out HE2.out.r)
        have HC : Hid (Calls Try.prog 9 #[.agg #[.int .i64 x.N, .slice x.dA x.dm x.dc, .slice x.tA x.tm x.tc, .slice x.A x.m x.c, .slice (some ⟨g, 0, none⟩) x.k cp], .agg #[.int .i64 r.tr, .slice r.sA r.sm r.sc]] U2 (TripPost U2 rs2)) :=
          run_b (exW x g cp (x.ts.set kt ⟨t0, t1, t2, s', f', t5, t6⟩)) r U2 rs2 HRS2.out ⟨HXU.out.x.ar, HXU.out.x.n, HXU.out.x.ml, HXU.out.x.m2, by show (x.ts.set kt _).length = x.k; rw [List.length_set]; exact HKL.out, HXU.out.x.k2, HXU.out.x.os, HTS.out⟩ HXU.out.r
        have c0 := exb0 HE2.out.b
        have c1 := exb1 HE2.out.b
        have c2 := exb2 HE2.out.b
        have c3 := exb3 HE2.out.b
        have c4 := exb4 HE2.out.b
        have r0 := rbox0 HXU.out.b.r
        have r1 := rbox1 HXU.out.b.r
        go_wp2_with fail
        with_reducible refine HC.out.mono ?_
        rintro e w7 ⟨A2, cA2, rfl, h7⟩
        clear c0 c1 c2 c3 c4 r0 r1 HC
        obtain ⟨n2, hn2⟩ : ∃ n, rs2.vs.length = n := ⟨_, rfl⟩
        have HN2 := Lib.hid hn2
        rw [hn2]
        clear hn2
        have HV2 := Lib.hid (VisAt.below h7.out.2.1 (below_alloc w7 (.cells #[.slice A2 n2 cA2, .int .i64 rs2.back, .int .i64 rs2.dist, .int .i64 rs2.cost] 36)))
        have HBW := Lib.hid (below_more (below_next HBU.out h7.out.1) (.cells #[.slice A2 n2 cA2, .int .i64 rs2.back, .int .i64 rs2.dist, .int .i64 rs2.cost] 36))
        have HTW := Lib.hid ((HTU.out.below h7.out.1).below (below_alloc w7 (.cells #[.slice A2 n2 cA2, .int .i64 rs2.back, .int .i64 rs2.dist, .int .i64 rs2.cost] 36)))
        have HVW := Lib.hid ((HVU.out.below h7.out.1).below (below_alloc w7 (.cells #[.slice A2 n2 cA2, .int .i64 rs2.back, .int .i64 rs2.dist, .int .i64 rs2.cost] 36)))
        have HT2 : Hid (Box (w7.alloc (.cells #[.slice A2 n2 cA2, .int .i64 rs2.back, .int .i64 rs2.dist, .int .i64 rs2.cost] 36)) w7.heap.size #[.slice A2 n2 cA2, .int .i64 rs2.back, .int .i64 rs2.dist, .int .i64 rs2.cost] 36) := Box.new _ _ _
        obtain ⟨g1, g2, g3, g4, g5, g6, g7⟩ := HEA.out
        have hl : n2 = n := by rw [← HN2.out, ← HN.out, g5, g6, Rt.visits_len, Rt.visits_len]
        have hn100 : n2 ≤ 100 := by rw [← HN2.out, g5, Rt.visits_len, Rt.ordersOf_len, HSL.out]; exact hs
        subst hl
        have k1 : (rs2.e != 0) = false := by rw [g1]; rfl
        have k2 : ((n2 : Int) != (n2 : Int)) = false := by simp
        have k2' : (n2 != n2) = false := by simp
        have k3 : decide (res.back < rs2.back) = false := decide_eq_false (by omega)
        have k4 : (rs2.dist != res.dist) = false := by rw [g3]; simp
        have k5 : (rs2.cost != res.cost) = false := by rw [g4]; simp
        have HVV : Hid (∀ i, i < n2 → ∃ u v, rs2.vs[i]? = some u ∧ res.vs[i]? = some v ∧ Rt.VLe u v) := fun i hi => by
          obtain ⟨u, hu⟩ := mlist_at rs2.vs i (by rw [HN2.out]; exact hi)
          obtain ⟨v, hv⟩ := mlist_at res.vs i (by rw [HN.out]; exact hi)
          refine ⟨u, v, hu, hv, ?_⟩
          rw [g5] at hu
          rw [g6] at hv
          exact Rt.Le.visits g7 i u v hu hv
        have z0 := HT2.out.cell 0 _ rfl
        have z1 := HT2.out.cell 1 _ rfl
        have z2 := HT2.out.cell 2 _ rfl
        have z3 := HT2.out.cell 3 _ rfl
        have y0 := HTW.out.cell 0 _ rfl
        have y1 := HTW.out.cell 1 _ rfl
        have y2 := HTW.out.cell 2 _ rfl
        have y3 := HTW.out.cell 3 _ rfl
        clear h7 HXU HTU HVU HBU HTS HE2 g1 g2 g3 g4 g5 g6 g7 HEA HX4 HT4 HV4 HB4
        go_wp2_with fail
        clear z0 z1 z2 z3 y0 y1 y2 y3
        generalize w7.alloc (.cells #[.slice A2 n2 cA2, .int .i64 rs2.back, .int .i64 rs2.dist, .int .i64 rs2.cost] 36) = U3 at *
        generalize w7.heap.size = q2 at *
        go_loopg [8, 140] n2 (fun gk s8 s140 W => ∃ (i : Nat) (W0 : World), W0 = W ∧ i + gk = n2 ∧ s8 = .bool false ∧ s140 = .int .i64 i ∧ Hid (Below U3.heap.size U3 W0))
        case atStart => exact ⟨0, _, rfl, by omega, rfl, rfl, Below.refl _ _⟩
        case round =>
          obtain ⟨i, W0, rfl, hkg, rfl, rfl, HB⟩ := hrel
          by_cases hlt : i < n2
          · obtain ⟨gk, rfl⟩ : ∃ j, gk = j + 1 := ⟨gk - 1, by omega⟩
            obtain ⟨u, v, hu, hv, hle⟩ := HVV.out i hlt
            obtain ⟨ad, hA3, c0, c1, c2, c3⟩ := (HV2.out.below HB.out).at_ hu
            have HVB := Lib.hid ((HVW.out.below HB.out).below (below_alloc W0 (.cells #[.int .i64 u.order, .int .i64 u.arrive, .int .i64 u.start, .int .i64 u.leave] 53)))
            obtain ⟨ae, hA, g0, g1, g2, g3⟩ := HVB.out.at_ hv
            have z0 := ((HTW.out.below HB.out).below (below_alloc W0 (.cells #[.int .i64 u.order, .int .i64 u.arrive, .int .i64 u.start, .int .i64 u.leave] 53))).cell 0 _ rfl
            have HBI := Lib.hid (below_more HB.out (.cells #[.int .i64 u.order, .int .i64 u.arrive, .int .i64 u.start, .int .i64 u.leave] 53))
            have i1 : (i : Int) < (n2 : Int) := by omega
            have m1 : decide (v.arrive < u.arrive) = false := decide_eq_false (by have := hle.ar; omega)
            have m2 : decide (v.start < u.start) = false := decide_eq_false (by have := hle.be; omega)
            have m3 : decide (v.leave < u.leave) = false := decide_eq_false (by have := hle.le; omega)
            obtain ⟨d0, d1, d2, d3⟩ := u
            obtain ⟨v0, v1, v2, v3⟩ := v
            simp only at c0 c1 c2 c3 g0 g1 g2 g3 z0 HBI HVB m1 m2 m3
            subst hA3
            subst hA
            clear hu hv HVB hle
            go_wp2
            go_quiet (fail)
            go_wp2
            go_roundg gk
            case measure => omega
            case rel => exact ⟨i + 1, _, rfl, by omega, rfl, by first | rfl | go_num, HBI.out.trans ⟨rfl, rfl, rfl, Nat.le_refl _, fun _ _ => rfl⟩⟩
          · obtain rfl : i = n2 := by omega
            go_wp2
            go_ret
            exact ⟨rfl, below_next HBW.out HB.out⟩
  · have e1 : (res.e != 0) = true := bne_iff_ne.2 e0
    have he := Rt.run_err (N := x.N) (D := x.D) (T := x.T) (os := x.os) (ts := x.ts) (tr := r.tr) (st := r.st) (by rw [HRES.out]; exact e0)
    rw [HRES.out] at he
    have hn0 : n = 0 := by rw [← HN.out, he.1]; rfl
    subst hn0
    have hc0 : (res.cost == 0) = true := by rw [he.2]; rfl
    have z0 := HT4.out.cell 0 _ rfl
    have z3 := HT4.out.cell 3 _ rfl
    clear he e0
    go_wp2
    go_ret
    exact ⟨rfl, HB4.out⟩

theorem walk (x : Wd) {W : World} (hx : WorldIn W x) (r : Rd) (hr : RouteIn W r) (early : Int) (_h : (Lit.int .i64 early).wf = true) (late : Int) (_h : (Lit.int .i64 late).wf = true) :
    Calls Try.prog 4 #[.agg #[.int .i64 x.N, .slice x.dA x.dm x.dc, .slice x.tA x.tm x.tc, .slice x.A x.m x.c, .slice x.B x.k x.d], .agg #[.int .i64 r.tr, .slice r.sA r.sm r.sc], .int .i64 early, .int .i64 late] W fun e w' => e = .returned (.bool true) ∧ Below W.heap.size W w' := by
  by_cases h : Large x r
  · exact long_any x r early late W hx hr h
  · have hs : r.sm ≤ 100 := by unfold Large at h; omega
    by_cases hm : early < 0 ∨ late < 0 ∨ 1000000 < early ∨ 1000000 < late
    · exact out_any x r early late W h hs hm
    · exact short_any x r early late W hx hr h hs (by omega) (by omega) (by omega) (by omega)

set_option maxRecDepth 100000 in
theorem lifted (os : Os) (started : os.Started) (H : Type) (enc : TypeId × Value → H) :
    ReturnsInHanded {} Try.checked os 4 .any (Rows.routeEarlySpec.pre6 enc Try.prog Try.f4 Rows.routeEarlyRow.domain false) (Rows.routeEarlySpec.post enc Try.prog Try.f4 false true false false) := by
  refine returnsInHanded_of_change_sized (C := Try.checked) own started (by kernel_rfl) Try.func4
    (ChangeSpec.witness6 (enc := enc) (C := Try.checked) false ⟨#[], #[.agg #[.int .i64 0, .slice none 0 0, .slice none 0 0, .slice none 0 0, .slice none 0 0], .agg #[.int .i64 0, .slice none 0 0], .int .i64 0, .int .i64 0], []⟩ 8 (by kernel_rfl) (by kernel_rfl) (by kernel_rfl) (by kernel_rfl)) ?_
  intro W base args ds gs before hval0 hW _ hsz0 _
  have hsz : (DataW.weightsEach Try.prog (Try.f4.params.toList ++ Rows.routeEarlySpec.plain.varTypes Try.prog) (ds ++ gs)).all (· ≤ reachBytes) = true := hsz0
  have hval : ∀ (j : Nat) t v, Try.f4.params[j]? = some t → args[j]? = some v → Value.okWide Try.prog W .any base t v := hval0
  have hW' := hW
  obtain ⟨p, q, hA0, hV, rfl, hfz, hnd⟩ := hW
  have hA : DataW.TrodAll enc Try.prog W 0 (fun _ => true) true Try.f4.params.toList args.toList ds p := hA0
  rw [Try.params4] at hA hval hsz
  obtain ⟨v0, vs0, d0, ds0, p0, q0, hargs, rfl, rfl, h0, r0⟩ := trodAll_cons hA
  obtain ⟨v1, vs1, d1, ds1, p1, q1, rfl, rfl, rfl, h1, r1⟩ := trodAll_cons r0
  obtain ⟨v2, vs2, d2, ds2, p2, q2, rfl, rfl, rfl, h2, r2⟩ := trodAll_cons r1
  obtain ⟨v3, vs3, d3, ds3, p3, q3, rfl, rfl, rfl, h3, r3⟩ := trodAll_cons r2
  obtain ⟨rfl, rfl, rfl⟩ := trodAll_nil r3
  obtain rfl : args = #[v0, v1, v2, v3] := by cases args; simp_all
  obtain ⟨rfl, rfl⟩ := trodVars_none hV
  have k0 := h0
  have lt0 : ∀ x ∈ p0, x.block < W.heap.size := by obtain ⟨m, hm⟩ := k0; exact DataW.trod_lt m _ _ _ hm
  obtain ⟨x0, rfl, hv0⟩ := open_world_in (hval 0 28 v0 rfl rfl) h0
  have k1 := h1
  have lt1 : ∀ x ∈ p1, x.block < W.heap.size := by obtain ⟨m, hm⟩ := k1; exact DataW.trod_lt m _ _ _ hm
  obtain ⟨x1, rfl, hv1⟩ := open_route_in (hval 1 31 v1 rfl rfl) h1
  obtain ⟨a2, rfl, rfl, rfl, w2⟩ := open_int Try.underlying2 (hval 2 2 v2 rfl rfl) h2
  obtain ⟨a3, rfl, rfl, rfl, w3⟩ := open_int Try.underlying2 (hval 3 2 v3 rfl rfl) h3
  clear hA0 hval0
  refine (walk x0 hv0 x1 hv1 a2 w2 a3 w3).mono fun e W' ⟨he, bel⟩ => ?_
  subst he
  exact ⟨_, rfl, _, _, _, [], _, [], hW', trodAll_mk1 (shut_bool Try.underlying4 _), (trodAll_cons_mk (Below.trod laidOut (by kernel_rfl) (of_decide_eq_true (by kernel_rfl)) k0 bel lt0) (trodAll_cons_mk (Below.trod laidOut (by kernel_rfl) (of_decide_eq_true (by kernel_rfl)) k1 bel lt1) (trodAll_cons_mk (shut_int Try.underlying2 w2) (trodAll_cons_mk (shut_int Try.underlying2 w3) trodAll_mk0)))), rfl, bel.frame _, fun h => by cases h⟩

theorem over : Rows.routeEarlyRow.holds Try.pinned (OpenSpec.ofChange Rows.routeEarlySpec) :=
  OpenClaim.holds_of_wide 4 Try.f4 rfl rfl rfl rfl rfl rfl rfl ⟨rfl, rfl, rfl, rfl, rfl⟩ rfl rfl rfl rfl rfl (by kernel_rfl) Try.func4 (by kernel_rfl)
    (of_decide_eq_true (by kernel_rfl)) (by unfold Func.isWrapper; first | (rw [if_pos (by decide +kernel)]; kernel_rfl) | (rw [if_neg (by decide +kernel)]; exact ⟨rfl, rfl⟩))
    (fun os started H enc _ => lifted os started H enc)

theorem proved : Rows.RouteEarlySaid := over
end Go.Proofs.Ytihnkklnkcideaa.routeEarly
