/- What is read of an argument that is a world with its area, or a route; Large. -/
import Derived.Test.YtbacakblboodeaaRouteE
import Derived.Test.YtbacakblboodeaaLoadOpen
import Derived.Test.YtbacakblboodeaaAreaOpen
namespace Go.Proofs.Ytbacakblboodeaa
open Go.ChangeShapes Go.WideShapes Go.ChangeAt Go.RowKit Go.Deep
set_option linter.unusedVariables false
set_option maxRecDepth 100000

theorem cellsInts : Try.prog.cellsOf 29 = 1 := by kernel_rfl
theorem cellsRoute : Try.prog.cellsOf 78 = 2 := by kernel_rfl

/-- a world that came in -/
structure WorldIn (W : World) (x : Wd) : Prop where
  n : x.N ≤ 9223372036854775807
  dl : x.D.length = x.dm
  dx : x.dm ≤ maxLen
  tl : x.T.length = x.tm
  tx : x.tm ≤ maxLen
  ml : x.os.length = x.m
  mx : x.m ≤ maxLen
  kl : x.ts.length = x.k
  kx : x.k ≤ maxLen
  D : IntsAt W x.dA x.D
  T : IntsAt W x.tA x.T
  os : OrdersAt W x.A x.os
  ts : TrucksAt W x.B x.ts
/-- a route that came in -/
structure RouteIn (W : World) (r : Rd) : Prop where
  sl : r.st.length = r.sm
  sc : r.sm ≤ r.sc
  sx : r.sc ≤ maxLen
  st : IntsAt W r.sA r.st
/-- more than the statements look at -/
def Large (x : Wd) (r : Rd) : Prop := 50 < x.m ∨ 50 < x.k ∨ 400 < x.dm ∨ 400 < x.tm ∨ 100 < r.sm
theorem WorldIn.at_ {W : World} {x : Wd} {r : Rd} (h : WorldIn W x) (hs : ¬ Large x r) : WAt W x := by
  unfold Large at hs
  exact ⟨⟨h.dl, h.tl, by omega, by omega, h.D, h.T⟩, h.n, h.ml, by omega, h.kl, by omega, h.os, h.ts⟩
theorem RouteIn.at_ {W : World} {x : Wd} {r : Rd} (h : RouteIn W r) (hs : ¬ Large x r) : RAt W r := by
  unfold Large at hs
  exact ⟨h.sl, by omega, h.st⟩

theorem open_world_in {H : Type} {enc : TypeId × Value → H} {W : World} {v : Value} {d : DataW H} {p : List MemPlace} {b0 : Nat}
    (hv : Value.okWide Try.prog W .any b0 28 v) (h : DataW.Trod enc Try.prog W 0 (fun _ => true) true 28 v d p) :
    ∃ x : Wd, v = .agg #[.int .i64 x.N, .slice x.dA x.dm x.dc, .slice x.tA x.tm x.tc, .slice x.A x.m x.c, .slice x.B x.k x.d] ∧ WorldIn W x := by
  obtain ⟨cs, rfl, hsz⟩ := okWide_struct Try.underlying28 hv
  obtain ⟨l⟩ := cs
  match l, hsz.trans cellsWorld with
  | [c0, c1, c2, c3, c4], _ =>
    obtain ⟨fuel, hf⟩ := h
    obtain ⟨ys, n', _, hy, hlen, hyl, hfs⟩ := DataW.trod_struct Try.underlying28 hf
    match ys, hyl with
    | [y0, y1, y2], _ =>
      have g0 : DataW.trod enc Try.prog W 0 (fun _ => true) true n' 24 [c0, c1, c2] = some y0 := by simpa [Value.cells, cellsArea] using hfs 0 _ rfl
      have g1 : DataW.trod enc Try.prog W 0 (fun _ => true) true n' 25 [c3] = some y1 := by simpa [Value.cells, cellsArea, cellsOs] using hfs 1 _ rfl
      have g2 : DataW.trod enc Try.prog W 0 (fun _ => true) true n' 26 [c4] = some y2 := by simpa [Value.cells, cellsArea, cellsOs, cellsTs] using hfs 2 _ rfl
      obtain ⟨zs, n2, _, _, _, hzl, hz⟩ := DataW.trod_struct Try.underlying24 g0
      match zs, hzl with
      | [u0, u1, u2], _ =>
        have f0 : DataW.trod enc Try.prog W 0 (fun _ => true) true n2 3 [c0] = some u0 := by simpa [cellsInt] using hz 0 _ rfl
        obtain ⟨N, hN, hyN, hw⟩ := DataW.trod_int Try.underlying3 f0
        simp at hN
        subst hN
        have hr : -9223372036854775808 ≤ N ∧ N ≤ 9223372036854775807 := by simpa [Lit.wf, IntKind.min, IntKind.max, IntKind.bits, IntKind.signed] using hw
        obtain ⟨A, m, c, os, rfl, a1, a2, a3, a4⟩ := orders_field g1
        obtain ⟨B, k, d, ts, rfl, b1, b2, b3, b4⟩ := trucks_field g2
        have f1 : DataW.trod enc Try.prog W 0 (fun _ => true) true n2 22 [c1] = some u1 := by simpa [cellsInt, cellsI64s] using hz 1 _ rfl
        have f2 : DataW.trod enc Try.prog W 0 (fun _ => true) true n2 22 [c2] = some u2 := by simpa [cellsInt, cellsI64s] using hz 2 _ rfl
        obtain ⟨dA, dm, dc, D, rfl, d1, d2, d3, d4⟩ := ints_field64 f1
        obtain ⟨tA, tm, tc, T, rfl, e1, e2, e3, e4⟩ := ints_field64 f2
        exact ⟨⟨N, dA, dm, dc, D, tA, tm, tc, T, A, m, c, os, B, k, d, ts⟩, rfl, hr.2, d1, Nat.le_trans d2 d3, e1, Nat.le_trans e2 e3, a1, Nat.le_trans a2 a3, b1, Nat.le_trans b2 b3, d4, e4, a4, b4⟩

theorem open_route_in {H : Type} {enc : TypeId × Value → H} {W : World} {v : Value} {d : DataW H} {p : List MemPlace} {b0 : Nat}
    (hv : Value.okWide Try.prog W .any b0 78 v) (h : DataW.Trod enc Try.prog W 0 (fun _ => true) true 78 v d p) :
    ∃ r : Rd, v = .agg #[.int .i64 r.tr, .slice r.sA r.sm r.sc] ∧ RouteIn W r := by
  obtain ⟨v0, v1, y0, y1, n, rfl, _, _, t0, t1⟩ := Go.Joins.open_agg2 Try.underlying78 (by kernel_rfl) (by kernel_rfl) hv h
  obtain ⟨N, hN, _, _⟩ := DataW.trod_int Try.underlying3 t0
  obtain ⟨A, m, c, l, rfl, d1, d2, d3, d4⟩ := ints_field t1
  simp at hN
  subst hN
  exact ⟨⟨N, A, m, c, l⟩, rfl, d1, d2, d3, d4⟩

theorem large_no (x : Wd) (r : Rd) (w : World) (h : ¬ Large x r) :
    Calls Try.prog 18 #[.agg #[.int .i64 x.N, .slice x.dA x.dm x.dc, .slice x.tA x.tm x.tc, .slice x.A x.m x.c, .slice x.B x.k x.d], .int .i64 (r.sm : Int)] w fun e w' => e = .returned (.bool false) ∧ Hid (Below w.heap.size w w') := by
  unfold Large at h
  have d1 : decide ((50 : Int) < (x.m : Int)) = false := decide_eq_false (by omega)
  have d2 : decide ((50 : Int) < (x.k : Int)) = false := decide_eq_false (by omega)
  have d3 : decide ((400 : Int) < (x.dm : Int)) = false := decide_eq_false (by omega)
  have d4 : decide ((400 : Int) < (x.tm : Int)) = false := decide_eq_false (by omega)
  have d5 : decide ((100 : Int) < (r.sm : Int)) = false := decide_eq_false (by omega)
  clear h
  go_enter Try.func18, Try.ntmps18
  go_wp2
  go_ret
  exact ⟨rfl, below_alloc _ _⟩
theorem large_yes (x : Wd) (r : Rd) (w : World) (hm : x.m ≤ maxLen) (hk : x.k ≤ maxLen) (hd : x.dm ≤ maxLen) (ht : x.tm ≤ maxLen) (hs : r.sm ≤ maxLen) (h : Large x r) :
    Calls Try.prog 18 #[.agg #[.int .i64 x.N, .slice x.dA x.dm x.dc, .slice x.tA x.tm x.tc, .slice x.A x.m x.c, .slice x.B x.k x.d], .int .i64 (r.sm : Int)] w fun e w' => e = .returned (.bool true) ∧ Hid (Below w.heap.size w w') := by
  unfold Large at h
  unfold maxLen at hm hk hd ht hs
  by_cases h1 : 50 < x.m
  · have d1 : decide ((50 : Int) < (x.m : Int)) = true := decide_eq_true (by omega)
    clear h h1
    go_enter Try.func18, Try.ntmps18
    go_wp2
    go_ret
    exact ⟨rfl, below_alloc _ _⟩
  have d1 : decide ((50 : Int) < (x.m : Int)) = false := decide_eq_false (by omega)
  by_cases h2 : 50 < x.k
  · have d2 : decide ((50 : Int) < (x.k : Int)) = true := decide_eq_true (by omega)
    clear h h1 h2
    go_enter Try.func18, Try.ntmps18
    go_wp2
    go_ret
    exact ⟨rfl, below_alloc _ _⟩
  have d2 : decide ((50 : Int) < (x.k : Int)) = false := decide_eq_false (by omega)
  by_cases h3 : 400 < x.dm
  · have d3 : decide ((400 : Int) < (x.dm : Int)) = true := decide_eq_true (by omega)
    clear h h1 h2 h3
    go_enter Try.func18, Try.ntmps18
    go_wp2
    go_ret
    exact ⟨rfl, below_alloc _ _⟩
  have d3 : decide ((400 : Int) < (x.dm : Int)) = false := decide_eq_false (by omega)
  by_cases h4 : 400 < x.tm
  · have d4 : decide ((400 : Int) < (x.tm : Int)) = true := decide_eq_true (by omega)
    clear h h1 h2 h3 h4
    go_enter Try.func18, Try.ntmps18
    go_wp2
    go_ret
    exact ⟨rfl, below_alloc _ _⟩
  have d4 : decide ((400 : Int) < (x.tm : Int)) = false := decide_eq_false (by omega)
  have d5 : decide ((100 : Int) < (r.sm : Int)) = true := decide_eq_true (by omega)
  clear h h1 h2 h3 h4
  go_enter Try.func18, Try.ntmps18
  go_wp2
  go_ret
  exact ⟨rfl, below_alloc _ _⟩
theorem wbox0 {w : World} {b : Nat} {x : Wd} (h : Box w b x.cells 28) : w.cell? ⟨b, 0, none⟩ = some (.int .i64 x.N) := h.cell 0 _ rfl
theorem wbox1 {w : World} {b : Nat} {x : Wd} (h : Box w b x.cells 28) : w.cell? ⟨b, 1, none⟩ = some (.slice x.dA x.dm x.dc) := h.cell 1 _ rfl
theorem wbox2 {w : World} {b : Nat} {x : Wd} (h : Box w b x.cells 28) : w.cell? ⟨b, 2, none⟩ = some (.slice x.tA x.tm x.tc) := h.cell 2 _ rfl
theorem wbox3 {w : World} {b : Nat} {x : Wd} (h : Box w b x.cells 28) : w.cell? ⟨b, 3, none⟩ = some (.slice x.A x.m x.c) := h.cell 3 _ rfl
theorem wbox4 {w : World} {b : Nat} {x : Wd} (h : Box w b x.cells 28) : w.cell? ⟨b, 4, none⟩ = some (.slice x.B x.k x.d) := h.cell 4 _ rfl
theorem rbox0 {w : World} {b : Nat} {r : Rd} (h : Box w b r.cells 78) : w.cell? ⟨b, 0, none⟩ = some (.int .i64 r.tr) := h.cell 0 _ rfl
theorem rbox1 {w : World} {b : Nat} {r : Rd} (h : Box w b r.cells 78) : w.cell? ⟨b, 1, none⟩ = some (.slice r.sA r.sm r.sc) := h.cell 1 _ rfl

/-- the boxes of a law: the world and the route, whatever their rows hold -/
structure LB (V : World) (b1 b2 : Nat) (x : Wd) (r : Rd) : Prop where
  w : Box V b1 x.cells 28
  r : Box V b2 r.cells 78
theorem LB.below {V V' : World} {b1 b2 : Nat} {x : Wd} {r : Rd} (h : LB V b1 b2 x r) (hb : Below V.heap.size V V') : LB V' b1 b2 x r := ⟨h.w.below hb, h.r.below hb⟩
theorem LB.new (w : World) (x : Wd) (r : Rd) : LB ((w.alloc (.cells #[.int .i64 x.N, .slice x.dA x.dm x.dc, .slice x.tA x.tm x.tc, .slice x.A x.m x.c, .slice x.B x.k x.d] 28)).alloc (.cells #[.int .i64 r.tr, .slice r.sA r.sm r.sc] 78)) w.heap.size (w.heap.size + 1) x r := by
  refine ⟨(Box.new _ _ _).below (below_alloc _ _), ?_⟩
  rw [size_one w (.cells #[.int .i64 x.N, .slice x.dA x.dm x.dc, .slice x.tA x.tm x.tc, .slice x.A x.m x.c, .slice x.B x.k x.d] 28)]
  exact Box.new _ _ _
/-- the same, with the rows that it looks at -/
structure LW (V : World) (b1 b2 : Nat) (x : Wd) (r : Rd) : Prop where
  b : LB V b1 b2 x r
  x : WAt V x
  r : RAt V r
theorem LW.below {V V' : World} {b1 b2 : Nat} {x : Wd} {r : Rd} (h : LW V b1 b2 x r) (hb : Below V.heap.size V V') : LW V' b1 b2 x r := ⟨h.b.below hb, h.x.below hb, h.r.below hb⟩

theorem sizeInts (W : World) : (sizeOf (Try.prog.elem 29)).run Try.prog W = .ok 1 W := by kernel_rfl
theorem front_ints (A : Option Addr) (n c k : Nat) (hnc : n ≤ c) (hk : k ≤ n) :
    ∀ W : World, (Instr.slice 29 (.slice A n c) none (some (.int .i64 (k : Int))) none).run Try.prog W = .ok (.slice A k c) W := by
  intro W
  rw [run_slice_h W 29 A n c (by kernel_rfl) .i64 _ (by omega) (by omega), sizeInts W]
  simp [sliced, Result.andThen]
  intro _
  cases A <;> rfl
theorem ints_take {W : World} {A : Option Addr} {l : List Int} (h : IntsAt W A l) (k : Nat) : IntsAt W A (l.take k) := by
  intro j z hz
  have hj : j < k := by have := (List.getElem?_eq_some_iff.1 hz).1; rw [List.length_take] at this; omega
  rw [List.getElem?_take_of_lt hj] at hz
  exact h j z hz
end Go.Proofs.Ytbacakblboodeaa
