/- Contracts of package route: named: the truck of a route, and its orders. -/
import Derived.Test.YtbacakblboodeaaRouteC
namespace Go.Proofs.Ytbacakblboodeaa
open Go.RowKit
set_option linter.unusedVariables false
set_option maxRecDepth 100000

theorem make_orders (n : Nat) (hn : n ≤ 200000) (w : World) : (Instr.makeSlice 25 (.int .i64 (n : Int)) (.int .i64 (n : Int))).run Try.prog w = .ok (.slice (some ⟨w.heap.size, 0, none⟩) n n) (w.alloc (.cells ((List.replicate (n * 8) (0 : Int)).map (Value.int .i64)).toArray 57)) := by
  obtain ⟨i, h1, h2, h3, h4⟩ := info_parts4 order_info
  have := run_make (P := Try.prog) w 25 57 i _ Try.underlying25 h1 h2 .i64 .i64 n n (by omega) (by omega) (by rw [h4]; omega) (by omega)
  rw [this, made_nums _ (by decide) (fun i hi => by
    have h1 : i < 8 := hi
    match i, h1 with
    | 0, _ => rfl
    | 1, _ => rfl
    | 2, _ => rfl
    | 3, _ => rfl
    | 4, _ => rfl
    | 5, _ => rfl
    | 6, _ => rfl
    | 7, _ => rfl), h3, Int.toNat_natCast]

theorem make_orders2 (n : Nat) (hn : n ≤ 200000) (w : World) : (Instr.makeSlice 25 (.int .i64 (n : Int)) (.int .i64 (n : Int))).run Try.prog w = .ok (.slice (some ⟨w.heap.size, 0, none⟩) n n) (w.alloc (.cells (Array.replicate (n * 8) (Value.int .i64 0)) 57)) := by
  rw [make_orders n hn w, arr_zeros]

/-- numbers in a block of one's own, the first k records of a list among them -/
def OR (w : World) (g m k : Nat) (l : List Ld.O) : Prop :=
  ∃ L : List Int, Box w g (L.map (Value.int .i64)).toArray 57 ∧ L.length = m * 8 ∧ ∀ (j : Nat) (o : Ld.O), j < k → l[j]? = some o → ∀ (i : Nat) (z : Int), o.ints[i]? = some z → L[j * 8 + i]? = some z
theorem OR.lt {w : World} {g m k : Nat} {l : List Ld.O} (h : OR w g m k l) : g < w.heap.size := by obtain ⟨L, h, _⟩ := h; exact h.lt
theorem OR.below {w w' : World} {g m k : Nat} {l : List Ld.O} (h : OR w g m k l) (hb : Below w.heap.size w w') : OR w' g m k l := by obtain ⟨L, h, r⟩ := h; exact ⟨L, h.below hb, r⟩
theorem OR.start (w : World) (m : Nat) (l : List Ld.O) : OR (w.alloc (.cells (Array.replicate (m * 8) (Value.int .i64 0)) 57)) w.heap.size m 0 l := ⟨List.replicate (m * 8) 0, by rw [arr_zeros]; exact Box.new _ _ _, by simp, fun j o hj => by omega⟩
theorem OR.cell {w : World} {g m k : Nat} {l : List Ld.O} (h : OR w g m k l) {p : Nat} (hp : p < m * 8) : ∃ z, w.cell? ⟨g, p, none⟩ = some (.int .i64 z) := by
  obtain ⟨L, hb, hl, _⟩ := h
  obtain ⟨z, hz⟩ := mlist_at L p (by omega)
  exact ⟨z, hb.cell p _ (by simp [hz])⟩
theorem OR.fz {w : World} {g m k : Nat} {l : List Ld.O} (h : OR w g m k l) (p : Nat) : w.frozen? ⟨g, p, none⟩ = false := by obtain ⟨L, hb, _⟩ := h; exact hb.fz p
theorem OR.all {w : World} {g m : Nat} {l : List Ld.O} (h : OR w g m m l) (hl : l.length = m) : OrdersAt w (some ⟨g, 0, none⟩) l := by
  obtain ⟨L, hb, hL, hat⟩ := h
  refine ints_of_rows Ld.O.ints 8 (by omega) (fun _ => rfl) l _ fun q o ho j z hz => ?_
  rw [Addr.add_mid, Nat.zero_add]
  exact hb.cell _ _ (by simp [hat q o (by have := (List.getElem?_eq_some_iff.1 ho).1; omega) ho j z hz])
theorem box_set {w : World} {g : Nat} {L : List Int} {t : TypeId} (h : Box w g (L.map (Value.int .i64)).toArray t) (p : Nat) (z : Int) : Box (w.setCell ⟨g, p, none⟩ (.int .i64 z)) g ((L.set p z).map (Value.int .i64)).toArray t :=
  h.set p _ _ (by simp only [List.setIfInBounds_toArray, List.map_set])
def set8 (L : List Int) (b : Nat) (a0 a1 a2 a3 a4 a5 a6 a7 : Int) : List Int := (((((((L.set b a0).set (b + 1) a1).set (b + 2) a2).set (b + 3) a3).set (b + 4) a4).set (b + 5) a5).set (b + 6) a6).set (b + 7) a7
theorem set8_far (L : List Int) (b : Nat) (a0 a1 a2 a3 a4 a5 a6 a7 : Int) (p : Nat) (h : p < b ∨ b + 8 ≤ p) : (set8 L b a0 a1 a2 a3 a4 a5 a6 a7)[p]? = L[p]? := by
  unfold set8
  repeat rw [List.getElem?_set_ne (by omega)]
theorem set8_at (L : List Int) (b : Nat) (o : Ld.O) (hb : b + 8 ≤ L.length) (i : Nat) (z : Int) (hz : o.ints[i]? = some z) : (set8 L b o.id o.owner o.node o.weight o.volume o.frm o.to o.service)[b + i]? = some z := by
  have hi : i < 8 := (List.getElem?_eq_some_iff.1 hz).1
  unfold set8
  match i, hi, hz with
  | 0, _, hz => simp only [List.getElem?_set, List.length_set]; simp [Ld.O.ints] at hz; simp [hz]; omega
  | 1, _, hz => simp only [List.getElem?_set, List.length_set]; simp [Ld.O.ints] at hz; simp [hz]; omega
  | 2, _, hz => simp only [List.getElem?_set, List.length_set]; simp [Ld.O.ints] at hz; simp [hz]; omega
  | 3, _, hz => simp only [List.getElem?_set, List.length_set]; simp [Ld.O.ints] at hz; simp [hz]; omega
  | 4, _, hz => simp only [List.getElem?_set, List.length_set]; simp [Ld.O.ints] at hz; simp [hz]; omega
  | 5, _, hz => simp only [List.getElem?_set, List.length_set]; simp [Ld.O.ints] at hz; simp [hz]; omega
  | 6, _, hz => simp only [List.getElem?_set, List.length_set]; simp [Ld.O.ints] at hz; simp [hz]; omega
  | 7, _, hz => simp only [List.getElem?_set, List.length_set]; simp [Ld.O.ints] at hz; simp [hz]; omega
theorem OR.put {w : World} {g m k : Nat} {l : List Ld.O} (h : OR w g m k l) (a0 a1 a2 a3 a4 a5 a6 a7 : Int) (hk : k < m) (ho : l[k]? = some ⟨a0, a1, a2, a3, a4, a5, a6, a7⟩) :
    OR ((((((((w.setCell ⟨g, k * 8, none⟩ (.int .i64 a0)).setCell ⟨g, k * 8 + 1, none⟩ (.int .i64 a1)).setCell ⟨g, k * 8 + 2, none⟩ (.int .i64 a2)).setCell ⟨g, k * 8 + 3, none⟩ (.int .i64 a3)).setCell ⟨g, k * 8 + 4, none⟩ (.int .i64 a4)).setCell ⟨g, k * 8 + 5, none⟩ (.int .i64 a5)).setCell ⟨g, k * 8 + 6, none⟩ (.int .i64 a6)).setCell ⟨g, k * 8 + 7, none⟩ (.int .i64 a7)) g m (k + 1) l := by
  obtain ⟨L, hb, hl, hat⟩ := h
  refine ⟨set8 L (k * 8) a0 a1 a2 a3 a4 a5 a6 a7, box_set (box_set (box_set (box_set (box_set (box_set (box_set (box_set hb _ _) _ _) _ _) _ _) _ _) _ _) _ _) _ _, by unfold set8; simp [hl], fun j o hj hjo i z hz => ?_⟩
  by_cases hjk : j = k
  · subst hjk
    rw [ho] at hjo
    obtain rfl := Option.some.inj hjo
    exact set8_at L (j * 8) ⟨a0, a1, a2, a3, a4, a5, a6, a7⟩ (by omega) i z hz
  · have hi : i < 8 := (List.getElem?_eq_some_iff.1 hz).1
    rw [set8_far _ _ _ _ _ _ _ _ _ _ _ (by omega)]
    exact hat j o (by omega) hjo i z hz
theorem below_set8 {B : Nat} {w W : World} (h : Below B w W) (b o : Nat) (hb : B ≤ b) (v0 v1 v2 v3 v4 v5 v6 v7 : Value) : Below B w ((((((((W.setCell ⟨b, o, none⟩ v0).setCell ⟨b, o + 1, none⟩ v1).setCell ⟨b, o + 2, none⟩ v2).setCell ⟨b, o + 3, none⟩ v3).setCell ⟨b, o + 4, none⟩ v4).setCell ⟨b, o + 5, none⟩ v5).setCell ⟨b, o + 6, none⟩ v6).setCell ⟨b, o + 7, none⟩ v7) :=
  (((((((h.setCell (p := ⟨b, o, none⟩) hb _).setCell (p := ⟨b, o + 1, none⟩) hb _).setCell (p := ⟨b, o + 2, none⟩) hb _).setCell (p := ⟨b, o + 3, none⟩) hb _).setCell (p := ⟨b, o + 4, none⟩) hb _).setCell (p := ⟨b, o + 5, none⟩) hb _).setCell (p := ⟨b, o + 6, none⟩) hb _).setCell (p := ⟨b, o + 7, none⟩) hb _

/-- what named leaves -/
def NamedPost (w : World) (x : Wd) (r : Rd) (e : Ending) (w' : World) : Prop :=
  ∃ (t : Ld.T) (A : Option Addr) (m c : Nat) (ec : Int), e = .returned (.tuple #[.agg #[.int .i64 t.id, .int .i64 t.weight, .int .i64 t.volume, .int .i64 t.start, .int .i64 t.fin, .int .i64 t.fixed, .int .i64 t.rate], .slice A m c, .int .i64 ec]) ∧ Hid (Below w.heap.size w w') ∧
    Hid ((ec = 0 ∧ ¬ Ld.findI (x.ts.map Ld.T.id) r.tr = -1 ∧ Rt.allIn x.os r.st = true ∧ t = Rt.truckAt x.ts r.tr ∧ m = r.sm ∧ OrdersAt w' A (Rt.ordersOf x.os r.st)) ∨ (ec = 5 ∧ (Ld.findI (x.ts.map Ld.T.id) r.tr = -1 ∨ Rt.allIn x.os r.st = false)))

theorem und_truck : Try.prog.underlying 59 = some (.struct ((match Try.prog.underlying 59 with | some (.struct fs) => fs | _ => #[]))) := by kernel_rfl
theorem size_truck : (Try.prog.info? 59).map (·.size) = some 7 := by kernel_rfl
theorem load_truck {W : World} {b : Nat} {cs : Array Value} (h : Box W b cs 59) (hs : cs.size = 7) : (loadVar 59 ⟨b, 0, none⟩).run Try.prog W = .ok (.agg cs) W :=
  run_loadVar_row W b _ _ cs (0, 0) _ h und_truck rfl (by rw [hs]; exact size_truck)
theorem results_cell_tmp2 {fn : Func} {p u v : Tmp} {ty : TypeId} (h : fn.results = #[.cell p ty, .tmp u, .tmp v]) (tmps : Array Value) (P : Program) (w : World) :
    (results fn tmps).run P w =
      ((asAddr (tmps.getD p undef)).run P w).andThen fun a w₁ => ((loadVar ty a).run P w₁).andThen fun x w₂ => .ok (.tuple #[x, tmps.getD u undef, tmps.getD v undef]) w₂ := by
  simp only [results, h]
  simp [Sem.run_bind, Result.andThen]
theorem results_truck {fn : Func} {p u u2 : Tmp} (h : fn.results = #[.cell p 59, .tmp u, .tmp u2]) (tmps : Array Value) {W : World} {b : Nat} {cs : Array Value} (hb : Box W b cs 59) (hs : cs.size = 7) (hp : tmps.getD p undef = .pointer (some ⟨b, 0, none⟩)) {v v2 : Value} (hv : tmps.getD u undef = v) (hv2 : tmps.getD u2 undef = v2) :
    (results fn tmps).run Try.prog W = .ok (.tuple #[.agg cs, v, v2]) W := by
  rw [results_cell_tmp2 h, hp, hv, hv2]
  simp [asAddr, Result.andThen, load_truck hb hs]

theorem truck_set {W : World} {b : Nat} {x0 x1 x2 x3 x4 x5 x6 : Value} (h : Box W b #[x0, x1, x2, x3, x4, x5, x6] 59) (v0 v1 v2 v3 v4 v5 v6 : Value) :
    Box (((((((W.setCell ⟨b, 0, none⟩ v0).setCell ⟨b, 1, none⟩ v1).setCell ⟨b, 2, none⟩ v2).setCell ⟨b, 3, none⟩ v3).setCell ⟨b, 4, none⟩ v4).setCell ⟨b, 5, none⟩ v5).setCell ⟨b, 6, none⟩ v6) b #[v0, v1, v2, v3, v4, v5, v6] 59 :=
  ((((((h.set 0 v0 #[v0, x1, x2, x3, x4, x5, x6] rfl).set 1 v1 #[v0, v1, x2, x3, x4, x5, x6] rfl).set 2 v2 #[v0, v1, v2, x3, x4, x5, x6] rfl).set 3 v3 #[v0, v1, v2, v3, x4, x5, x6] rfl).set 4 v4 #[v0, v1, v2, v3, v4, x5, x6] rfl).set 5 v5 #[v0, v1, v2, v3, v4, v5, x6] rfl).set 6 v6 #[v0, v1, v2, v3, v4, v5, v6] rfl
theorem but_set7 (W : World) (b : Nat) (v0 v1 v2 v3 v4 v5 v6 : Value) (k : Nat) (hk : k ≠ b) : (((((((W.setCell ⟨b, 0, none⟩ v0).setCell ⟨b, 1, none⟩ v1).setCell ⟨b, 2, none⟩ v2).setCell ⟨b, 3, none⟩ v3).setCell ⟨b, 4, none⟩ v4).setCell ⟨b, 5, none⟩ v5).setCell ⟨b, 6, none⟩ v6).heap[k]? = W.heap[k]? :=
  (Go.Deep.blk_setCell_other _ _ _ _ hk).trans ((Go.Deep.blk_setCell_other _ _ _ _ hk).trans ((Go.Deep.blk_setCell_other _ _ _ _ hk).trans ((Go.Deep.blk_setCell_other _ _ _ _ hk).trans ((Go.Deep.blk_setCell_other _ _ _ _ hk).trans ((Go.Deep.blk_setCell_other _ _ _ _ hk).trans (Go.Deep.blk_setCell_other _ _ _ _ hk))))))
theorem below_set7 {B : Nat} {w W : World} (h : Below B w W) (b : Nat) (hb : B ≤ b) (v0 v1 v2 v3 v4 v5 v6 : Value) : Below B w (((((((W.setCell ⟨b, 0, none⟩ v0).setCell ⟨b, 1, none⟩ v1).setCell ⟨b, 2, none⟩ v2).setCell ⟨b, 3, none⟩ v3).setCell ⟨b, 4, none⟩ v4).setCell ⟨b, 5, none⟩ v5).setCell ⟨b, 6, none⟩ v6) :=
  ((((((h.setCell (p := ⟨b, 0, none⟩) hb _).setCell (p := ⟨b, 1, none⟩) hb _).setCell (p := ⟨b, 2, none⟩) hb _).setCell (p := ⟨b, 3, none⟩) hb _).setCell (p := ⟨b, 4, none⟩) hb _).setCell (p := ⟨b, 5, none⟩) hb _).setCell (p := ⟨b, 6, none⟩) hb _

/-- the boxes of named: the world, the route, the truck that is told -/
structure NB (V : World) (b1 b2 b3 : Nat) (x : Wd) (r : Rd) : Prop where
  w : WX V b1 x
  r : RX V b2 r
  t : Box V b3 #[.int .i64 0, .int .i64 0, .int .i64 0, .int .i64 0, .int .i64 0, .int .i64 0, .int .i64 0] 59
theorem NB.below {V V' : World} {b1 b2 b3 : Nat} {x : Wd} {r : Rd} (h : NB V b1 b2 b3 x r) (hb : Below V.heap.size V V') : NB V' b1 b2 b3 x r := ⟨h.w.below hb, h.r.below hb, h.t.below hb⟩
theorem NB.new {w : World} {x : Wd} {r : Rd} (hx : WAt w x) (hr : RAt w r) :
    NB (((w.alloc (.cells #[.int .i64 x.N, .slice x.dA x.dm x.dc, .slice x.tA x.tm x.tc, .slice x.A x.m x.c, .slice x.B x.k x.d] 28)).alloc (.cells #[.int .i64 r.tr, .slice r.sA r.sm r.sc] 78)).alloc (.cells #[.int .i64 0, .int .i64 0, .int .i64 0, .int .i64 0, .int .i64 0, .int .i64 0, .int .i64 0] 59)) w.heap.size (w.heap.size + 1) (w.heap.size + 1 + 1) x r := by
  refine ⟨((WX.new hx).below (below_alloc _ _)).below (below_alloc _ _), ?_, ?_⟩
  · rw [size_one w (.cells #[.int .i64 x.N, .slice x.dA x.dm x.dc, .slice x.tA x.tm x.tc, .slice x.A x.m x.c, .slice x.B x.k x.d] 28)]
    exact (RX.new (hr.below (below_alloc _ _))).below (below_alloc _ _)
  · rw [size_one w (.cells #[.int .i64 x.N, .slice x.dA x.dm x.dc, .slice x.tA x.tm x.tc, .slice x.A x.m x.c, .slice x.B x.k x.d] 28), size_one (w.alloc (.cells #[.int .i64 x.N, .slice x.dA x.dm x.dc, .slice x.tA x.tm x.tc, .slice x.A x.m x.c, .slice x.B x.k x.d] 28)) (.cells #[.int .i64 r.tr, .slice r.sA r.sm r.sc] 78)]
    exact Box.new _ _ _

set_option maxHeartbeats 4000000 in
theorem named_b (x : Wd) (r : Rd) (w : World) (hx : WAt w x) (hr : RAt w r) :
    Calls Try.prog 80 #[.agg #[.int .i64 x.N, .slice x.dA x.dm x.dc, .slice x.tA x.tm x.tc, .slice x.A x.m x.c, .slice x.B x.k x.d], .agg #[.int .i64 r.tr, .slice r.sA r.sm r.sc]] w (NamedPost w x r) := by
  have HX := Lib.hid (NB.new hx hr)
  have HB0 : Hid (Below w.heap.size w (((w.alloc (.cells #[.int .i64 x.N, .slice x.dA x.dm x.dc, .slice x.tA x.tm x.tc, .slice x.A x.m x.c, .slice x.B x.k x.d] 28)).alloc (.cells #[.int .i64 r.tr, .slice r.sA r.sm r.sc] 78)).alloc (.cells #[.int .i64 0, .int .i64 0, .int .i64 0, .int .i64 0, .int .i64 0, .int .i64 0, .int .i64 0] 59))) := below_more (below_more (below_alloc _ _) _) _
  have HB3 : Hid (w.heap.size ≤ w.heap.size + 1 + 1) := by unfold Hid; omega
  have hsm := hr.s2
  clear hx hr
  obtain ⟨f, hf⟩ : ∃ f, Ld.findI (x.ts.map Ld.T.id) r.tr = f := ⟨_, rfl⟩
  have HF := Lib.hid hf
  have hmk : ∀ W : World, (Instr.makeSlice 25 (.int .i64 (r.sm : Int)) (.int .i64 (r.sm : Int))).run Try.prog W = .ok (.slice (some ⟨W.heap.size, 0, none⟩) r.sm r.sm) (W.alloc (.cells (Array.replicate (r.sm * 8) (Value.int .i64 0)) 57)) := make_orders2 r.sm (by omega)
  go_enter Try.func80, Try.ntmps80
  go_wp2_with fail
  generalize (((w.alloc (.cells #[.int .i64 x.N, .slice x.dA x.dm x.dc, .slice x.tA x.tm x.tc, .slice x.A x.m x.c, .slice x.B x.k x.d] 28)).alloc (.cells #[.int .i64 r.tr, .slice r.sA r.sm r.sc] 78)).alloc (.cells #[.int .i64 0, .int .i64 0, .int .i64 0, .int .i64 0, .int .i64 0, .int .i64 0, .int .i64 0] 59)) = V at *
  generalize w.heap.size + 1 + 1 = b3 at *
  generalize w.heap.size + 1 = b2 at *
  generalize hb1 : w.heap.size = b1 at HX ⊢
  clear hb1
  have HC := Lib.hid (truck_b x r.tr V f hf HX.out.w.at_)
  clear hf
  by_cases hf1 : f = -1
  · subst hf1
    have e1 : ((-1 : Int) == (-1 : Int)) = true := by decide
    go_wp2_with fail
    with_reducible refine HC.out.mono ?_
    rintro e w1 ⟨rfl, hb1⟩
    have HX1 := Lib.hid (HX.out.below hb1.out)
    have z0 := HX1.out.t.cell 0 _ rfl
    have z1 := HX1.out.t.cell 1 _ rfl
    have z2 := HX1.out.t.cell 2 _ rfl
    have z3 := HX1.out.t.cell 3 _ rfl
    have z4 := HX1.out.t.cell 4 _ rfl
    have z5 := HX1.out.t.cell 5 _ rfl
    have z6 := HX1.out.t.cell 6 _ rfl
    have g0 := HX1.out.t.fz 0
    have g1 := HX1.out.t.fz 1
    have g2 := HX1.out.t.fz 2
    have g3 := HX1.out.t.fz 3
    have g4 := HX1.out.t.fz 4
    have g5 := HX1.out.t.fz 5
    have g6 := HX1.out.t.fz 6
    clear hmk
    go_wp2
    exact bodyPost_ret (results_truck (v := .slice none 0 0) (v2 := .int .i64 5) rfl _ (truck_set HX1.out.t _ _ _ _ _ _ _) rfl rfl rfl rfl) rfl ⟨⟨0, 0, 0, 0, 0, 0, 0⟩, none, 0, 0, 5, rfl, below_set7 (below_next HB0.out hb1.out) _ HB3.out _ _ _ _ _ _ _, .inr ⟨rfl, .inl HF.out⟩⟩
  · obtain ⟨kt, t, hkt, hktl, htk, hti⟩ := Rt.find_mem Ld.T.id x.ts r.tr (by rw [HF.out]; exact hf1)
    rw [HF.out] at hkt
    subst hkt
    have HT : Hid (x.ts[kt]? = some t ∧ Rt.truckAt x.ts r.tr = t ∧ ¬ Ld.findI (x.ts.map Ld.T.id) r.tr = -1) := ⟨htk, Rt.truckAt_eq HF.out htk, by rw [HF.out]; exact hf1⟩
    have e1 : ((kt : Int) == (-1 : Int)) = false := by rw [beq_eq_false_iff_ne]; omega
    have i1 : (kt : Int) < (x.k : Int) := by rw [← HX.out.w.at_.kl]; omega
    clear htk hktl hf1 hti
    go_wp2_with fail
    with_reducible refine HC.out.mono ?_
    rintro e w1 ⟨rfl, hb1⟩
    have HX1 := Lib.hid (HX.out.below hb1.out)
    have x1 := HX1.out.r.c1
    have x1a : (w1.alloc (.cells (Array.replicate (r.sm * 8) (Value.int .i64 0)) 57)).cell? ⟨b2, 1, none⟩ = some (.slice r.sA r.sm r.sc) := (HX1.out.below (below_alloc _ _)).r.c1
    have HS := Lib.hid (OR.start w1 r.sm (Rt.ordersOf x.os r.st))
    have HBL := Lib.hid (below_next hb1.out (below_alloc w1 (.cells (Array.replicate (r.sm * 8) (Value.int .i64 0)) 57)))
    have HG : Hid (V.heap.size ≤ w1.heap.size) := hb1.out.size
    go_wp2_with fail
    generalize w1.alloc (.cells (Array.replicate (r.sm * 8) (Value.int .i64 0)) 57) = W1 at *
    generalize w1.heap.size = g at *
    clear hmk HC hb1 x1 x1a HX1
    go_loopg [5, 6, 26] r.sm (fun gk s5 s6 s26 W => ∃ (k : Nat) (W0 : World), W0 = W ∧ k + gk = r.sm ∧ s5 = .slice none 0 0 ∧ s6 = .int .i64 0 ∧ s26 = .int .i64 k ∧ Hid (Below V.heap.size V W0) ∧ Hid (OR W0 g r.sm k (Rt.ordersOf x.os r.st)) ∧ Hid (∀ (j : Nat) (id : Int), j < k → r.st[j]? = some id → ¬ Ld.findI (x.os.map Ld.O.id) id = -1))
    case atStart => exact ⟨0, _, rfl, by omega, rfl, rfl, rfl, HBL.out, HS.out, fun j id hj => by omega⟩
    case round =>
      obtain ⟨k, W0, rfl, hkg, rfl, rfl, rfl, HB, HOR, HK⟩ := hrel
      have HX0 := Lib.hid (HX.out.below HB.out)
      by_cases hlt : k < r.sm
      · obtain ⟨gk, rfl⟩ : ∃ j, gk = j + 1 := ⟨gk - 1, by omega⟩
        obtain ⟨id, hid⟩ := mlist_at r.st k (by rw [HX0.out.r.at_.sl]; exact hlt)
        obtain ⟨ad, hsA, hc⟩ := HX0.out.r.at_.st k id hid
        obtain ⟨fk, hfk⟩ : ∃ z, Ld.findI (x.os.map Ld.O.id) id = z := ⟨_, rfl⟩
        have HID := Lib.hid hid
        have HFK := Lib.hid hfk
        have HSA := Lib.hid hsA
        have HC := Lib.hid (find_val x.A x.m x.c x.os id W0 fk hfk HX0.out.w.at_.ml HX0.out.w.at_.m2 HX0.out.w.at_.os)
        have x3 := HX0.out.w.c3
        clear hid hfk hsA
        generalize r.sA = sA at *
        obtain rfl := HSA.out
        by_cases hk1 : fk = -1
        · subst hk1
          have e2 : ((-1 : Int) == (-1 : Int)) = true := by decide
          have HNO := Lib.hid (Rt.allIn_no HID.out HFK.out)
          go_wp2_with fail
          with_reducible refine HC.out.mono ?_
          rintro e w2 ⟨rfl, hb2⟩
          clear hc x3
          have HX2 := Lib.hid (HX0.out.below hb2.out)
          have z0 := HX2.out.t.cell 0 _ rfl
          have g0 := HX2.out.t.fz 0
          have z1 := HX2.out.t.cell 1 _ rfl
          have g1 := HX2.out.t.fz 1
          have z2 := HX2.out.t.cell 2 _ rfl
          have g2 := HX2.out.t.fz 2
          have z3 := HX2.out.t.cell 3 _ rfl
          have g3 := HX2.out.t.fz 3
          have z4 := HX2.out.t.cell 4 _ rfl
          have g4 := HX2.out.t.fz 4
          have z5 := HX2.out.t.cell 5 _ rfl
          have g5 := HX2.out.t.fz 5
          have z6 := HX2.out.t.cell 6 _ rfl
          have g6 := HX2.out.t.fz 6
          go_wp2
          exact bodyPost_ret (results_truck (v := .slice none 0 0) (v2 := .int .i64 5) rfl _ (truck_set HX2.out.t _ _ _ _ _ _ _) rfl rfl rfl rfl) rfl ⟨⟨0, 0, 0, 0, 0, 0, 0⟩, none, 0, 0, 5, rfl, below_set7 (below_next HB0.out (below_next HB.out hb2.out)) _ HB3.out _ _ _ _ _ _ _, .inr ⟨rfl, .inr HNO.out⟩⟩
        · obtain ⟨j, o, hj, hjl, hjo, hoi⟩ := Rt.find_mem Ld.O.id x.os id (by rw [HFK.out]; exact hk1)
          rw [HFK.out] at hj
          subst hj
          have e2 : ((j : Int) == (-1 : Int)) = false := by rw [beq_eq_false_iff_ne]; omega
          have i2 : (j : Int) < (x.m : Int) := by rw [← HX.out.w.at_.ml]; omega
          have i3 : (k : Int) < (r.sm : Int) := by omega
          have HJO : Hid (x.os[j]? = some o ∧ (Rt.ordersOf x.os r.st)[k]? = some o) := by
            refine ⟨hjo, ?_⟩
            unfold Rt.ordersOf
            rw [List.getElem?_map, HID.out]
            show some (Rt.ordAt x.os id) = some o
            rw [Rt.ordAt_eq HFK.out hjo]
          have HK2 : Hid (∀ (j : Nat) (id : Int), j < k + 1 → r.st[j]? = some id → ¬ Ld.findI (x.os.map Ld.O.id) id = -1) := fun i id' hi hi' => by
            by_cases h : i < k
            · exact HK.out i id' h hi'
            · obtain rfl : i = k := by omega
              rw [HID.out] at hi'
              obtain rfl := Option.some.inj hi'
              rw [HFK.out]
              exact hk1
          clear hjo hjl hk1 hoi
          go_wp2_with fail
          with_reducible refine HC.out.mono ?_
          rintro e w2 ⟨rfl, hb2⟩
          clear hc x3
          have HX2 := Lib.hid (HX0.out.below hb2.out)
          have HO2 := Lib.hid (HOR.out.below hb2.out)
          have HB2 := Lib.hid (below_next HB.out hb2.out)
          have x3 := HX2.out.w.c3
          obtain ⟨ao, hao, c0, c1, c2, c3, c4, c5, c6, c7⟩ := HX2.out.w.at_.os.at_ HJO.out.1
          obtain ⟨a0, a1, a2, a3, a4, a5, a6, a7⟩ := o
          simp only at c0 c1 c2 c3 c4 c5 c6 c7
          have HAO := Lib.hid hao
          clear hao HC hb2
          generalize x.A = oA at *
          obtain rfl := HAO.out
          obtain ⟨y0, p0⟩ := HO2.out.cell (p := k * 8) (by omega)
          have q0 := HO2.out.fz (k * 8)
          obtain ⟨y1, p1⟩ := HO2.out.cell (p := k * 8 + 1) (by omega)
          have q1 := HO2.out.fz (k * 8 + 1)
          obtain ⟨y2, p2⟩ := HO2.out.cell (p := k * 8 + 2) (by omega)
          have q2 := HO2.out.fz (k * 8 + 2)
          obtain ⟨y3, p3⟩ := HO2.out.cell (p := k * 8 + 3) (by omega)
          have q3 := HO2.out.fz (k * 8 + 3)
          obtain ⟨y4, p4⟩ := HO2.out.cell (p := k * 8 + 4) (by omega)
          have q4 := HO2.out.fz (k * 8 + 4)
          obtain ⟨y5, p5⟩ := HO2.out.cell (p := k * 8 + 5) (by omega)
          have q5 := HO2.out.fz (k * 8 + 5)
          obtain ⟨y6, p6⟩ := HO2.out.cell (p := k * 8 + 6) (by omega)
          have q6 := HO2.out.fz (k * 8 + 6)
          obtain ⟨y7, p7⟩ := HO2.out.cell (p := k * 8 + 7) (by omega)
          have q7 := HO2.out.fz (k * 8 + 7)
          go_wp2
          go_roundg gk
          case measure => omega
          case rel => exact ⟨k + 1, _, rfl, by omega, rfl, rfl, by first | rfl | go_num, below_set8 HB2.out g _ HG.out _ _ _ _ _ _ _ _, HO2.out.put _ _ _ _ _ _ _ _ hlt HJO.out.2, HK2.out⟩
      · obtain rfl : k = r.sm := by omega
        have HALL : Hid (Rt.allIn x.os r.st = true) := Rt.allIn_all fun j id hj => HK.out j id (by have := (List.getElem?_eq_some_iff.1 hj).1; rw [HX0.out.r.at_.sl] at this; exact this) hj
        have x4 := HX0.out.w.c4
        obtain ⟨ab, hab, c0, c1, c2, c3, c4, c5, c6⟩ := HX0.out.w.at_.ts.at_ HT.out.1
        obtain ⟨a0, a1, a2, a3, a4, a5, a6⟩ := t
        simp only at c0 c1 c2 c3 c4 c5 c6
        have HAB := Lib.hid hab
        clear hab
        generalize x.B = tB at *
        obtain rfl := HAB.out
        have z0 := HX0.out.t.cell 0 _ rfl
        have g0 := HX0.out.t.fz 0
        have z1 := HX0.out.t.cell 1 _ rfl
        have g1 := HX0.out.t.fz 1
        have z2 := HX0.out.t.cell 2 _ rfl
        have g2 := HX0.out.t.fz 2
        have z3 := HX0.out.t.cell 3 _ rfl
        have g3 := HX0.out.t.fz 3
        have z4 := HX0.out.t.cell 4 _ rfl
        have g4 := HX0.out.t.fz 4
        have z5 := HX0.out.t.cell 5 _ rfl
        have g5 := HX0.out.t.fz 5
        have z6 := HX0.out.t.cell 6 _ rfl
        have g6 := HX0.out.t.fz 6
        go_wp2
        refine bodyPost_ret (results_truck (v := .slice (some ⟨g, 0, none⟩) r.sm r.sm) (v2 := .int .i64 0) rfl _ (truck_set HX0.out.t _ _ _ _ _ _ _) rfl rfl rfl rfl) rfl ⟨⟨a0, a1, a2, a3, a4, a5, a6⟩, some ⟨g, 0, none⟩, r.sm, r.sm, 0, rfl, below_set7 (below_next HB0.out HB.out) _ HB3.out _ _ _ _ _ _ _, .inl ⟨rfl, HT.out.2.2, HALL.out, HT.out.2.1.symm, rfl, ?_⟩⟩
        refine OrdersAt.blocks (HOR.out.all (by unfold Rt.ordersOf; rw [List.length_map]; exact HX0.out.r.at_.sl)) fun ad e => ?_
        obtain rfl := Option.some.inj e
        have h1 := HX.out.t.lt
        have h2 := HG.out
        exact but_set7 _ _ _ _ _ _ _ _ _ _ (by show g ≠ b3; omega)
end Go.Proofs.Ytbacakblboodeaa
