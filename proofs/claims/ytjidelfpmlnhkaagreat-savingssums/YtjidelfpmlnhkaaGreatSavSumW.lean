/- sums as the law SavingsSums uses them (AreaOpenW, SavSum in one: the limit of files in a claim) -/
import Derived.Test.YtjidelfpmlnhkaaGreatAreaApp
import Derived.Test.YtjidelfpmlnhkaaGreatSavLaw
import Derived.Test.YtjidelfpmlnhkaaGreatRouteMath4
import Derived.Deep.RegionLaw
/-! A list of nodes that came in: how long it may be. -/
namespace Go.Proofs.YtjidelfpmlnhkaaGreat
open Go.ChangeShapes Go.WideShapes Go.ChangeAt Go.RowKit Go.Deep

set_option maxRecDepth 100000
theorem bytesInt : Tryz.prog.bytesOf 3 = 8 := by kernel_rfl
theorem open_nodes_w {H : Type} {enc : TypeId × Value → H} {W : World} {v : Value} {d : DataW H} {p : List MemPlace} {b0 : Nat}
    (hv : Value.okWide Tryz.prog W .any b0 29 v) (h : DataW.Trod enc Tryz.prog W 0 (fun _ => true) true 29 v d p) :
    ∃ (A : Option Addr) (m c : Nat) (l : List Int), v = .slice A m c ∧ l.length = m ∧ m ≤ c ∧ (c = 0 ∨ c * 8 ∈ d.weights Tryz.prog 29) ∧ IntsAt W A l := by
  obtain ⟨A, m, c, rfl⟩ := okWide_slice Tryz.underlying29 hv
  obtain ⟨fuel, hf⟩ := h
  rcases open_ints Tryz.underlying29 Tryz.underlying3 (by kernel_rfl) hf with ⟨hcs, _⟩ | ⟨x, l, c', zs, hcs, _, hl, hm, hz, hy, hcell, hwz⟩
  · simp [Value.cells] at hcs
    obtain ⟨rfl, rfl, rfl⟩ := hcs
    exact ⟨none, 0, 0, [], rfl, rfl, Nat.le_refl _, .inl rfl, IntsAt.nil _ _⟩
  · simp [Value.cells] at hcs
    obtain ⟨rfl, rfl, rfl⟩ := hcs
    have hz' : zs.length = c := by simpa using hz
    refine ⟨some x, m, c, zs.take m, rfl, by rw [List.length_take]; omega, hl, .inr ?_, ints_of_open hz' hl hcell⟩
    simp only [Prod.mk.injEq] at hy
    rw [hy.1]
    simp only [DataW.weights, Tryz.underlying29, bytesInt]
    simp [lits]
    left
    omega
end Go.Proofs.YtjidelfpmlnhkaaGreat

/-! What is saved by joining two rows, by their trips; a row that is made of two by appends. -/
namespace Go.Proofs.YtjidelfpmlnhkaaGreat
open Go.RowKit
set_option linter.unusedVariables false
set_option maxRecDepth 100000

theorem lst_node (os : List Ld.O) (a : List Int) (h : a ≠ []) : Ar.lastOf 0 ((Rt.ordersOf os a).map Ld.O.node) = Sv.nodeOf os (Sv.lst a) := by
  induction a using Ar.snoc_ind with
  | h0 => exact absurd rfl h
  | h1 l x _ =>
    unfold Rt.ordersOf
    rw [List.map_append, List.map_append, List.map_singleton, List.map_singleton, Ar.lastOf_snoc]
    have : Sv.lst (l ++ [x]) = x := Sv.lst_at (by simp)
    rw [this]
    rfl
theorem sums_of {N : Int} {D T : List Int} {os : List Ld.O} {ts : List Ld.T} {tr : Int} {a b : List Int} (ha : (Rt.runS N D T os ts tr a).e = 0) (hb : (Rt.runS N D T os ts tr b).e = 0) (hab : (Rt.runS N D T os ts tr (a ++ b)).e = 0) :
    Sv.savS N D T os ts a b = ((Rt.runS N D T os ts tr a).dist + (Rt.runS N D T os ts tr b).dist - (Rt.runS N D T os ts tr (a ++ b)).dist, 0) ∧ 0 ≤ (Rt.runS N D T os ts tr a).dist ∧ (Rt.runS N D T os ts tr a).dist ≤ 20000000 ∧ 0 ≤ (Rt.runS N D T os ts tr b).dist ∧ (Rt.runS N D T os ts tr b).dist ≤ 20000000 ∧ 0 ≤ (Rt.runS N D T os ts tr (a ++ b)).dist ∧ (Rt.runS N D T os ts tr (a ++ b)).dist ≤ 20000000 := by
  obtain ⟨ra, ea⟩ := Rt.runs_of ha
  obtain ⟨rb, eb⟩ := Rt.runs_of hb
  obtain ⟨rc, ec⟩ := Rt.runs_of hab
  have hok := Rt.ok_of ra.w
  have hane : a ≠ [] := fun e => by have := ra.l1; rw [e] at this; simp at this
  have hbne : b ≠ [] := fun e => by have := rb.l1; rw [e] at this; simp at this
  have hda : (Rt.runS N D T os ts tr a).dist = Ar.sumX N D (Ar.tourX ((Rt.ordersOf os a).map Ld.O.node)) := by rw [ea]; exact Rt.home_tour _ _
  have hdb : (Rt.runS N D T os ts tr b).dist = Ar.sumX N D (Ar.tourX ((Rt.ordersOf os b).map Ld.O.node)) := by rw [eb]; exact Rt.home_tour _ _
  have hdc : (Rt.runS N D T os ts tr (a ++ b)).dist = Ar.sumX N D (Ar.tourX ((Rt.ordersOf os (a ++ b)).map Ld.O.node)) := by rw [ec]; exact Rt.home_tour _ _
  have hbd : ∀ (l : List Int), Rt.Runs N D T os ts tr l → 0 ≤ Ar.sumX N D (Ar.tourX ((Rt.ordersOf os l).map Ld.O.node)) ∧ Ar.sumX N D (Ar.tourX ((Rt.ordersOf os l).map Ld.O.node)) ≤ 20000000 := fun l hr => by
    have h1 : Ar.insB N ((Rt.ordersOf os l).map Ld.O.node) = true := (Ar.ins_iff _ _).2 fun x hx => by
      obtain ⟨o, ho, rfl⟩ := List.mem_map.1 hx
      exact Rt.OOk.has (hr.oo o ho)
    have h2 := (Ar.sumX_bd hok.ar _ (Ar.insX_tour hok.ar.has0 h1)).1
    have h3 : (Ar.tourX ((Rt.ordersOf os l).map Ld.O.node)).length ≤ 13 := by
      rw [Ar.tourX_len, List.length_map, Rt.ordersOf_len]
      have := hr.l2
      omega
    omega
  have b1 := hbd a ra
  have b2 := hbd b rb
  have b3 := hbd (a ++ b) rc
  rw [hda, hdb, hdc]
  refine ⟨?_, b1.1, b1.2, b2.1, b2.2, b3.1, b3.2⟩
  have hla : ¬ Ld.findI (os.map Ld.O.id) (Sv.lst a) = -1 := by
    obtain ⟨j, hj⟩ := List.getElem?_of_mem (Sv.lst_mem hane)
    exact Rt.allIn_at ra.al hj
  have hhb : ¬ Ld.findI (os.map Ld.O.id) (Sv.hd b) = -1 := by
    obtain ⟨j, hj⟩ := List.getElem?_of_mem (Sv.hd_mem hbne)
    exact Rt.allIn_at rb.al hj
  rw [Sv.sav_ok ra.w (by have := ra.l1; have := rb.l1; omega) hla hhb]
  congr 1
  unfold Sv.savV
  rw [← lst_node os a hane]
  have happ : (Rt.ordersOf os (a ++ b)).map Ld.O.node = (Rt.ordersOf os a).map Ld.O.node ++ (Rt.ordersOf os b).map Ld.O.node := by unfold Rt.ordersOf; simp
  rw [happ, Ar.tourX_eq, Ar.tourX_eq, Ar.tourX_eq, Ar.goes_app, Ar.lastOf_app]
  cases b with
  | nil => exact absurd rfl hbne
  | cons z b =>
    have hz : Sv.hd (z :: b) = z := rfl
    rw [hz]
    have hm : (Rt.ordersOf os (z :: b)).map Ld.O.node = Sv.nodeOf os z :: (Rt.ordersOf os b).map Ld.O.node := rfl
    rw [hm]
    generalize (Rt.ordersOf os a).map Ld.O.node = L
    generalize (Rt.ordersOf os b).map Ld.O.node = M
    generalize Sv.nodeOf os z = y
    show _ = _
    simp only [Ar.sumX_app, Ar.goes, Ar.lastOf]
    simp only [Ar.sumX, List.map_cons, List.map_nil, List.sum_cons, List.sum_nil]
    omega

/-- a row of numbers of one's own, and a box beside it -/
structure QI (V : World) (xb : Option Nat) (l : List Int) (v : Value) (w : World) : Prop where
  own : OwnI w V.heap.size v l
  bel : Below V.heap.size V w
  box : ∀ q, xb = some q → V.heap.size ≤ q ∧ Box w q #[.slice none 0 0, .int .i64 0, .int .i64 0, .int .i64 0] 54
theorem QI.a (V : World) : QI V none [] (.slice (some ⟨V.heap.size, 0, none⟩) 0 0) (V.alloc (.cells #[] 3)).drew := ⟨own_none V _ (Nat.le_refl _), (below_alloc _ _).drew, fun q e => (by cases e)⟩
theorem QI.b (V : World) : QI V (some (V.heap.size + 1)) [] (.slice (some ⟨V.heap.size, 0, none⟩) 0 0) ((V.alloc (.cells #[] 3)).alloc (.cells #[.slice none 0 0, .int .i64 0, .int .i64 0, .int .i64 0] 54)).drew := by
  have h1 : OwnI ((V.alloc (.cells #[] 3)).alloc (.cells #[.slice none 0 0, .int .i64 0, .int .i64 0, .int .i64 0] 54)) V.heap.size (.slice (some ⟨V.heap.size, 0, none⟩) 0 0) [] := (own_none V _ (Nat.le_refl _)).below (below_alloc _ _)
  refine ⟨h1, (below_more (below_alloc _ _) _).drew, fun q e => ?_⟩
  obtain rfl := Option.some.inj e
  refine ⟨by omega, ?_⟩
  have h2 : Box ((V.alloc (.cells #[] 3)).alloc (.cells #[.slice none 0 0, .int .i64 0, .int .i64 0, .int .i64 0] 54)) (V.alloc (.cells #[] 3)).heap.size #[.slice none 0 0, .int .i64 0, .int .i64 0, .int .i64 0] 54 := Box.new _ _ _
  rw [← size_one V (.cells #[] 3)] at h2
  exact h2
theorem QI.c (V : World) : QI V (some V.heap.size) [] (.slice (some ⟨V.heap.size + 1, 0, none⟩) 0 0) ((V.alloc (.cells #[.slice none 0 0, .int .i64 0, .int .i64 0, .int .i64 0] 54)).alloc (.cells #[] 3)).drew := by
  have h1 : OwnI ((V.alloc (.cells #[.slice none 0 0, .int .i64 0, .int .i64 0, .int .i64 0] 54)).alloc (.cells #[] 3)) V.heap.size (.slice (some ⟨(V.alloc (.cells #[.slice none 0 0, .int .i64 0, .int .i64 0, .int .i64 0] 54)).heap.size, 0, none⟩) 0 0) [] := own_none (V.alloc (.cells #[.slice none 0 0, .int .i64 0, .int .i64 0, .int .i64 0] 54)) _ (below_alloc V _).size
  rw [← size_one V (.cells #[.slice none 0 0, .int .i64 0, .int .i64 0, .int .i64 0] 54)] at h1
  refine ⟨h1, (below_more (below_alloc _ _) _).drew, fun q e => ?_⟩
  obtain rfl := Option.some.inj e
  exact ⟨Nat.le_refl _, (show Box ((V.alloc (.cells #[.slice none 0 0, .int .i64 0, .int .i64 0, .int .i64 0] 54)).alloc (.cells #[] 3)) V.heap.size #[.slice none 0 0, .int .i64 0, .int .i64 0, .int .i64 0] 54 from (Box.new V _ _).below (below_alloc _ _))⟩
theorem QI.late {V w : World} {l : List Int} {v : Value} (h : QI V none l v w) : QI V (some w.heap.size) l v (w.alloc (.cells #[.slice none 0 0, .int .i64 0, .int .i64 0, .int .i64 0] 54)) :=
  ⟨h.own.below (below_alloc _ _), h.bel.alloc h.bel.size _, fun q e => by obtain rfl := Option.some.inj e; exact ⟨h.bel.size, Box.new _ _ _⟩⟩
theorem QI.app {V w : World} {xb : Option Nat} {l : List Int} {A : Option Addr} {n c : Nat} (h : QI V xb l (.slice A n c) w) (hn : l.length = n) (B : Option Addr) (m d : Nat) (k : List Int) (hm : k.length = m) (hk : IntsAt V B k) (hs : n + m ≤ 100000) :
    ∃ v' w', (Builtin.append_ #[29, 29] 29 #[.slice A n c, .slice B m d]).run Tryz.prog w = .ok v' w' ∧ ∃ A' c', v' = .slice A' (n + m) c' ∧ Hid (QI V xb (l ++ k) (.slice A' (n + m) c') w') := by
  obtain ⟨i0, hi0, hz0, hz1, hz2⟩ := info_parts3 int_info
  cases B with
  | none =>
    obtain rfl : k = [] := by
      cases k with
      | nil => rfl
      | cons z k =>
        obtain ⟨ad, h1, _⟩ := hk 0 z rfl
        cases h1
    obtain rfl : m = 0 := by simpa using hm.symm
    have hrun : (Builtin.append_ #[29, 29] 29 #[.slice A n c, .slice none 0 d]).run Tryz.prog w = .ok (.slice A n c) w := by
      rcases h.own.2 with ⟨e1, h0⟩ | ⟨g, cap, cur, e1, _, _, hnc, _⟩
      · rw [e1]
        simp [Builtin.append_, run_underlying Tryz.underlying29, sizeOf, typeInfo, hi0, Builtin.lenOf, Builtin.firstCells]
      · rw [e1]
        simp [Builtin.append_, run_underlying Tryz.underlying29, sizeOf, typeInfo, hi0, Builtin.lenOf, Builtin.firstCells, hnc, storeCells]
    exact ⟨_, w, hrun, A, c, rfl, by rw [List.append_nil]; exact h⟩
  | some ad =>
    obtain ⟨v', w', h1, h2, h3, _⟩ := run_append_own (P := Tryz.prog) w V.heap.size 29 29 3 i0 _ 1 8 Tryz.underlying29 hi0 hz0 hz1 hz2 rfl (by omega) (.slice A n c) l.length (l.map (Value.int .i64)) h.own ad m d (k.map (Value.int .i64)) (by rw [List.length_map, hm, Nat.mul_one])
      (fun j u hu => by
        rw [List.getElem?_map] at hu
        cases hz : k[j]? with
        | none => rw [hz] at hu; cases hu
        | some z =>
          rw [hz] at hu
          obtain rfl := Option.some.inj hu
          obtain ⟨ad', e, hc⟩ := (hk.below h.bel) j z hz
          obtain rfl := Option.some.inj e
          exact hc) (by intro x hx; obtain ⟨z, _, rfl⟩ := List.mem_map.1 hx; rfl) (by unfold maxLen; omega) (by omega) h.bel.size
    have ho : OwnI w' V.heap.size v' (l ++ k) := by unfold OwnI; rw [List.length_append, hm, List.map_append]; exact h2
    obtain ⟨A', c', e, _⟩ := ho.ints
    rw [List.length_append, hn, hm] at e
    subst e
    have hoff : ∀ q, (Value.slice A n c).ownBlock = some q → V.heap.size ≤ q ∧ ∃ cs : Array Value, w.heap[q]? = some (.cells cs 3 (0, 0)) := fun q e => by
      rcases h.own.2 with ⟨e1, _⟩ | ⟨g, cap, cur, e1, hbg, hg, _⟩
      · rw [e1] at e; cases e
      · rw [e1] at e
        obtain rfl := Option.some.inj e
        exact ⟨hbg, cur, hg⟩
    refine ⟨_, w', h1, A', c', rfl, ho, h.bel.trans ⟨h3.os, h3.tape, h3.output, h3.size, fun q hq => h3.block q (Nat.lt_of_lt_of_le hq h.bel.size) fun e => ?_⟩, fun q e => ?_⟩
    · have := (hoff q e.symm).1
      omega
    · obtain ⟨q1, q2⟩ := h.box q e
      refine ⟨q1, (h3.block q q2.lt fun e2 => ?_).trans q2⟩
      obtain ⟨_, cs, e3⟩ := hoff q e2.symm
      rw [show w.heap[q]? = _ from q2] at e3
      injection e3 with e3
      injection e3 with _ e3 _
      cases e3

/-- a trip in a box -/
def TBox (V : World) (r : Rt.R) (s : Value) (W : World) : Prop := ∃ q A c, s = .pointer (some ⟨q, 0, none⟩) ∧ Hid (Box W q #[.slice A r.vs.length c, .int .i64 r.back, .int .i64 r.dist, .int .i64 r.cost] 54 ∧ Below V.heap.size V W)
/-- a trip is told, and a box may be there -/
structure TP (V : World) (xb : Option Nat) (w : World) : Prop where
  bel : Below V.heap.size V w
  box : ∀ q, xb = some q → V.heap.size ≤ q ∧ Box w q #[.slice none 0 0, .int .i64 0, .int .i64 0, .int .i64 0] 54
theorem TP.new {V w : World} {r : Rt.R} {A : Option Addr} {c : Nat} (h : TP V none w) :
    TBox V r (.pointer (some ⟨w.heap.size, 0, none⟩)) (w.alloc (.cells #[.slice A r.vs.length c, .int .i64 r.back, .int .i64 r.dist, .int .i64 r.cost] 54)) :=
  ⟨_, A, c, rfl, Box.new _ _ _, h.bel.alloc h.bel.size _⟩
theorem TP.put {V w : World} {r : Rt.R} {A : Option Addr} {c q : Nat} (h : TP V (some q) w) :
    TBox V r (.pointer (some ⟨q, 0, none⟩)) ((((w.setCell ⟨q, 0, none⟩ (.slice A r.vs.length c)).setCell ⟨q, 1, none⟩ (.int .i64 r.back)).setCell ⟨q, 2, none⟩ (.int .i64 r.dist)).setCell ⟨q, 3, none⟩ (.int .i64 r.cost)) := by
  obtain ⟨h1, h2⟩ := h.box q rfl
  exact ⟨_, A, c, rfl, trip_set h2 _ _ _ _, below_set4 h.bel _ h1 _ _ _ _⟩
end Go.Proofs.YtjidelfpmlnhkaaGreat
