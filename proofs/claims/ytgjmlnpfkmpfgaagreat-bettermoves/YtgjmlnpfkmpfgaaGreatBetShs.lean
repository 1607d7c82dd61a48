/- Texts joined: What the library's Delete, Insert, Reverse, Concat leave of numbers, at this program. Contracts of slices. -/
import Derived.Shelf.SlicesE.Delete
import Derived.Shelf.Spec.SlicesInsert
import Derived.Shelf.Spec.SlicesInsertGrow
import Derived.Shelf.Slices.Reverse
import Derived.Test.YtgjmlnpfkmpfgaaGreatPlanMem
import Derived.Test.YtgjmlnpfkmpfgaaGreatPlanE
import Derived.Test.YtgjmlnpfkmpfgaaGreatRouteC
import Derived.Lib.AppendZeros
import Derived.Test.YtgjmlnpfkmpfgaaGreatMaths
section
/-! What the library's Delete, Insert, Reverse, Concat leave of numbers, at this program. -/
namespace Go.Proofs.YtgjmlnpfkmpfgaaGreat
open Go.RowKit Go.Shelf Go.Sort
set_option linter.unusedVariables false

def Tryz.laysDelI_ren : Go.Shelf.Ren := ⟨fun | 45 => 72 | n => n, fun | 22 => 30 | 23 => 3 | 3 => 3 | 4 => 4 | 0 => 0 | n => n, fun n => n⟩
theorem Tryz.laysDelI : SlLaysE.n45 Tryz.prog Tryz.laysDelI_ren :=
  { mixed := by kernel_rfl,
    f45 := ⟨Tryz.f72.name, by decide, Tryz.func72.trans (congrArg some (by kernel_rfl))⟩,
    t0 := Tryz.underlying0,
    a0 := Tryz.isAgg0,
    z0 := Tryz.sizeOf0,
    v0 := Tryz.zeroValue0,
    t3 := Tryz.underlying3,
    a3 := Tryz.isAgg3,
    z3 := Tryz.sizeOf3,
    v3 := Tryz.zeroValue3,
    t4 := Tryz.underlying4,
    a4 := Tryz.isAgg4,
    z4 := Tryz.sizeOf4,
    v4 := Tryz.zeroValue4,
    t22 := Tryz.underlying30,
    a22 := Tryz.isAgg30,
    z22 := Tryz.sizeOf30,
    v22 := Tryz.zeroValue30,
    a23 := Tryz.isAgg3,
    z23 := Tryz.sizeOf3 }


def Tryz.laysIns_ren : Go.Shelf.Ren := ⟨fun | 21 => 114 | 27 => 138 | 28 => 139 | 35 => 153 | 39 => 75 | n => n, fun | 22 => 30 | 3 => 3 | 4 => 4 | 0 => 0 | n => n, fun n => n⟩
theorem Tryz.laysIns : Lays2.n21 Tryz.prog Tryz.laysIns_ren :=
  { mixed := by kernel_rfl,
    f21 := Tryz.func114.trans (congrArg some (by kernel_rfl)),
    f27 := Tryz.func138.trans (congrArg some (by kernel_rfl)),
    f28 := Tryz.func139.trans (congrArg some (by kernel_rfl)),
    f35 := Tryz.func153.trans (congrArg some (by kernel_rfl)),
    f39 := Tryz.func75.trans (congrArg some (by kernel_rfl)),
    t0 := Tryz.underlying0, a0 := Tryz.isAgg0, z0 := Tryz.sizeOf0, v0 := Tryz.zeroValue0,
    t3 := Tryz.underlying3, a3 := Tryz.isAgg3, z3 := Tryz.sizeOf3, v3 := Tryz.zeroValue3,
    t4 := Tryz.underlying4, a4 := Tryz.isAgg4, z4 := Tryz.sizeOf4, v4 := Tryz.zeroValue4,
    t22 := Tryz.underlying30, a22 := Tryz.isAgg30, z22 := Tryz.sizeOf30, v22 := Tryz.zeroValue30,
    i3 := int_info }
def Tryz.laysRev_ren : Go.Shelf.Ren := ⟨fun | 112 => 75 | n => n, fun | 28 => 30 | 3 => 3 | 4 => 4 | 0 => 0 | n => n, fun n => n⟩
theorem Tryz.laysRev : Lays.n112 Tryz.prog Tryz.laysRev_ren :=
  { mixed := by kernel_rfl,
    f112 := Tryz.func75.trans (congrArg some (by kernel_rfl)),
    t0 := Tryz.underlying0, a0 := Tryz.isAgg0, z0 := Tryz.sizeOf0, v0 := Tryz.zeroValue0,
    t3 := Tryz.underlying3, a3 := Tryz.isAgg3, z3 := Tryz.sizeOf3, v3 := Tryz.zeroValue3,
    t4 := Tryz.underlying4, a4 := Tryz.isAgg4, z4 := Tryz.sizeOf4, v4 := Tryz.zeroValue4,
    t28 := Tryz.underlying30, a28 := Tryz.isAgg30, z28 := Tryz.sizeOf30, v28 := Tryz.zeroValue30 }

set_option maxRecDepth 100000

/-- a row that is laid anew, in its block -/
theorem row_put {α : Type} [Inhabited α] (enc : α → Value) {W : World} {g : Nat} {cs : Array Value} {T : TypeId} (h : Box W g cs T) (m : Nat) (d : Array α) (os : Array Obj) (hd : d.size ≤ cs.size) :
    Box (grow (putRow enc (Sort.ahead W m) g 0 d) os) g (putCells enc 0 d cs) T ∧ ∀ (j : Nat) (r : α), d.toList[j]? = some r → (putCells enc 0 d cs)[j]? = some (enc r) := by
  refine ⟨?_, fun j r hr => ?_⟩
  · unfold Box
    rw [heap_grow_old _ _ (by rw [size_putRow]; exact h.lt)]
    show (W.heap.modify g _)[g]? = _
    rw [Array.getElem?_modify, if_pos rfl, show W.heap[g]? = _ from h]
    rfl
  · have hj : j < d.size := by have := (List.getElem?_eq_some_iff.1 hr).1; simpa using this
    have e : d[j]! = r := by
      rw [getElem!_pos d j hj]
      rw [Array.getElem?_toList, Array.getElem?_eq_getElem hj] at hr
      exact Option.some.inj hr
    unfold putCells
    rw [Array.getElem?_mapIdx, Array.getElem?_eq_getElem (by omega)]
    simp only [Option.map_some]
    rw [if_pos ⟨Nat.zero_le _, by omega⟩, Nat.sub_zero, e]
theorem put_other {α : Type} [Inhabited α] (enc : α → Value) (W : World) (g m : Nat) (d : Array α) (os : Array Obj) : ∀ k, k < W.heap.size → k ≠ g → (grow (putRow enc (Sort.ahead W m) g 0 d) os).heap[k]? = W.heap[k]? := fun k hk hg => by
  rw [heap_grow_old _ _ (by rw [size_putRow]; exact hk)]
  show (W.heap.modify g _)[k]? = _
  rw [Array.getElem?_modify, if_neg (by omega)]
theorem put_below {α : Type} [Inhabited α] {base : Nat} (enc : α → Value) (W : World) (g m : Nat) (d : Array α) (os : Array Obj) (hb : base ≤ g) (hs : base ≤ W.heap.size) : Below base W (grow (putRow enc (Sort.ahead W m) g 0 d) os) :=
  ⟨rfl, rfl, rfl, by rw [size_grow, size_putRow]; exact Nat.le_add_right _ _, fun k hk => put_other enc W g m d os k (Nat.lt_of_lt_of_le hk hs) (by omega)⟩

/-- numbers without one -/
theorem deli_b (g n c k : Nat) (l : List Int) (W : World) (base : Nat) (hn : l.length = n) (hn2 : n ≤ 100000) (hk : k < n) (h : OwnI W base (.slice (some ⟨g, 0, none⟩) n c) l) :
    Calls Tryz.prog 72 #[.slice (some ⟨g, 0, none⟩) n c, .int .i64 (k : Int), .int .i64 ((k : Int) + 1)] W fun e w' => e = .returned (.slice (some ⟨g, 0, none⟩) (n - 1) c) ∧ Hid (OwnI w' base (.slice (some ⟨g, 0, none⟩) (n - 1) c) (l.eraseIdx k) ∧ Below base W w') := by
  obtain ⟨h1, h2⟩ := h
  rcases h2 with ⟨e, _⟩ | ⟨g', cap, cur, e, hbg, hg, hnc, hcm, hcs, hct⟩
  · cases e
  injection e with e1 e2 e3
  injection e1 with e1
  injection e1 with e1
  subst e1 e3
  have hbox : Box W g cur 3 := hg
  have hH : Holds (Value.int .i64) W g 0 l.toArray := fun j hj => by
    have hj' : j < l.length := by simpa using hj
    refine ⟨?_, hbox.fz _⟩
    rw [Nat.zero_add, getElem!_pos l.toArray j hj]
    refine hbox.cell j _ ?_
    have e : (l.map (Value.int .i64))[j]? = some (.int .i64 l[j]) := by simp [hj']
    rw [← hct, List.getElem?_take_of_lt (by omega)] at e
    simpa using e
  obtain ⟨i0, hi0, hz0, hz1, hz2⟩ := info_parts3 int_info
  have hsz : l.toArray.size = n := by simp [hn]
  have hcon := AnyE.slices_Delete Tryz.laysDelI (Value.int .i64) (fun _ => rfl) (0 : Int) Tryz.zeroValue3 i0 hi0 hz1 g 0 c k (k + 1) l.toArray W hH (by omega) (by unfold maxLen at hcm; omega) (by omega) (by omega)
  rw [hsz, show n - (k + 1 - k) = n - 1 by omega] at hcon
  refine Calls.mono hcon ?_
  rintro e w' ⟨rfl, m, rfl⟩
  obtain ⟨hb2, hc2'⟩ := row_put (Value.int .i64) hbox m (l.toArray.toList.take k ++ l.toArray.toList.drop (k + 1) ++ List.replicate (k + 1 - k) (0 : Int)).toArray #[] (by simp; omega)
  have hk2 := put_below (base := base) (Value.int .i64) W g m (l.toArray.toList.take k ++ l.toArray.toList.drop (k + 1) ++ List.replicate (k + 1 - k) (0 : Int)).toArray #[] hbg (Nat.le_of_lt (Nat.lt_of_le_of_lt hbg hbox.lt))
  rw [grow_empty] at hb2 hk2
  have herase : l.eraseIdx k = l.take k ++ l.drop (k + 1) := List.eraseIdx_eq_take_drop_succ _ _
  have hel : (l.eraseIdx k).length = n - 1 := by rw [List.length_eraseIdx, hn, if_pos hk]
  refine ⟨rfl, ⟨by simp, .inr ⟨g, c, _, by rw [hel], hbg, hb2, by rw [hel]; omega, hcm, by simp [putCells]; omega, ?_⟩⟩, hk2⟩
  rw [Nat.mul_one]
  apply List.ext_getElem?
  intro j
  by_cases hj : j < n - 1
  · obtain ⟨z, hz⟩ := mlist_at (l.eraseIdx k) j (by omega)
    rw [List.getElem?_take_of_lt (by omega), List.getElem?_map, hz, Array.getElem?_toList]
    refine hc2' j z ?_
    show (l.take k ++ l.drop (k + 1) ++ List.replicate (k + 1 - k) _)[j]? = some z
    rw [herase] at hz
    rw [List.getElem?_append_left (List.getElem?_eq_some_iff.1 hz).1]
    exact hz
  · rw [List.getElem?_eq_none (by rw [List.length_take]; omega), List.getElem?_eq_none (by rw [List.length_map]; omega)]

theorem grown_nil (w : World) (n : Nat) (h0 : 0 < n) (hn : n ≤ 100000) :
    ∃ v' w', (Builtin.append_ #[30, 3] 30 #[.slice none 0 0, .int .i64 n]).run Tryz.prog w = .ok v' w' ∧ ∃ A c, v' = .slice (some A) n c ∧ Hid (OwnI w' w.heap.size (.slice (some A) 0 c) [] ∧ Below w.heap.size w w' ∧ n ≤ c) := by
  obtain ⟨i0, hi0, hz0, hz1, hz2⟩ := info_parts3 int_info
  have hr := Lib.run_append_nil_zeros (P := Tryz.prog) w 30 3 30 3 i0 _ .i64 .i64 Tryz.underlying30 Tryz.underlying3 hi0 hz0 n h0 (by omega) (by omega) (by rw [hz2]; omega)
  have hge := grownCap_ge w n 0 3
  have hcm : grownCap w n 0 3 ≤ maxLen := grownCap_le_maxLen w n 0 3 (by unfold maxLen; omega)
  refine ⟨_, _, hr, _, _, rfl, ⟨by simp, .inr ⟨w.heap.size, _, _, rfl, Nat.le_refl _, heap_alloc_new w.drew _, Nat.zero_le _, hcm, ?_, by simp⟩⟩, ⟨rfl, rfl, rfl, by simp, fun k hk => heap_alloc_old w.drew _ hk⟩, hge⟩
  simp only [Array.size_append, size_zeroCells]
  show n * 1 + (grownCap w n 0 3 - n) * 1 = _
  omega

set_option maxHeartbeats 1000000 in
theorem grow_b (n : Nat) (hn : n ≤ 100000) (w : World) :
    Calls Tryz.prog 141 #[.slice none 0 0, .int .i64 (n : Int)] w fun e w' => ∃ A c, e = .returned (.slice A 0 c) ∧ Hid (OwnI w' w.heap.size (.slice A 0 c) [] ∧ Below w.heap.size w w') := by
  have d0 : decide ((n : Int) < (0 : Int)) = false := decide_eq_false (by omega)
  by_cases h0 : 0 < n
  · have d1 : decide ((0 : Int) < (n : Int)) = true := decide_eq_true (by omega)
    have d2 : decide (0 < n) = true := decide_eq_true h0
    have HA := Lib.hid (grown_nil w n h0 hn)
    go_enter Tryz.func141, Tryz.ntmps141
    go_wp2_with (at_builtin; refine wpList_append_any rfl (.tmp 20) (.tmp 21) 30 3 rfl _ _ rfl rfl _ HA.out ?_; intro v1 w1 hc1; obtain ⟨A1, c1, rfl, HC1⟩ := hc1)
    go_ret
    exact ⟨_, _, rfl, HC1.out.1, HC1.out.2.1⟩
  · obtain rfl : n = 0 := by omega
    have d1 : decide ((0 : Int) < ((0 : Nat) : Int)) = false := by decide
    clear h0
    go_enter Tryz.func141, Tryz.ntmps141
    go_wp2
    go_ret
    exact ⟨none, 0, rfl, ⟨⟨by simp, .inl ⟨rfl, rfl⟩⟩, Below.refl _ _⟩⟩

/-- what an append to a row of one's own leaves, whatever the row's base -/
def ByC (w W : World) (l : List Int) (M : Nat) (v' : Value) (w' : World) : Prop := ∃ A c, v' = .slice A M c ∧ Hid (OwnI w' w.heap.size (.slice A M c) l ∧ Below w.heap.size w w')
theorem app_row {w W : World} {A : Option Addr} {m c : Nat} {l : List Int} (h : OwnI W w.heap.size (.slice A m c) l) (hb : Below w.heap.size w W) {B : Option Addr} {n d : Nat} {k : List Int} (hn : k.length = n) (hk : IntsAt w B k) (hm : l.length = m) (hs : m + n ≤ 100000) :
    ∃ v' w', (Builtin.append_ #[30, 30] 30 #[.slice A m c, .slice B n d]).run Tryz.prog W = .ok v' w' ∧ ByC w W (l ++ k) (m + n) v' w' := by
  obtain ⟨v', w', h1, A', c', e, h2⟩ := owni_app h hb.size B n d k hn (hk.below hb) (by omega)
  rw [hm] at e
  subst e
  exact ⟨_, w', h1, A', c', rfl, h2.out.1, hb.trans h2.out.2⟩

set_option maxHeartbeats 2000000 in
theorem concat_b (ad : Addr) (c : Nat) (rA : Option Addr) (rm rc : Nat) (rst : List Int) (sA : Option Addr) (sm sc : Nat) (sst : List Int) (w : World) (h0 : w.cell? ad = some (.slice rA rm rc)) (h1 : w.cell? ⟨ad.block, ad.off + 1, none⟩ = some (.slice sA sm sc)) (HR : Hid (rst.length = rm ∧ IntsAt w rA rst)) (HS : Hid (sst.length = sm ∧ IntsAt w sA sst)) (hr2 : rm ≤ 1000) (hs2 : sm ≤ 1000) :
    Calls Tryz.prog 118 #[.slice (some ad) 2 c] w fun e w' => ∃ A c', e = .returned (.slice A (rm + sm) c') ∧ Hid (OwnI w' w.heap.size (.slice A (rm + sm) c') (rst ++ sst) ∧ Below w.heap.size w w') := by
  have HC0 := Lib.hid h0
  have HC1 := Lib.hid h1
  have w1 : IntKind.i64.wrap ((rm : Int) + (sm : Int)) = (rm : Int) + (sm : Int) := by rw [IntKind.wrap_i64]; omega
  have d1 : decide ((rm : Int) < (0 : Int)) = false := decide_eq_false (by omega)
  have d2 : decide ((rm : Int) + (sm : Int) < (0 : Int)) = false := decide_eq_false (by omega)
  have HG : Hid (Calls Tryz.prog 141 #[.slice none 0 0, .int .i64 ((rm : Int) + (sm : Int))] w fun e w' => ∃ A c, e = .returned (.slice A 0 c) ∧ Hid (OwnI w' w.heap.size (.slice A 0 c) [] ∧ Below w.heap.size w w')) := grow_b (rm + sm) (by omega) w
  go_enter Tryz.func118, Tryz.ntmps118
  go_wp2
  refine wp_loop_rounds 3 ?_
  rw [rounds_succ]
  go_wp2
  rw [rounds_succ]
  go_wp2
  rw [rounds_succ]
  go_wp2_with fail
  with_reducible refine HG.out.mono ?_
  rintro e w1 ⟨A1, c1, rfl, h1'⟩
  clear h0 h1 HG
  have k0 : w1.cell? ad = some (.slice rA rm rc) := by rw [h1'.out.2.cell (p := ad) (lt_of_cell HC0.out)]; exact HC0.out
  have HA := Lib.hid (app_row (B := rA) (d := rc) h1'.out.1 h1'.out.2 HR.out.1 HR.out.2 rfl (by omega))
  simp only [Nat.zero_add, List.nil_append] at HA
  go_wp2
  refine wp_loop_rounds 3 ?_
  rw [rounds_succ]
  go_wp2_with (at_builtin; refine wpList_append_any rfl (.tmp 31) (.tmp 32) 30 30 rfl _ _ rfl rfl _ HA.out ?_; intro v2 w2 hc2; obtain ⟨A2, c2, rfl, HC2⟩ := hc2)
  have k1 : w2.cell? ⟨ad.block, ad.off + 1, none⟩ = some (.slice sA sm sc) := by rw [HC2.out.2.cell (lt_of_cell HC1.out)]; exact HC1.out
  have HA2 := Lib.hid (app_row (B := sA) (d := sc) HC2.out.1 HC2.out.2 HS.out.1 HS.out.2 HR.out.1 (by omega))
  clear k0 HA
  rw [rounds_succ]
  go_wp2_with (at_builtin; refine wpList_append_any rfl (.tmp 31) (.tmp 32) 30 30 rfl _ _ rfl rfl _ HA2.out ?_; intro v3 w3 hc3; obtain ⟨A3, c3, rfl, HC3⟩ := hc3)
  rw [rounds_succ]
  go_wp2
  go_ret
  exact ⟨_, _, rfl, HC3.out⟩


end Go.Proofs.YtgjmlnpfkmpfgaaGreat
end

section
/-! Contracts of slices.Insert of one number, and of slices.Reverse of a part, in a row of one's own. -/
namespace Go.Proofs.YtgjmlnpfkmpfgaaGreat
open Go.RowKit Go.Shelf Go.Sort
set_option linter.unusedVariables false
set_option maxRecDepth 100000

theorem box_cells {T : TypeId} {g : Nat} : ∀ (vs : List Value) (o : Nat) (W : World) (cur : Array Value), Box W g cur T → ∃ cur', Box (W.setCells g o vs) g cur' T ∧ cur'.size = cur.size
  | [], o, W, cur, h => ⟨cur, h, rfl⟩
  | v :: vs, o, W, cur, h => by
    have hh : W.heap[g]? = some (.cells cur T (0, 0)) := h
    have h1 : Box (W.setCell ⟨g, o, none⟩ v) g (cur.setIfInBounds o v) T := by
      unfold Box
      rw [setCell_eq_setRow W g o _ _ _ _ hh, setRow_heap W g _ _ _ _ hh]
    obtain ⟨cur', h2, h3⟩ := box_cells vs (o + 1) _ _ h1
    exact ⟨cur', h2, by rw [h3]; simp⟩
theorem own_cells {W : World} {g base c : Nat} {cur : Array Value} {l : List Int} (h : Box W g cur 3) (hb : base ≤ g) (hs : cur.size = c) (hl : l.length ≤ c) (hc : c ≤ maxLen) (hv : ∀ (j : Nat) (z : Int), l[j]? = some z → W.cell? ⟨g, j, none⟩ = some (.int .i64 z)) :
    OwnI W base (.slice (some ⟨g, 0, none⟩) l.length c) l := by
  refine ⟨by simp, .inr ⟨g, c, cur, rfl, hb, h, hl, hc, by omega, ?_⟩⟩
  rw [Nat.mul_one]
  apply List.ext_getElem?
  intro j
  by_cases hj : j < l.length
  · obtain ⟨z, hz⟩ := mlist_at l j hj
    rw [List.getElem?_take_of_lt hj, List.getElem?_map, hz, Array.getElem?_toList]
    have := hv j z hz
    rw [cell_of_row W g j _ _ _ h] at this
    have h2 : j < cur.size := by omega
    simpa [h2] using this
  · rw [List.getElem?_eq_none (by rw [List.length_take]; omega), List.getElem?_eq_none (by rw [List.length_map]; omega)]

theorem put_at {l : List Int} {k : Nat} {x : Int} (hk : k ≤ l.length) (j : Nat) : (Bt.put l k x)[j]? = if j < k then l[j]? else if j = k then some x else l[j - 1]? := by
  unfold Bt.put
  rw [List.append_assoc]
  have e : (l.take k).length = k := List.length_take_of_le hk
  by_cases h1 : j < k
  · rw [if_pos h1, List.getElem?_append_left (by omega), List.getElem?_take_of_lt h1]
  · rw [if_neg h1, List.getElem?_append_right (by omega), e]
    by_cases h2 : j = k
    · subst h2
      rw [if_pos rfl, Nat.sub_self]; rfl
    · rw [if_neg h2]
      obtain ⟨d, rfl⟩ : ∃ d, j = k + 1 + d := ⟨j - k - 1, by omega⟩
      rw [show k + 1 + d - k = d + 1 by omega, List.singleton_append, List.getElem?_cons_succ, List.getElem?_drop]
      congr 1
      omega
theorem below_cells {B g : Nat} (hg : B ≤ g) : ∀ (vs : List Value) (o : Nat) (w W : World), Below B w W → Below B w (W.setCells g o vs)
  | [], _, _, _, h => h
  | v :: vs, o, w, W, h => below_cells hg vs (o + 1) w _ (h.setCell (p := ⟨g, o, none⟩) hg v)

/-- slices.Insert of one number, into a row of one's own -/
theorem insert_b (A : Option Addr) (n c : Nat) (l : List Int) (k : Nat) (x : Int) (vb vc : Nat) (W : World) (base : Nat) (hn : l.length = n) (hn2 : n ≤ 1000) (hk : k ≤ n) (h : OwnI W base (.slice A n c) l) (hb : base ≤ W.heap.size) (hv : Box W vb #[.int .i64 x] 3)
    (hne : ∀ ad, A = some ad → ad.block ≠ vb) :
    Calls Tryz.prog 114 #[.slice A n c, .int .i64 (k : Int), .slice (some ⟨vb, 0, none⟩) 1 vc] W fun e w' => ∃ A' c', e = .returned (.slice A' (n + 1) c') ∧ Hid (OwnI w' base (.slice A' (n + 1) c') (Bt.put l k x) ∧ Below base W w') := by
  have hpl : (Bt.put l k x).length = n + 1 := by rw [Bt.put_len l x (by omega), hn]
  have hvs : ∀ (j : Nat) (v : Value), [Value.int .i64 x][j]? = some v → W.cell? ⟨vb, 0 + j, none⟩ = some v := fun j v hj => by
    match j with
    | 0 => simp at hj; subst hj; exact hv.cell 0 _ rfl
    | j + 1 => simp at hj
  have h1v : ∀ v ∈ [Value.int .i64 x], v.oneCell' = true := by intro v hv; simp at hv; subst hv; rfl
  have h1c : ∀ v ∈ l.map (Value.int .i64), v.oneCell' = true := by intro v hv; obtain ⟨z, _, rfl⟩ := List.mem_map.1 hv; rfl
  have hzc : ∀ m, (Builtin.zeroCells (Value.int .i64 0).cells m).size = m := fun m => by rw [size_zeroCells]; show m * 1 = m; omega
  rcases h.2 with ⟨e, h0⟩ | ⟨g, cap, cur, e, hbg, hg, hnc, hcm, hcs, hct⟩
  · injection e with e1 e2 e3
    subst e1 e2 e3
    obtain rfl : k = 0 := by omega
    have hl0 : l = [] := List.eq_nil_of_length_eq_zero hn
    subst hl0
    refine Calls.mono (Any2.slices_Insert_int_end_grow Tryz.laysIns none 0 0 vb 0 1 vc [] [Value.int .i64 x] W (by omega) (Nat.le_refl _) (by omega) (by omega) rfl rfl (fun _ => rfl) (fun a e => by cases e) hvs h1v) ?_
    rintro e w' ⟨rfl, rfl⟩
    refine ⟨_, _, rfl, ?_, ⟨rfl, rfl, rfl, by simp, fun j hj => heap_alloc_old W.drew _ (by show j < W.heap.size; omega)⟩⟩
    have hge := grownCap_ge W (0 + 1) 0 3
    have hgm : grownCap W (0 + 1) 0 3 ≤ maxLen := grownCap_le_maxLen W (0 + 1) 0 3 (by unfold maxLen; omega)
    have hnew := heap_alloc_new W.drew (.cells ((([] : List Value) ++ [Value.int .i64 x]).toArray ++ Builtin.zeroCells (Value.int .i64 0).cells (grownCap W (0 + 1) 0 3 - (0 + 1))) 3)
    have hbx : Box (W.drew.alloc (.cells ((([] : List Value) ++ [Value.int .i64 x]).toArray ++ Builtin.zeroCells (Value.int .i64 0).cells (grownCap W (0 + 1) 0 3 - (0 + 1))) 3)) W.heap.size (((([] : List Value) ++ [Value.int .i64 x]).toArray ++ Builtin.zeroCells (Value.int .i64 0).cells (grownCap W (0 + 1) 0 3 - (0 + 1)))) 3 := hnew
    have := own_cells (l := Bt.put [] 0 x) (base := base) (c := grownCap W (0 + 1) 0 3) hbx hb (by simp only [Array.size_append, hzc, List.size_toArray, List.length_append, List.length_nil, List.length_cons]; omega) (by rw [hpl]; omega) hgm (fun j z hz => by
      match j with
      | 0 =>
        have : z = x := by simpa [Bt.put] using hz.symm
        subst this
        exact hbx.cell 0 _ (by rw [Array.getElem?_append_left (by simp)]; rfl)
      | j + 1 => simp [Bt.put] at hz)
    rw [hpl] at this
    exact this
  · injection e with e1 _ e3
    subst e1 e3
    have hbox : Box W g cur 3 := hg
    have hgv : g ≠ vb := hne _ rfl
    have hcells : ∀ (j : Nat) (z : Int), l[j]? = some z → W.cell? ⟨g, j, none⟩ = some (.int .i64 z) := fun j z hz => by
      have := h.cells (g := g) rfl j (.int .i64 z) (by rw [List.getElem?_map, hz]; rfl)
      rw [add_flat, Nat.zero_add] at this
      exact this
    have hcells2 : ∀ (j : Nat) (v : Value), (l.map (Value.int .i64))[j]? = some v → W.cell? ⟨g, 0 + j, none⟩ = some v := fun j v hj => by
      rw [List.getElem?_map] at hj
      cases hz : l[j]? with
      | none => rw [hz] at hj; cases hj
      | some z => rw [hz] at hj; obtain rfl := Option.some.inj hj; rw [Nat.zero_add]; exact hcells j z hz
    have hsome : ∀ j, j < c → (W.cell? ⟨g, j, none⟩).isSome = true := fun j hj => by
      have h2 : j < cur.size := by omega
      rw [cell_of_row W g j _ _ _ hg]
      simp [h2]
    have hml : (l.map (Value.int .i64)).length = n := by rw [List.length_map, hn]
    by_cases hroom : n + 1 ≤ c
    · by_cases hkn : k = n
      · subst hkn
        refine Calls.mono (Any2.slices_Insert_int_end_room Tryz.laysIns g 0 k c vb 0 1 vc [Value.int .i64 x] W (by omega) hroom (by unfold maxLen at hcm; omega) rfl (fun j hj => hsome _ (by omega)) (fun j _ => hbox.fz _) hvs h1v) ?_
        rintro e w' ⟨rfl, rfl⟩
        refine ⟨_, _, rfl, ?_, below_cells hbg _ _ _ _ (Below.refl _ _)⟩
        obtain ⟨cur', hb', hs'⟩ := box_cells [Value.int .i64 x] (0 + k) W cur hbox
        have := own_cells (l := Bt.put l k x) (base := base) (c := c) hb' hbg (by omega) (by omega) hcm (fun j z hz => by
          rw [put_at (by omega)] at hz
          by_cases h1 : j < k
          · rw [if_pos h1] at hz
            rw [World.cell?_setCells_out g _ _ _ _ (fun _ _ => by left; show j < 0 + k; omega)]
            exact hcells j z hz
          · rw [if_neg h1] at hz
            by_cases h2 : j = k
            · subst h2
              rw [if_pos rfl] at hz
              obtain rfl := Option.some.inj hz
              have := World.cell?_setCells_in g [Value.int .i64 x] (0 + j) W (fun i hi => hsome _ (by simp at hi; omega)) 0 (by simp)
              simpa using this
            · rw [if_neg h2, List.getElem?_eq_none (by omega)] at hz
              cases hz)
        rw [hpl] at this
        exact this
      · refine Calls.mono (Any2.slices_Insert_int_shift Tryz.laysIns g 0 n c k vb 0 1 vc (l.map (Value.int .i64)) [Value.int .i64 x] W (by omega) (by omega) hroom (by unfold maxLen at hcm; omega) (fun e => hgv e.symm) hml rfl hcells2 (fun j hj => by rw [Nat.zero_add]; exact hsome j (by omega)) (fun j _ => hbox.fz _) hvs h1c h1v
          3 3 1 c (by unfold World.shape?; rw [show W.heap[vb]? = _ from hv]; rfl) (by unfold World.shape?; rw [hg]; simp; omega) (by omega) (hv.fz _) (hv.fz _)) ?_
        rintro e w' ⟨rfl, rfl⟩
        refine ⟨_, _, rfl, ?_, below_cells hbg _ _ _ _ (below_cells hbg _ _ _ _ ⟨rfl, rfl, rfl, Nat.le_refl _, fun _ _ => rfl⟩)⟩
        obtain ⟨cur1, hb1, hs1⟩ := box_cells ((l.map (Value.int .i64)).drop k) (0 + (k + 1)) W.drew cur hbox
        obtain ⟨cur2, hb2, hs2⟩ := box_cells [Value.int .i64 x] (0 + k) _ cur1 hb1
        have hsome1 : ∀ j, j < c → ((W.drew.setCells g (0 + (k + 1)) ((l.map (Value.int .i64)).drop k)).cell? ⟨g, j, none⟩).isSome = true := fun j hj => by
          rw [cell_of_row _ g j _ _ _ hb1]
          have h2 : j < cur1.size := by omega
          simp [h2]
        have := own_cells (l := Bt.put l k x) (base := base) (c := c) hb2 hbg (by omega) (by omega) hcm (fun j z hz => by
          rw [put_at (by omega)] at hz
          by_cases h1 : j < k
          · rw [if_pos h1] at hz
            rw [World.cell?_setCells_out g _ _ _ _ (fun _ _ => by left; show j < 0 + k; omega), World.cell?_setCells_out g _ _ _ _ (fun _ _ => by left; show j < 0 + (k + 1); omega)]
            exact hcells j z hz
          · rw [if_neg h1] at hz
            by_cases h2 : j = k
            · subst h2
              rw [if_pos rfl] at hz
              obtain rfl := Option.some.inj hz
              have := World.cell?_setCells_in g [Value.int .i64 x] (0 + j) _ (fun i hi => hsome1 _ (by simp at hi; omega)) 0 (by simp)
              simpa using this
            · rw [if_neg h2] at hz
              rw [World.cell?_setCells_out g _ _ _ _ (fun _ _ => by right; show 0 + k + 1 ≤ j; omega)]
              have hjl := (List.getElem?_eq_some_iff.1 hz).1
              have := World.cell?_setCells_in g ((l.map (Value.int .i64)).drop k) (0 + (k + 1)) W.drew (fun i hi => hsome _ (by simp at hi; omega)) (j - 1 - k) (by simp; omega)
              rw [show 0 + (k + 1) + (j - 1 - k) = j by omega] at this
              rw [this]
              congr 1
              have e : ((l.map (Value.int .i64)).drop k)[j - 1 - k]? = some (.int .i64 z) := by rw [List.getElem?_drop, show k + (j - 1 - k) = j - 1 by omega, List.getElem?_map, hz]; rfl
              exact (List.getElem?_eq_some_iff.1 e).2)
        rw [hpl] at this
        exact this
    · have hge := grownCap_ge W (n + 1) c 3
      have hgm : grownCap W (n + 1) c 3 ≤ maxLen := grownCap_le_maxLen W (n + 1) c 3 (by unfold maxLen; omega)
      by_cases hkn : k = n
      · subst hkn
        refine Calls.mono (Any2.slices_Insert_int_end_grow Tryz.laysIns (some ⟨g, 0, none⟩) k c vb 0 1 vc (l.map (Value.int .i64)) [Value.int .i64 x] W (by omega) (by omega) (by omega) (by omega) hml rfl (fun e => by cases e) (fun a e j v hj => by
          obtain rfl := Option.some.inj e
          have := hcells2 j v hj
          rw [add_flat]
          exact this) hvs h1v) ?_
        rintro e w' ⟨rfl, rfl⟩
        refine ⟨_, _, rfl, ?_, ⟨rfl, rfl, rfl, by simp, fun j hj => heap_alloc_old W.drew _ (by show j < W.heap.size; omega)⟩⟩
        have hbx : Box (W.drew.alloc (.cells (((l.map (Value.int .i64)) ++ [Value.int .i64 x]).toArray ++ Builtin.zeroCells (Value.int .i64 0).cells (grownCap W (k + 1) c 3 - (k + 1))) 3)) W.heap.size ((((l.map (Value.int .i64)) ++ [Value.int .i64 x]).toArray ++ Builtin.zeroCells (Value.int .i64 0).cells (grownCap W (k + 1) c 3 - (k + 1)))) 3 := heap_alloc_new W.drew _
        have := own_cells (l := Bt.put l k x) (base := base) (c := grownCap W (k + 1) c 3) hbx hb (by rw [Array.size_append, hzc]; simp; omega) (by rw [hpl]; omega) hgm (fun j z hz => by
          refine hbx.cell j _ ?_
          have hjl := (List.getElem?_eq_some_iff.1 hz).1
          rw [Array.getElem?_append_left (by simp; omega), List.getElem?_toArray]
          rw [put_at (by omega)] at hz
          by_cases h1 : j < k
          · rw [if_pos h1] at hz
            rw [List.getElem?_append_left (by omega), List.getElem?_map, hz]; rfl
          · rw [if_neg h1] at hz
            obtain rfl : j = k := by omega
            rw [if_pos rfl] at hz
            obtain rfl := Option.some.inj hz
            rw [List.getElem?_append_right (by omega), hml]; simp)
        rw [hpl] at this
        exact this
      · refine Calls.mono (Any2.slices_Insert_int_grow Tryz.laysIns g 0 n c k vb 0 1 vc (l.map (Value.int .i64)) [Value.int .i64 x] W (by omega) (by omega) (by omega) (by omega) (by omega) hml rfl hcells2 hvs h1c h1v) ?_
        rintro e w' ⟨rfl, rfl⟩
        refine ⟨_, _, rfl, ?_, below_cells hb _ _ _ _ (Below.trans (below_cells hb _ _ _ _ (⟨rfl, rfl, rfl, by simp, fun j hj => heap_alloc_old W _ (by show j < W.heap.size; omega)⟩ : Below base W (W.alloc _).drew)) ⟨rfl, rfl, rfl, Nat.le_refl _, fun _ _ => rfl⟩)⟩
        have hbx : Box (W.alloc (.cells (((l.map (Value.int .i64)).take k).toArray ++ Builtin.zeroCells (Value.int .i64 0).cells (n + 1 - k) ++ Builtin.zeroCells (Value.int .i64 0).cells (grownCap W (n + 1) c 3 - (n + 1))) 3)) W.heap.size (((l.map (Value.int .i64)).take k).toArray ++ Builtin.zeroCells (Value.int .i64 0).cells (n + 1 - k) ++ Builtin.zeroCells (Value.int .i64 0).cells (grownCap W (n + 1) c 3 - (n + 1))) 3 := heap_alloc_new W _
        have hcz : (((l.map (Value.int .i64)).take k).toArray ++ Builtin.zeroCells (Value.int .i64 0).cells (n + 1 - k) ++ Builtin.zeroCells (Value.int .i64 0).cells (grownCap W (n + 1) c 3 - (n + 1))).size = grownCap W (n + 1) c 3 := by
          rw [Array.size_append, Array.size_append, hzc, hzc]; simp; omega
        have hcv : ∀ (j : Nat) (z : Int), j < k → l[j]? = some z → (((l.map (Value.int .i64)).take k).toArray ++ Builtin.zeroCells (Value.int .i64 0).cells (n + 1 - k) ++ Builtin.zeroCells (Value.int .i64 0).cells (grownCap W (n + 1) c 3 - (n + 1)))[j]? = some (.int .i64 z) := fun j z hj hz => by
          rw [Array.append_assoc, Array.getElem?_append_left (by simp; omega), List.getElem?_toArray, List.getElem?_take_of_lt hj, List.getElem?_map, hz]; rfl
        refine (fun (key : ∀ (cc : Array Value) (V : World) (g2 : Nat), Box V g2 cc 3 → cc.size = grownCap W (n + 1) c 3 → (∀ (j : Nat) (z : Int), j < k → l[j]? = some z → cc[j]? = some (.int .i64 z)) → base ≤ g2 →
          OwnI ((V.setCells g2 k [Value.int .i64 x]).drew.setCells g2 (k + 1) ((l.map (Value.int .i64)).drop k)) base (.slice (some ⟨g2, 0, none⟩) (n + 1) (grownCap W (n + 1) c 3)) (Bt.put l k x)) => key _ (W.alloc _).drew _ hbx hcz hcv hb) ?_
        clear hcv hcz hbx
        intro cc V g2 hbd hcz hcv hb
        obtain ⟨cur1, hb1, hs1⟩ := box_cells [Value.int .i64 x] k V cc hbd
        have hb1d : Box (V.setCells g2 k [Value.int .i64 x]).drew g2 cur1 3 := hb1
        obtain ⟨cur2, hb2, hs2⟩ := box_cells ((l.map (Value.int .i64)).drop k) (k + 1) _ cur1 hb1d
        have hsV : ∀ j, j < grownCap W (n + 1) c 3 → (V.cell? ⟨g2, j, none⟩).isSome = true := fun j hj => by
          rw [cell_of_row _ g2 j _ _ _ hbd]
          have h2 : j < cc.size := by omega
          simp [h2]
        have hs1V : ∀ j, j < grownCap W (n + 1) c 3 → ((V.setCells g2 k [Value.int .i64 x]).drew.cell? ⟨g2, j, none⟩).isSome = true := fun j hj => by
          rw [cell_of_row _ g2 j _ _ _ hb1d]
          have h2 : j < cur1.size := by omega
          simp [h2]
        have := own_cells (l := Bt.put l k x) (base := base) (c := grownCap W (n + 1) c 3) hb2 hb (by omega) (by omega) hgm (fun j z hz => by
          have hjl := (List.getElem?_eq_some_iff.1 hz).1
          rw [put_at (by omega)] at hz
          by_cases h1 : j < k
          · rw [if_pos h1] at hz
            rw [World.cell?_setCells_out g2 _ _ _ _ (fun _ _ => by left; show j < k + 1; omega)]
            show (V.setCells g2 k [Value.int .i64 x]).cell? ⟨g2, j, none⟩ = _
            rw [World.cell?_setCells_out g2 _ _ _ _ (fun _ _ => by left; exact h1)]
            exact hbd.cell j _ (hcv j z h1 hz)
          · rw [if_neg h1] at hz
            by_cases h2 : j = k
            · subst h2
              rw [if_pos rfl] at hz
              obtain rfl := Option.some.inj hz
              rw [World.cell?_setCells_out g2 _ _ _ _ (fun _ _ => by left; show j < j + 1; omega)]
              have := World.cell?_setCells_in g2 [Value.int .i64 x] j V (fun i hi => hsV _ (by simp at hi; omega)) 0 (by simp)
              exact this
            · rw [if_neg h2] at hz
              have hjl2 := (List.getElem?_eq_some_iff.1 hz).1
              have := World.cell?_setCells_in g2 ((l.map (Value.int .i64)).drop k) (k + 1) (V.setCells g2 k [Value.int .i64 x]).drew (fun i hi => hs1V _ (by simp at hi; omega)) (j - 1 - k) (by simp; omega)
              rw [show k + 1 + (j - 1 - k) = j by omega] at this
              rw [this]
              congr 1
              have e : ((l.map (Value.int .i64)).drop k)[j - 1 - k]? = some (.int .i64 z) := by rw [List.getElem?_drop, show k + (j - 1 - k) = j - 1 by omega, List.getElem?_map, hz]; rfl
              exact (List.getElem?_eq_some_iff.1 e).2)
        rw [hpl] at this
        exact this
end Go.Proofs.YtgjmlnpfkmpfgaaGreat
end
