/- What the library's sort by a function, and its deletion, leave of a row of rows, and of numbers, at this program. -/
import Derived.Shelf.SlSortCmp.Whole1
import Derived.Shelf.SlicesE.Delete
import Derived.Test.YtjidelfpmlnhkaaGreatSavAM
import Derived.Test.YtjidelfpmlnhkaaGreatPlanMem
namespace Go.Proofs.YtjidelfpmlnhkaaGreat
open Go.RowKit Go.Shelf Go.Sort
set_option linter.unusedVariables false

def Tryz.laysSortF_ren : Go.Shelf.Ren := ⟨fun | 6 => 29 | 15 => 65 | 14 => 64 | 28 => 106 | 29 => 107 | 20 => 98 | 21 => 99 | 22 => 100 | 23 => 101 | 24 => 102 | 25 => 103 | 26 => 104 | 27 => 105 | 46 => 129 | 47 => 130 | 48 => 131 | 49 => 132 | 50 => 133 | 57 => 139 | n => n, fun | 22 => 35 | 24 => 29 | 25 => 73 | 3 => 3 | 39 => 107 | 0 => 0 | 53 => 150 | 55 => 152 | 4 => 4 | 46 => 144 | 45 => 143 | 50 => 110 | 5 => 5 | 9 => 9 | 66 => 173 | 70 => 177 | 76 => 182 | 77 => 183 | n => n, fun n => n⟩
theorem Tryz.laysSortF : SlLaysF.n6 Tryz.prog Tryz.laysSortF_ren :=
  { mixed := by kernel_rfl,
    f6 := ⟨Tryz.f29.name, by decide, Tryz.func29.trans (congrArg some (by kernel_rfl))⟩,
    f14 := ⟨Tryz.f64.name, by decide, Tryz.func64.trans (congrArg some (by kernel_rfl))⟩,
    f15 := Tryz.func65.trans (congrArg some (by kernel_rfl)),
    f20 := ⟨Tryz.f98.name, by decide, Tryz.func98.trans (congrArg some (by kernel_rfl))⟩,
    f21 := ⟨Tryz.f99.name, by decide, Tryz.func99.trans (congrArg some (by kernel_rfl))⟩,
    f22 := ⟨Tryz.f100.name, by decide, Tryz.func100.trans (congrArg some (by kernel_rfl))⟩,
    f23 := ⟨Tryz.f101.name, by decide, Tryz.func101.trans (congrArg some (by kernel_rfl))⟩,
    f24 := ⟨Tryz.f102.name, by decide, Tryz.func102.trans (congrArg some (by kernel_rfl))⟩,
    f25 := ⟨Tryz.f103.name, by decide, Tryz.func103.trans (congrArg some (by kernel_rfl))⟩,
    f26 := ⟨Tryz.f104.name, by decide, Tryz.func104.trans (congrArg some (by kernel_rfl))⟩,
    f27 := ⟨Tryz.f105.name, by decide, Tryz.func105.trans (congrArg some (by kernel_rfl))⟩,
    f28 := Tryz.func106.trans (congrArg some (by kernel_rfl)),
    f29 := Tryz.func107.trans (congrArg some (by kernel_rfl)),
    f46 := ⟨Tryz.f129.name, by decide, Tryz.func129.trans (congrArg some (by kernel_rfl))⟩,
    f47 := Tryz.func130.trans (congrArg some (by kernel_rfl)),
    f48 := Tryz.func131.trans (congrArg some (by kernel_rfl)),
    f49 := ⟨Tryz.f132.name, by decide, Tryz.func132.trans (congrArg some (by kernel_rfl))⟩,
    f50 := ⟨Tryz.f133.name, by decide, Tryz.func133.trans (congrArg some (by kernel_rfl))⟩,
    f57 := ⟨Tryz.f139.name, by decide, Tryz.func139.trans (congrArg some (by kernel_rfl))⟩,
    t0 := Tryz.underlying0,
    a0 := Tryz.isAgg0,
    z0 := Tryz.sizeOf0,
    v0 := Tryz.zeroValue0,
    t3 := Tryz.underlying3,
    a3 := Tryz.isAgg3,
    z3 := Tryz.sizeOf3,
    v3 := Tryz.zeroValue3,
    t4 := Tryz.underlying4,
    a4 := Tryz.isAgg4,
    z4 := Tryz.sizeOf4,
    v4 := Tryz.zeroValue4,
    t5 := Tryz.underlying5,
    a5 := Tryz.isAgg5,
    z5 := Tryz.sizeOf5,
    v5 := Tryz.zeroValue5,
    t9 := Tryz.underlying9,
    a9 := Tryz.isAgg9,
    z9 := Tryz.sizeOf9,
    v9 := Tryz.zeroValue9,
    t22 := Tryz.underlying35,
    a22 := Tryz.isAgg35,
    z22 := Tryz.sizeOf35,
    v22 := Tryz.zeroValue35,
    a24 := Tryz.isAgg29,
    z24 := Tryz.sizeOf29,
    t25 := Tryz.underlying73,
    a25 := Tryz.isAgg73,
    z25 := Tryz.sizeOf73,
    v25 := Tryz.zeroValue73,
    t39 := Tryz.underlying107,
    a39 := Tryz.isAgg107,
    z39 := Tryz.sizeOf107,
    v39 := Tryz.zeroValue107,
    t45 := Tryz.underlying143,
    a45 := Tryz.isAgg143,
    z45 := Tryz.sizeOf143,
    v45 := Tryz.zeroValue143,
    t46 := Tryz.underlying144,
    a46 := Tryz.isAgg144,
    z46 := Tryz.sizeOf144,
    v46 := Tryz.zeroValue144,
    t50 := Tryz.underlying110,
    a50 := Tryz.isAgg110,
    z50 := Tryz.sizeOf110,
    v50 := Tryz.zeroValue110,
    t53 := Tryz.underlying150,
    a53 := Tryz.isAgg150,
    z53 := Tryz.sizeOf150,
    v53 := Tryz.zeroValue150,
    t55 := Tryz.underlying152,
    a55 := Tryz.isAgg152,
    z55 := Tryz.sizeOf152,
    v55 := Tryz.zeroValue152,
    t66 := Tryz.underlying173,
    a66 := Tryz.isAgg173,
    z66 := Tryz.sizeOf173,
    v66 := Tryz.zeroValue173,
    t70 := Tryz.underlying177,
    a70 := Tryz.isAgg177,
    z70 := Tryz.sizeOf177,
    v70 := Tryz.zeroValue177,
    t76 := Tryz.underlying182,
    a76 := Tryz.isAgg182,
    z76 := Tryz.sizeOf182,
    v76 := Tryz.zeroValue182,
    t77 := Tryz.underlying183,
    a77 := Tryz.isAgg183,
    z77 := Tryz.sizeOf183,
    v77 := Tryz.zeroValue183 }
def Tryz.laysDelR_ren : Go.Shelf.Ren := ⟨fun | 45 => 62 | n => n, fun | 22 => 35 | 23 => 29 | 3 => 3 | 4 => 4 | 0 => 0 | n => n, fun n => n⟩
theorem Tryz.laysDelR : SlLaysE.n45 Tryz.prog Tryz.laysDelR_ren :=
  { mixed := by kernel_rfl,
    f45 := ⟨Tryz.f62.name, by decide, Tryz.func62.trans (congrArg some (by kernel_rfl))⟩,
    t0 := Tryz.underlying0,
    a0 := Tryz.isAgg0,
    z0 := Tryz.sizeOf0,
    v0 := Tryz.zeroValue0,
    t3 := Tryz.underlying3,
    a3 := Tryz.isAgg3,
    z3 := Tryz.sizeOf3,
    v3 := Tryz.zeroValue3,
    t4 := Tryz.underlying4,
    a4 := Tryz.isAgg4,
    z4 := Tryz.sizeOf4,
    v4 := Tryz.zeroValue4,
    t22 := Tryz.underlying35,
    a22 := Tryz.isAgg35,
    z22 := Tryz.sizeOf35,
    v22 := Tryz.zeroValue35,
    a23 := Tryz.isAgg29,
    z23 := Tryz.sizeOf29 }
def Tryz.laysDelI_ren : Go.Shelf.Ren := ⟨fun | 45 => 37 | n => n, fun | 22 => 29 | 23 => 3 | 3 => 3 | 4 => 4 | 0 => 0 | n => n, fun n => n⟩
theorem Tryz.laysDelI : SlLaysE.n45 Tryz.prog Tryz.laysDelI_ren :=
  { mixed := by kernel_rfl,
    f45 := ⟨Tryz.f37.name, by decide, Tryz.func37.trans (congrArg some (by kernel_rfl))⟩,
    t0 := Tryz.underlying0,
    a0 := Tryz.isAgg0,
    z0 := Tryz.sizeOf0,
    v0 := Tryz.zeroValue0,
    t3 := Tryz.underlying3,
    a3 := Tryz.isAgg3,
    z3 := Tryz.sizeOf3,
    v3 := Tryz.zeroValue3,
    t4 := Tryz.underlying4,
    a4 := Tryz.isAgg4,
    z4 := Tryz.sizeOf4,
    v4 := Tryz.zeroValue4,
    t22 := Tryz.underlying29,
    a22 := Tryz.isAgg29,
    z22 := Tryz.sizeOf29,
    v22 := Tryz.zeroValue29,
    a23 := Tryz.isAgg3,
    z23 := Tryz.sizeOf3 }

set_option maxRecDepth 100000

/-- a row that is laid anew, in its block -/
theorem row_put {α : Type} [Inhabited α] (enc : α → Value) {W : World} {g : Nat} {cs : Array Value} {T : TypeId} (h : Box W g cs T) (m : Nat) (d : Array α) (os : Array Obj) (hd : d.size ≤ cs.size) :
    Box (grow (putRow enc (Sort.ahead W m) g 0 d) os) g (putCells enc 0 d cs) T ∧ ∀ (j : Nat) (r : α), d.toList[j]? = some r → (putCells enc 0 d cs)[j]? = some (enc r) := by
  refine ⟨?_, fun j r hr => ?_⟩
  · unfold Box
    rw [heap_grow_old _ _ (by rw [size_putRow]; exact h.lt)]
    show (W.heap.modify g _)[g]? = _
    rw [Array.getElem?_modify, if_pos rfl, show W.heap[g]? = _ from h]
    rfl
  · have hj : j < d.size := by have := (List.getElem?_eq_some_iff.1 hr).1; simpa using this
    have e : d[j]! = r := by
      rw [getElem!_pos d j hj]
      rw [Array.getElem?_toList, Array.getElem?_eq_getElem hj] at hr
      exact Option.some.inj hr
    unfold putCells
    rw [Array.getElem?_mapIdx, Array.getElem?_eq_getElem (by omega)]
    simp only [Option.map_some]
    rw [if_pos ⟨Nat.zero_le _, by omega⟩, Nat.sub_zero, e]
theorem put_other {α : Type} [Inhabited α] (enc : α → Value) (W : World) (g m : Nat) (d : Array α) (os : Array Obj) : ButB g W (grow (putRow enc (Sort.ahead W m) g 0 d) os) := fun k hk hg => by
  rw [heap_grow_old _ _ (by rw [size_putRow]; exact hk)]
  show (W.heap.modify g _)[k]? = _
  rw [Array.getElem?_modify, if_neg (by omega)]
theorem put_below {α : Type} [Inhabited α] {base : Nat} (enc : α → Value) (W : World) (g m : Nat) (d : Array α) (os : Array Obj) (hb : base ≤ g) (hs : base ≤ W.heap.size) : Below base W (grow (putRow enc (Sort.ahead W m) g 0 d) os) :=
  ⟨rfl, rfl, rfl, by rw [size_grow, size_putRow]; exact Nat.le_add_right _ _, fun k hk => put_other enc W g m d os k (Nat.lt_of_lt_of_le hk hs) (by omega)⟩

/-- what is asked of a function by which rows are sorted -/
def Cmps (G : Nat) (cf : List Int → List Int → Int) (q : Rw → Prop) : Prop := ∀ (r s : Rw) (V : World), RwOk V r → RwOk V s → q r → q s →
  Calls Tryz.prog G #[.slice r.A r.m r.c, .slice s.A s.m s.c] V fun e w' => e = .returned (.int .i64 (cf r.st s.st)) ∧ ∃ k os, w' = grow (V.drewN k) os
/-- what a call that sorts rows leaves -/
def SortPost (cf : List Int → List Int → Int) (W : World) (base : Nat) (A : Option Addr) (l : List Rw) (e : Ending) (w' : World) : Prop :=
  e = .returned (.tuple #[]) ∧ Hid (∃ l' : List Rw, l'.Perm l ∧ l'.Pairwise (fun a b => ¬ cf b.st a.st < 0) ∧ SR w' base A l' ∧ Below base W w' ∧ KeepI W w')
theorem sortf_b (G : Nat) (hG : ∀ args w, (callFunc G args).run Tryz.prog w = .ok (.enter G args) w) (cf : List Int → List Int → Int) (hS : SWO (fun a b : List Int => decide (cf a b < 0))) (q : Rw → Prop) (hc : Cmps G cf q)
    (g n c : Nat) (l : List Rw) (W : World) (base : Nat) (hn : l.length = n) (hn2 : n ≤ 100000) (h0 : 0 < n) (h : SR W base (some ⟨g, 0, none⟩) l) (hq : ∀ r ∈ l, q r) :
    Calls Tryz.prog 29 #[.slice (some ⟨g, 0, none⟩) n c, .func (.func G) #[] #[]] W (SortPost cf W base (some ⟨g, 0, none⟩) l) := by
  obtain ⟨r0, hr0⟩ := mlist_at l 0 (by omega)
  obtain ⟨g', cs, e, hbg, hbox, hcs⟩ := h.block hr0
  obtain rfl : g = g' := by injection e with e; injection e
  letI : Inhabited {r : Rw // RwOk W r ∧ q r} := ⟨⟨r0, h.ok r0 (List.mem_of_getElem? hr0), hq r0 (List.mem_of_getElem? hr0)⟩⟩
  obtain ⟨d, hd⟩ : ∃ d : Array {r : Rw // RwOk W r ∧ q r}, d = (l.attach.map fun r => (⟨r.1, h.ok r.1 r.2, hq r.1 r.2⟩ : {r : Rw // RwOk W r ∧ q r})).toArray := ⟨_, rfl⟩
  have hdl : d.toList.map Subtype.val = l := by rw [hd]; simp [List.map_map, Function.comp_def]
  have hds : d.size = n := by rw [← hn, ← hdl, List.length_map, Array.length_toList]
  have hcsz : n ≤ cs.size := by
    obtain ⟨r1, hr1⟩ := mlist_at l (n - 1) (by omega)
    have := (Array.getElem?_eq_some_iff.1 (hcs _ _ hr1)).1
    omega
  have hH : Holds (fun r : {r : Rw // RwOk W r ∧ q r} => r.1.val) W g 0 d := fun j hj => by
    obtain ⟨r, hr⟩ := mlist_at l j (by omega)
    have e : d[j]!.1 = r := by
      rw [getElem!_pos d j hj]
      have h2 : (d.toList.map Subtype.val)[j]? = some r := by rw [hdl]; exact hr
      rw [List.getElem?_map, Array.getElem?_toList, Array.getElem?_eq_getElem hj] at h2
      exact Option.some.inj h2
    refine ⟨?_, ?_⟩
    · show W.cell? ⟨g, 0 + j, none⟩ = some d[j]!.1.val
      rw [Nat.zero_add, e]
      exact hbox.cell j _ (hcs j r hr)
    · exact hbox.fz _
  have hcmp : CmpLays1 Tryz.prog G #[] (fun r : {r : Rw // RwOk W r ∧ q r} => r.1.val) (fun x y => cf x.1.st y.1.st) g 0 d.size W := fun m os dk hs x y => by
    have hk : KeepI W (sortWorld (fun r : {r : Rw // RwOk W r ∧ q r} => r.1.val) W g 0 m dk os) := KeepI.but hbox (put_other _ W g m dk os)
    exact hc x.1 y.1 _ (x.2.1.keep hk) (y.2.1.keep hk) x.2.2 y.2.2
  have hO : SWO (ltOf fun x y : {r : Rw // RwOk W r ∧ q r} => cf x.1.st y.1.st) := ⟨fun x => hS.irrefl x.1.st, fun x y z => hS.trans x.1.st y.1.st z.1.st, fun x y z => hS.ntrans x.1.st y.1.st z.1.st⟩
  have hcon := Any.slices_SortFunc Tryz.laysSortF (fun r : {r : Rw // RwOk W r ∧ q r} => r.1.val) (fun _ => rfl) (fun x y => cf x.1.st y.1.st) hO G #[] g 0 c d W hG hcmp hH hbox.lt (by omega)
  rw [hds] at hcon
  refine Calls.mono hcon ?_
  rintro e w' ⟨rfl, d', m, os, hp, hs, rfl⟩
  have hd's : d'.size = n := by rw [hp.1, hds]
  have hperm : (d'.toList.map Subtype.val).Perm l := by
    have h2 := hp.2.2
    have e1 : d'.extract 0 n = d' := by rw [← hd's]; simp
    have e2 : d.extract 0 n = d := by rw [← hds]; simp
    rw [e1, e2] at h2
    rw [← hdl]
    exact h2.map _
  obtain ⟨hb2, hc2⟩ := row_put (fun r : {r : Rw // RwOk W r ∧ q r} => r.1.val) hbox m d' os (by omega)
  have hk : KeepI W (sortWorld (fun r : {r : Rw // RwOk W r ∧ q r} => r.1.val) W g 0 m d' os) := KeepI.but hbox (put_other _ W g m d' os)
  refine ⟨rfl, d'.toList.map Subtype.val, hperm, ?_, ⟨fun k r hr => ⟨g, _, rfl, hbg, hb2, ?_⟩, fun r hr => (h.ok r (hperm.mem_iff.1 hr)).keep hk⟩, put_below _ W g m d' os hbg (Nat.le_of_lt (Nat.lt_of_le_of_lt hbg hbox.lt)), hk⟩
  · rw [List.pairwise_map, List.pairwise_iff_getElem]
    intro i j hi hj hij
    have hi' : i < d'.size := by simpa using hi
    have hj' : j < d'.size := by simpa using hj
    have h2 := hs i j (Nat.zero_le _) hij (by omega)
    rw [getElem!_pos d' i hi', getElem!_pos d' j hj'] at h2
    simpa [ltOf] using h2
  · rw [List.getElem?_map] at hr
    cases hk2 : d'.toList[k]? with
    | none => rw [hk2] at hr; cases hr
    | some x =>
      rw [hk2] at hr
      obtain rfl := Option.some.inj hr
      exact hc2 k x hk2

/-- a row of rows without one -/
theorem del_b (g n c k : Nat) (l : List Rw) (W : World) (base : Nat) (hn : l.length = n) (hn2 : n ≤ 100000) (hc : n ≤ c) (hc2 : c ≤ maxLen) (hk : k < n) (h : SR W base (some ⟨g, 0, none⟩) l) :
    Calls Tryz.prog 62 #[.slice (some ⟨g, 0, none⟩) n c, .int .i64 (k : Int), .int .i64 ((k : Int) + 1)] W fun e w' => e = .returned (.slice (some ⟨g, 0, none⟩) (n - 1) c) ∧ Hid (SR w' base (some ⟨g, 0, none⟩) (l.eraseIdx k) ∧ Below base W w' ∧ KeepI W w' ∧ ButB g W w' ∧ W.heap.size ≤ w'.heap.size) := by
  obtain ⟨r0, hr0⟩ := mlist_at l 0 (by omega)
  obtain ⟨g', cs, e, hbg, hbox, hcs⟩ := h.block hr0
  obtain rfl : g = g' := by injection e with e; injection e
  letI : Inhabited Rw := ⟨⟨none, 0, 0, []⟩⟩
  have hcsz : n ≤ cs.size := by
    obtain ⟨r1, hr1⟩ := mlist_at l (n - 1) (by omega)
    have := (Array.getElem?_eq_some_iff.1 (hcs _ _ hr1)).1
    omega
  have hH : Holds Rw.val W g 0 l.toArray := fun j hj => by
    have hj' : j < l.length := by simpa using hj
    refine ⟨?_, hbox.fz _⟩
    rw [Nat.zero_add, getElem!_pos l.toArray j hj]
    exact hbox.cell j _ (hcs j _ (by simp [hj']))
  obtain ⟨i0, hi0, hz0, hz1, hz2⟩ := info_parts3 ints_info
  have hsz : l.toArray.size = n := by simp [hn]
  have hcon := AnyE.slices_Delete Tryz.laysDelR Rw.val (fun _ => rfl) ⟨none, 0, 0, []⟩ Tryz.zeroValue29 i0 hi0 hz1 g 0 c k (k + 1) l.toArray W hH (by omega) (by unfold maxLen at hc2; omega) (by omega) (by omega)
  rw [hsz, show n - (k + 1 - k) = n - 1 by omega] at hcon
  refine Calls.mono hcon ?_
  rintro e w' ⟨rfl, m, rfl⟩
  obtain ⟨hb2, hc2'⟩ := row_put Rw.val hbox m (l.toArray.toList.take k ++ l.toArray.toList.drop (k + 1) ++ List.replicate (k + 1 - k) (⟨none, 0, 0, []⟩ : Rw)).toArray #[] (by simp; omega)
  have hk1 := put_other Rw.val W g m (l.toArray.toList.take k ++ l.toArray.toList.drop (k + 1) ++ List.replicate (k + 1 - k) (⟨none, 0, 0, []⟩ : Rw)).toArray #[]
  have hk2 := put_below (base := base) Rw.val W g m (l.toArray.toList.take k ++ l.toArray.toList.drop (k + 1) ++ List.replicate (k + 1 - k) (⟨none, 0, 0, []⟩ : Rw)).toArray #[] hbg (Nat.le_of_lt (Nat.lt_of_le_of_lt hbg hbox.lt))
  rw [grow_empty] at hb2 hk1 hk2
  have hki := KeepI.but hbox hk1
  have herase : l.eraseIdx k = l.take k ++ l.drop (k + 1) := List.eraseIdx_eq_take_drop_succ _ _
  refine ⟨rfl, ⟨fun j r hr => ⟨g, _, rfl, hbg, hb2, hc2' j r ?_⟩, fun r hr => (h.ok r (List.mem_of_mem_eraseIdx hr)).keep hki⟩, hk2, hki, hk1, by rw [size_putRow]; exact Nat.le_refl _⟩
  rw [herase] at hr
  show (l.take k ++ l.drop (k + 1) ++ List.replicate (k + 1 - k) _)[j]? = some r
  rw [List.getElem?_append_left (List.getElem?_eq_some_iff.1 hr).1]
  exact hr

/-- numbers without one -/
theorem deli_b (g n c k : Nat) (l : List Int) (W : World) (base : Nat) (hn : l.length = n) (hn2 : n ≤ 100000) (hk : k < n) (h : OwnI W base (.slice (some ⟨g, 0, none⟩) n c) l) :
    Calls Tryz.prog 37 #[.slice (some ⟨g, 0, none⟩) n c, .int .i64 (k : Int), .int .i64 ((k : Int) + 1)] W fun e w' => e = .returned (.slice (some ⟨g, 0, none⟩) (n - 1) c) ∧ Hid (OwnI w' base (.slice (some ⟨g, 0, none⟩) (n - 1) c) (l.eraseIdx k) ∧ Below base W w') := by
  obtain ⟨h1, h2⟩ := h
  rcases h2 with ⟨e, _⟩ | ⟨g', cap, cur, e, hbg, hg, hnc, hcm, hcs, hct⟩
  · cases e
  injection e with e1 e2 e3
  injection e1 with e1
  injection e1 with e1
  subst e1 e3
  have hbox : Box W g cur 3 := hg
  have hH : Holds (Value.int .i64) W g 0 l.toArray := fun j hj => by
    have hj' : j < l.length := by simpa using hj
    refine ⟨?_, hbox.fz _⟩
    rw [Nat.zero_add, getElem!_pos l.toArray j hj]
    refine hbox.cell j _ ?_
    have e : (l.map (Value.int .i64))[j]? = some (.int .i64 l[j]) := by simp [hj']
    rw [← hct, List.getElem?_take_of_lt (by omega)] at e
    simpa using e
  obtain ⟨i0, hi0, hz0, hz1, hz2⟩ := info_parts3 int_info
  have hsz : l.toArray.size = n := by simp [hn]
  have hcon := AnyE.slices_Delete Tryz.laysDelI (Value.int .i64) (fun _ => rfl) (0 : Int) Tryz.zeroValue3 i0 hi0 hz1 g 0 c k (k + 1) l.toArray W hH (by omega) (by unfold maxLen at hcm; omega) (by omega) (by omega)
  rw [hsz, show n - (k + 1 - k) = n - 1 by omega] at hcon
  refine Calls.mono hcon ?_
  rintro e w' ⟨rfl, m, rfl⟩
  obtain ⟨hb2, hc2'⟩ := row_put (Value.int .i64) hbox m (l.toArray.toList.take k ++ l.toArray.toList.drop (k + 1) ++ List.replicate (k + 1 - k) (0 : Int)).toArray #[] (by simp; omega)
  have hk2 := put_below (base := base) (Value.int .i64) W g m (l.toArray.toList.take k ++ l.toArray.toList.drop (k + 1) ++ List.replicate (k + 1 - k) (0 : Int)).toArray #[] hbg (Nat.le_of_lt (Nat.lt_of_le_of_lt hbg hbox.lt))
  rw [grow_empty] at hb2 hk2
  have herase : l.eraseIdx k = l.take k ++ l.drop (k + 1) := List.eraseIdx_eq_take_drop_succ _ _
  have hel : (l.eraseIdx k).length = n - 1 := by rw [List.length_eraseIdx, hn, if_pos hk]
  refine ⟨rfl, ⟨by simp, .inr ⟨g, c, _, by rw [hel], hbg, hb2, by rw [hel]; omega, hcm, by simp [putCells]; omega, ?_⟩⟩, hk2⟩
  rw [Nat.mul_one]
  apply List.ext_getElem?
  intro j
  by_cases hj : j < n - 1
  · obtain ⟨z, hz⟩ := mlist_at (l.eraseIdx k) j (by omega)
    rw [List.getElem?_take_of_lt (by omega), List.getElem?_map, hz, Array.getElem?_toList]
    refine hc2' j z ?_
    show (l.take k ++ l.drop (k + 1) ++ List.replicate (k + 1 - k) _)[j]? = some z
    rw [herase] at hz
    rw [List.getElem?_append_left (List.getElem?_eq_some_iff.1 hz).1]
    exact hz
  · rw [List.getElem?_eq_none (by rw [List.length_take]; omega), List.getElem?_eq_none (by rw [List.length_map]; omega)]
end Go.Proofs.YtjidelfpmlnhkaaGreat
