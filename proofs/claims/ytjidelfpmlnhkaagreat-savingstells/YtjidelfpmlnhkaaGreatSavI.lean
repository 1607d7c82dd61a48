/- Contracts of package savings: a first plan. -/
import Derived.Test.YtjidelfpmlnhkaaGreatSavGH
import Derived.Test.YtjidelfpmlnhkaaGreatMaths
import Derived.Test.YtjidelfpmlnhkaaGreatPlanRow
import Derived.Test.YtjidelfpmlnhkaaGreatPlanC
namespace Go.Proofs.YtjidelfpmlnhkaaGreat
open Go.RowKit Go.Shelf Go.Sort
set_option linter.unusedVariables false
set_option maxRecDepth 100000

theorem und_plan2 : Tryz.prog.underlying 40 = some (.struct ((match Tryz.prog.underlying 40 with | some (.struct fs) => fs | _ => #[]))) := by kernel_rfl
theorem size_plan2 : (Tryz.prog.info? 40).map (·.size) = some 2 := by kernel_rfl
theorem load_plan2 {W : World} {b : Nat} {cs : Array Value} (h : Box W b cs 40) (hs : cs.size = 2) : (loadVar 40 ⟨b, 0, none⟩).run Tryz.prog W = .ok (.agg cs) W :=
  run_loadVar_row W b _ _ cs (0, 0) _ h und_plan2 rfl (by rw [hs]; exact size_plan2)
theorem results_plan2 {fn : Func} {p u : Tmp} (h : fn.results = #[.cell p 40, .tmp u]) (tmps : Array Value) {W : World} {b : Nat} {cs : Array Value} (hb : Box W b cs 40) (hs : cs.size = 2) (hp : tmps.getD p undef = .pointer (some ⟨b, 0, none⟩)) {v : Value} (hv : tmps.getD u undef = v) :
    (results fn tmps).run Tryz.prog W = .ok (.tuple #[.agg cs, v]) W := by
  rw [results_cell_tmp h, hp, hv]
  simp [asAddr, Result.andThen, load_plan2 hb hs]
theorem plan_set2 {W : World} {b : Nat} {x0 x1 : Value} (h : Box W b #[x0, x1] 40) (v0 v1 : Value) : Box ((W.setCell ⟨b, 0, none⟩ v0).setCell ⟨b, 1, none⟩ v1) b #[v0, v1] 40 :=
  (h.set 0 v0 #[v0, x1] rfl).set 1 v1 #[v0, v1] rfl

theorem below_two {B : Nat} {w W : World} (h : RowKit.Below B w W) (b : Nat) (hb : B ≤ b) (v0 v1 : Value) : RowKit.Below B w ((W.setCell ⟨b, 0, none⟩ v0).setCell ⟨b, 1, none⟩ v1) :=
  (h.setCell (p := ⟨b, 0, none⟩) hb _).setCell (p := ⟨b, 1, none⟩) hb _

/-- numbers without one; all blocks but theirs are kept -/
theorem deli2_b (g n c k : Nat) (l : List Int) (W : World) (base : Nat) (hn : l.length = n) (hn2 : n ≤ 100000) (hk : k < n) (h : OwnI W base (.slice (some ⟨g, 0, none⟩) n c) l) :
    Calls Tryz.prog 37 #[.slice (some ⟨g, 0, none⟩) n c, .int .i64 (k : Int), .int .i64 ((k : Int) + 1)] W fun e w' => e = .returned (.slice (some ⟨g, 0, none⟩) (n - 1) c) ∧ Hid (OwnI w' base (.slice (some ⟨g, 0, none⟩) (n - 1) c) (l.eraseIdx k) ∧ RowKit.Below base W w' ∧ ButB g W w') := by
  obtain ⟨h1, h2⟩ := h
  rcases h2 with ⟨e, _⟩ | ⟨g', cap, cur, e, hbg, hg, hnc, hcm, hcs, hct⟩
  · cases e
  injection e with e1 e2 e3
  injection e1 with e1
  injection e1 with e1
  subst e1 e3
  have hbox : Box W g cur 3 := hg
  have hH : Holds (Value.int .i64) W g 0 l.toArray := fun j hj => by
    have hj' : j < l.length := by simpa using hj
    refine ⟨?_, hbox.fz _⟩
    rw [Nat.zero_add, getElem!_pos l.toArray j hj]
    refine hbox.cell j _ ?_
    have e : (l.map (Value.int .i64))[j]? = some (.int .i64 l[j]) := by simp [hj']
    rw [← hct, List.getElem?_take_of_lt (by omega)] at e
    simpa using e
  obtain ⟨i0, hi0, hz0, hz1, hz2⟩ := info_parts3 int_info
  have hsz : l.toArray.size = n := by simp [hn]
  have hcon := AnyE.slices_Delete Tryz.laysDelI (Value.int .i64) (fun _ => rfl) (0 : Int) Tryz.zeroValue3 i0 hi0 hz1 g 0 c k (k + 1) l.toArray W hH (by omega) (by unfold maxLen at hcm; omega) (by omega) (by omega)
  rw [hsz, show n - (k + 1 - k) = n - 1 by omega] at hcon
  refine Calls.mono hcon ?_
  rintro e w' ⟨rfl, m, rfl⟩
  obtain ⟨hb2, hc2'⟩ := row_put (Value.int .i64) hbox m (l.toArray.toList.take k ++ l.toArray.toList.drop (k + 1) ++ List.replicate (k + 1 - k) (0 : Int)).toArray #[] (by simp; omega)
  have hk2 := put_below (base := base) (Value.int .i64) W g m (l.toArray.toList.take k ++ l.toArray.toList.drop (k + 1) ++ List.replicate (k + 1 - k) (0 : Int)).toArray #[] hbg (Nat.le_of_lt (Nat.lt_of_le_of_lt hbg hbox.lt))
  have hk3 := put_other (Value.int .i64) W g m (l.toArray.toList.take k ++ l.toArray.toList.drop (k + 1) ++ List.replicate (k + 1 - k) (0 : Int)).toArray #[]
  rw [grow_empty] at hb2 hk2 hk3
  have herase : l.eraseIdx k = l.take k ++ l.drop (k + 1) := List.eraseIdx_eq_take_drop_succ _ _
  have hel : (l.eraseIdx k).length = n - 1 := by rw [List.length_eraseIdx, hn, if_pos hk]
  refine ⟨rfl, ⟨by simp, .inr ⟨g, c, _, by rw [hel], hbg, hb2, by rw [hel]; omega, hcm, by simp [putCells]; omega, ?_⟩⟩, hk2, hk3⟩
  rw [Nat.mul_one]
  apply List.ext_getElem?
  intro j
  by_cases hj : j < n - 1
  · obtain ⟨z, hz⟩ := mlist_at (l.eraseIdx k) j (by omega)
    rw [List.getElem?_take_of_lt (by omega), List.getElem?_map, hz, Array.getElem?_toList]
    refine hc2' j z ?_
    show (l.take k ++ l.drop (k + 1) ++ List.replicate (k + 1 - k) _)[j]? = some z
    rw [herase] at hz
    rw [List.getElem?_append_left (List.getElem?_eq_some_iff.1 hz).1]
    exact hz
  · rw [List.getElem?_eq_none (by rw [List.length_take]; omega), List.getElem?_eq_none (by rw [List.length_map]; omega)]

/-- the trucks that are free, in a row of a call's own, below a bound -/
def FreeAt (W : World) (lo hi : Nat) (A : Option Addr) (n c : Nat) (l : List Int) : Prop := OwnI W lo (.slice A n c) l ∧ ∀ ad, A = some ad → ad.block < hi
theorem FreeAt.keep {W W' : World} {lo hi n c : Nat} {A : Option Addr} {l : List Int} (h : FreeAt W lo hi A n c l) (hk : ∀ k, lo ≤ k → k < hi → k < W.heap.size → W'.heap[k]? = W.heap[k]?) : FreeAt W' lo hi A n c l := by
  obtain ⟨⟨h1, h2⟩, h3⟩ := h
  refine ⟨⟨h1, ?_⟩, h3⟩
  rcases h2 with h2 | ⟨g, cap, cur, hv, hg, hh, r⟩
  · exact .inl h2
  · injection hv with e1 e2 e3
    exact .inr ⟨g, cap, cur, by rw [e1, e2, e3], hg, (hk g hg (h3 _ e1) (Array.getElem?_eq_some_iff.1 hh).1).trans hh, r⟩

/-- what is known while a plan is built -/
structure LS (V2 : World) (hp B : Nat) (rA : Option Addr) (rm rc : Nat) (rs : List Rd) (fA : Option Addr) (fn fc : Nat) (fl : List Int) (W : World) : Prop where
  lo : V2.heap.size ≤ hp
  hi : hp < B
  bel : RowKit.Below V2.heap.size V2 W
  sz : B ≤ W.heap.size
  pb : Box W hp #[.slice rA rm rc, .slice none 0 0] 40
  own : OwnQ W B (.slice rA rm rc) rs
  free : FreeAt W (hp + 1) B fA fn fc fl
  rl : rs.length = rm
  fl : fl.length = fn
theorem LS.below {V2 W W' : World} {hp B rm rc fn fc : Nat} {rA fA : Option Addr} {rs : List Rd} {fl : List Int} (h : LS V2 hp B rA rm rc rs fA fn fc fl W) (hb : RowKit.Below W.heap.size W W') : LS V2 hp B rA rm rc rs fA fn fc fl W' :=
  ⟨h.lo, h.hi, below_next h.bel hb, Nat.le_trans h.sz hb.size, h.pb.below hb, h.own.below hb, h.free.keep fun k _ _ hk => hb.block k hk, h.rl, h.fl⟩
/-- one route more is stored -/
theorem LS.store {V2 W W2 : World} {hp B rm rc fn fc rm' rc' : Nat} {rA fA rA' : Option Addr} {rs rs' : List Rd} {fl : List Int} (h : LS V2 hp B rA rm rc rs fA fn fc fl W) (hb : RowKit.Below B W W2) (ho : OwnQ W2 B (.slice rA' rm' rc') rs') (hl : rs'.length = rm') :
    LS V2 hp B rA' rm' rc' rs' fA fn fc fl (W2.setCell ⟨hp, 0, none⟩ (.slice rA' rm' rc')) := by
  have hlo := h.lo
  have hhi := h.hi
  refine ⟨hlo, hhi, (h.bel.trans (hb.mono (by omega))).setCell (p := ⟨hp, 0, none⟩) hlo _, ?_, ?_, ho.put fun k hk _ => Go.Deep.blk_setCell_other _ _ _ _ (by show k ≠ hp; omega), h.free.keep fun k h1 h2 _ => ?_, hl, h.fl⟩
  · rw [Go.Deep.nblk_setCell]; exact Nat.le_trans h.sz hb.size
  · exact (h.pb.old hb hhi).set 0 _ _ rfl
  · rw [Go.Deep.blk_setCell_other _ _ _ _ (by show k ≠ hp; omega)]
    exact hb.block k h2
/-- one truck less is free -/
theorem LS.del {V2 W W2 : World} {hp B rm rc fn fc fn' g : Nat} {rA : Option Addr} {rs : List Rd} {fl fl' : List Int} (h : LS V2 hp B rA rm rc rs (some ⟨g, 0, none⟩) fn fc fl W) (ho : OwnI W2 (hp + 1) (.slice (some ⟨g, 0, none⟩) fn' fc) fl') (hb : RowKit.Below (hp + 1) W W2) (hbt : ButB g W W2) (hl : fl'.length = fn') :
    LS V2 hp B rA rm rc rs (some ⟨g, 0, none⟩) fn' fc fl' W2 := by
  have hlo := h.lo
  have hhi := h.hi
  have hg := h.free.2 _ rfl
  simp only at hg
  exact ⟨hlo, hhi, h.bel.trans (hb.mono (by omega)), Nat.le_trans h.sz hb.size, h.pb.old hb (Nat.lt_succ_self _), h.own.put fun k h1 h2 => hbt k h2 (by omega), ⟨ho, h.free.2⟩, h.rl, hl⟩
/-- a place among the trucks that are free -/
theorem LS.at_ {V2 W : World} {hp B rm rc fn fc q : Nat} {rA fA : Option Addr} {rs : List Rd} {fl : List Int} {u : Int} (h : LS V2 hp B rA rm rc rs fA fn fc fl W) (hq : fl[q]? = some u) : ∃ g, fA = some ⟨g, 0, none⟩ ∧ W.cell? ⟨g, q, none⟩ = some (.int .i64 u) := by
  rcases h.free.1.2 with ⟨e, h0⟩ | ⟨g, cap, cur, e, hbg, hg, _⟩
  · rw [List.eq_nil_of_length_eq_zero h0] at hq
    simp at hq
  · injection e with e1 _ _
    obtain ⟨A', c', e', _, _, hi⟩ := h.free.1.ints
    injection e' with e2 _ _
    subst e2
    obtain ⟨ad, e3, hc⟩ := hi q u hq
    rw [e1] at e3
    obtain rfl := Option.some.inj e3
    rw [add_flat] at hc
    exact ⟨g, e1, by simpa using hc⟩

/-- a route more, behind a row of a call's own -/
theorem ownq_one {W : World} {base : Nat} {A : Option Addr} {n c : Nat} {l : List Rd} (h : OwnQ W base (.slice A n c) l) (hn : l.length = n) (hb : base ≤ W.heap.size) (r : Rd) (hs : n ≤ 1000) :
    ∃ v' w', (Builtin.append_ #[38, 38] 38 #[.slice A n c, .slice (some ⟨W.heap.size, 0, none⟩) 1 1]).run Tryz.prog ((W.alloc (.cells #[.int .i64 r.tr, .slice r.sA r.sm r.sc] 58)).drew) = .ok v' w' ∧ ∃ A' c', v' = .slice A' (n + 1) c' ∧ Hid (OwnQ w' base (.slice A' (n + 1) c') (l ++ [r]) ∧ RowKit.Below base W w') := by
  have hbel : RowKit.Below W.heap.size W ((W.alloc (.cells #[.int .i64 r.tr, .slice r.sA r.sm r.sc] 58)).drew) := (below_alloc _ _).drew
  have hbx : Box ((W.alloc (.cells #[.int .i64 r.tr, .slice r.sA r.sm r.sc] 58)).drew) W.heap.size #[.int .i64 r.tr, .slice r.sA r.sm r.sc] 58 := Box.new W _ _
  have hrow : RowsR ((W.alloc (.cells #[.int .i64 r.tr, .slice r.sA r.sm r.sc] 58)).drew) (some ⟨W.heap.size, 0, none⟩) [r] := fun k s hk => by
    have hk0 : k = 0 := by have := (List.getElem?_eq_some_iff.1 hk).1; simp at this; exact this
    subst hk0
    obtain rfl : r = s := by simpa using hk
    refine ⟨_, rfl, ?_, ?_⟩
    · rw [add_flat]; exact hbx.cell 0 _ rfl
    · rw [add_flat]; exact hbx.cell 1 _ rfl
  obtain ⟨v', w', h1, A', c', e, h2⟩ := ownq_app (h.below hbel) (Nat.le_trans hb hbel.size) (some ⟨W.heap.size, 0, none⟩) 1 1 [r] rfl hrow (by omega) (n + 1) (by rw [List.length_append, hn]; rfl)
  exact ⟨v', w', h1, A', c', e, h2.out.1, (hbel.mono hb).trans h2.out.2⟩

theorem keepI_set {W : World} {b i : Nat} {cs : Array Value} (h : Box W b cs 40) (v : Value) : KeepI W (W.setCell ⟨b, i, none⟩ v) := fun k cs' fz e => Go.Deep.blk_setCell_other _ _ _ _ fun hk => by
  have hk : k = b := hk
  subst hk
  rw [show W.heap[k]? = _ from h] at e
  injection e with e
  injection e with _ e _
  cases e

/-- what a call that tells a first plan leaves -/
def BuildPost (w : World) (x : Wd) (e : Ending) (w' : World) : Prop := ∃ p : Pd, e = .returned (.tuple #[.agg #[.slice p.rA p.rm p.rc, .slice p.uA p.um p.uc], .int .i64 (Rt.worldE x.N x.D x.T x.os x.ts)]) ∧ Hid (RowKit.Below w.heap.size w w' ∧ PAt w' p ∧ (Rt.worldE x.N x.D x.T x.os x.ts = 0 → Sv.IsPlan x.N x.D x.T x.os x.ts (ros p.rs) ∧ p.us = Pl.restS x.os (ros p.rs)) ∧ (¬ Rt.worldE x.N x.D x.T x.os x.ts = 0 → p.rs = [] ∧ p.us = [] ∧ p.rm = 0))
/-- the boxes of a call that builds -/
structure BX (V : World) (b1 : Nat) (x : Wd) : Prop where
  w : WX V b1 x
  r : Box V (b1 + 1) #[.slice none 0 0, .slice none 0 0] 40
theorem BX.below {V V' : World} {b1 : Nat} {x : Wd} (h : BX V b1 x) (hb : RowKit.Below V.heap.size V V') : BX V' b1 x := ⟨h.w.below hb, h.r.below hb⟩
theorem BX.new {w : World} {x : Wd} (hx : WAt w x) : BX ((w.alloc (.cells #[.int .i64 x.N, .slice x.dA x.dm x.dc, .slice x.tA x.tm x.tc, .slice x.A x.m x.c, .slice x.B x.k x.d] 28)).alloc (.cells #[.slice none 0 0, .slice none 0 0] 40)) w.heap.size x := by
  refine ⟨(WX.new hx).below (below_alloc _ _), ?_⟩
  rw [size_one w (.cells #[.int .i64 x.N, .slice x.dA x.dm x.dc, .slice x.tA x.tm x.tc, .slice x.A x.m x.c, .slice x.B x.k x.d] 28)]
  exact Box.new _ _ _
theorem PAt.zero (w : World) : PAt w ⟨none, 0, 0, [], none, 0, 0, []⟩ := ⟨rfl, by show 0 ≤ 1000; omega, RowsR.nil _ _, fun r hr => (by cases hr), by show 0 ≤ 10000; omega, rfl, by show 0 ≤ 1000; omega, IntsAt.nil _ _⟩

set_option maxHeartbeats 8000000 in
theorem build_b (x : Wd) (w : World) (hx : WAt w x) :
    Calls Tryz.prog 13 #[.agg #[.int .i64 x.N, .slice x.dA x.dm x.dc, .slice x.tA x.tm x.tc, .slice x.A x.m x.c, .slice x.B x.k x.d]] w (BuildPost w x) := by
  have HX := Lib.hid (BX.new hx)
  have HB0 : Hid (RowKit.Below w.heap.size w ((w.alloc (.cells #[.int .i64 x.N, .slice x.dA x.dm x.dc, .slice x.tA x.tm x.tc, .slice x.A x.m x.c, .slice x.B x.k x.d] 28)).alloc (.cells #[.slice none 0 0, .slice none 0 0] 40))) := below_more (below_alloc _ _) _
  have HRP : Hid (∀ W, WAt W x → Calls Tryz.prog 11 #[.agg #[.int .i64 x.N, .slice x.dA x.dm x.dc, .slice x.tA x.tm x.tc, .slice x.A x.m x.c, .slice x.B x.k x.d]] W (RowsPost W x)) := fun W h => rows_b x W h
  clear hx
  have HLE : Hid (w.heap.size ≤ w.heap.size + 1) := by unfold Hid; omega
  go_enter Tryz.func13, Tryz.ntmps13
  have x0 := HX.out.w.c0
  have x1 := HX.out.w.c1
  have x2 := HX.out.w.c2
  have x3 := HX.out.w.c3
  have x4 := HX.out.w.c4
  go_wp2_with fail
  clear x0 x1 x2 x3 x4
  generalize ((w.alloc (.cells #[.int .i64 x.N, .slice x.dA x.dm x.dc, .slice x.tA x.tm x.tc, .slice x.A x.m x.c, .slice x.B x.k x.d] 28)).alloc (.cells #[.slice none 0 0, .slice none 0 0] 40)) = V at *
  generalize hb1 : w.heap.size = b1 at HX HLE ⊢
  have HBE := Lib.hid hb1
  clear hb1
  with_reducible refine (HRP.out _ HX.out.w.at_).mono ?_
  rintro e V2 ⟨A, n, c, L, rfl, h2⟩
  have HX2 := Lib.hid (HX.out.below h2.out.1)
  have HB2 := Lib.hid (below_next HB0.out h2.out.1)
  obtain ⟨g1, g2, g3, g4, g5, g6⟩ := h2.out
  have HLN := Lib.hid g2
  have HN12 := Lib.hid g3
  have HSR := Lib.hid g4
  have HIS := Lib.hid g5
  clear g1 g2 g3 g4 g5 h2 HRP HX HB0
  obtain ⟨f, hf⟩ : ∃ f, Rt.worldE x.N x.D x.T x.os x.ts = f := ⟨_, rfl⟩
  have HF := Lib.hid hf
  have HPO : Hid (∀ (e : Ending) (w' : World) (p : Pd), e = .returned (.tuple #[.agg #[.slice p.rA p.rm p.rc, .slice p.uA p.um p.uc], .int .i64 f]) → RowKit.Below w.heap.size w w' → PAt w' p → (f = 0 → Sv.IsPlan x.N x.D x.T x.os x.ts (ros p.rs) ∧ p.us = Pl.restS x.os (ros p.rs)) → (¬ f = 0 → p.rs = [] ∧ p.us = [] ∧ p.rm = 0) → BuildPost w x e w') := fun e w' p h1 h2 h3 h4 h5 => by
    subst hf
    exact ⟨p, h1, h2, h3, h4, h5⟩
  rw [hf] at HIS ⊢
  clear hf g6
  by_cases hf0 : f = 0
  · subst hf0
    have e1 : ((0 : Int) != (0 : Int)) = false := by decide
    have HIR := Lib.hid (HIS.out rfl)
    clear HIS
    have HX3 := Lib.hid (HX2.out.below (below_alloc V2 (.cells #[.slice none 0 0, .slice none 0 0] 40)))
    have HTK := Lib.hid (strucks_b x (V2.alloc (.cells #[.slice none 0 0, .slice none 0 0] 40)) HX3.out.w.at_)
    have x0 := HX3.out.w.c0
    have x1 := HX3.out.w.c1
    have x2 := HX3.out.w.c2
    have x3 := HX3.out.w.c3
    have x4 := HX3.out.w.c4
    go_wp2_with fail
    clear x0 x1 x2 x3 x4
    with_reducible refine HTK.out.mono ?_
    rintro e V4 ⟨tA, tc, rfl, h4⟩
    have hpb : Box V4 V2.heap.size #[.slice none 0 0, .slice none 0 0] 40 := (Box.new V2 _ _).below h4.out.1
    have HLS : Hid (LS V2 V2.heap.size V4.heap.size none 0 0 [] tA (Pl.srt (x.ts.map Ld.T.id)).length tc (Sv.fr (x.ts.map Ld.T.id) []) V4) := by
      refine ⟨Nat.le_refl _, hpb.lt, below_next (below_alloc _ _) h4.out.1, Nat.le_refl _, hpb, ownQ_nil _ _, ⟨?_, h4.out.2.2⟩, rfl, by rw [Sv.fr_nil]⟩
      rw [Sv.fr_nil]
      have := h4.out.2.1
      rwa [← size_one V2 (.cells #[.slice none 0 0, .slice none 0 0] 40)] at this
    have HBF : Hid (Sv.BF (fun u st => Rt.runS x.N x.D x.T x.os x.ts u st) (x.ts.map Ld.T.id) ((sts L).take 0) (ros [])) := .nil
    have HTL : Hid ((Pl.srt (x.ts.map Ld.T.id)).length ≤ 6) := by unfold Hid; rw [Pl.srt_len, List.length_map]; exact (Rt.ok_of HF.out).tl
    clear h4 hpb HTK HX3
    generalize hp0 : V2.heap.size = hp at HLS ⊢
    have HHP := Lib.hid hp0
    clear hp0
    generalize (Pl.srt (x.ts.map Ld.T.id)).length = tn at *
    have hB := HLS.out.sz
    generalize V4.heap.size = B at HLS hB
    clear hB
    go_wp2_with fail
    go_loopg [7, 24] n (fun gk s7 s24 Wx => ∃ (k : Nat) (rA : Option Addr) (rm rc : Nat) (rs : List Rd) (fA : Option Addr) (fn fc : Nat) (W : World), W = Wx ∧ k + gk = n ∧ s24 = .int .i64 k ∧ s7 = .slice fA fn fc ∧ Hid (LS V2 hp B rA rm rc rs fA fn fc (Sv.fr (x.ts.map Ld.T.id) (ros rs)) W) ∧ Hid (Sv.BF (fun u st => Rt.runS x.N x.D x.T x.os x.ts u st) (x.ts.map Ld.T.id) ((sts L).take k) (ros rs)) ∧ Hid (∀ r ∈ rs, ∃ (q : Rw) (u : Int), r = q.rd u ∧ RwOk V2 q) ∧ Hid (fn ≤ 6 ∧ rm ≤ k))
    case atStart => exact ⟨0, none, 0, 0, [], tA, tn, tc, _, rfl, by omega, rfl, rfl, HLS.out, HBF.out, (fun r hr => by cases hr), HTL.out, Nat.le_refl _⟩
    case round =>
      clear HLS HBF HTL
      obtain ⟨k, rA, rm, rc, rs, fA, fn, fc, W, rfl, hkg, rfl, rfl, HLS, HBF, HRA, HFN⟩ := hrel
      have hn12 := HN12.out
      have HXW := Lib.hid (HX2.out.below (by rw [← HHP.out] at HLS; exact HLS.out.bel))
      have hfn := HFN.out.1
      have hrm := HFN.out.2
      by_cases hlt : k < n
      · obtain ⟨gk, rfl⟩ : ∃ j, gk = j + 1 := ⟨gk - 1, by omega⟩
        obtain ⟨q, hq⟩ := mlist_at L k (by rw [HLN.out]; exact hlt)
        have HQ2 := Lib.hid (HSR.out.ok q (List.mem_of_getElem? hq))
        have HTA : Hid ((sts L).take (k + 1) = (sts L).take k ++ [q.st]) := Ar.take_snoc _ _ _ (sts_at hq)
        have hbv : RowKit.Below V2.heap.size V2 W := HLS.out.bel
        obtain ⟨ad, hA, hc, hok⟩ := (HSR.out.below hbv).cell hq
        have HQ := Lib.hid hok
        have HA := Lib.hid hA
        have i2 : (k : Int) < (n : Int) := by omega
        obtain ⟨A', c', e, _, _, hi⟩ := HLS.out.free.1.ints
        injection e with e2 e3 e4
        subst e2 e4
        have HCH := Lib.hid (cheapest_b x fA fn fc (Sv.fr (x.ts.map Ld.T.id) (ros rs)) q W _ rfl HXW.out.w.at_ HLS.out.fl (by omega) hi HQ.out)
        clear hq hbv hA hok hi e3
        generalize A = A0 at *
        obtain rfl := HA.out
        have x0 := HXW.out.w.c0
        have x1 := HXW.out.w.c1
        have x2 := HXW.out.w.c2
        have x3 := HXW.out.w.c3
        have x4 := HXW.out.w.c4
        go_wp2_with fail
        clear x0 x1 x2 x3 x4 hc
        with_reducible refine HCH.out.mono ?_
        rintro e W5 ⟨pl, z, rfl, h5⟩
        have HLS5 := Lib.hid (HLS.out.below h5.out.1)
        have hch := h5.out.2
        rw [← HLS.out.fl] at hch
        have HSTEP := Lib.hid (Sv.BF.step (Rt.ok_of HF.out).tu HBF.out hch)
        clear h5 hch HCH HLS HXW
        rcases HSTEP.out with ⟨h1, h2⟩ | ⟨qi, u, h1, h2, h3, h4⟩
        · subst h1
          have e2 : ((-1 : Int) == (-1 : Int)) = true := by decide
          rw [← HTA.out] at h2
          have HBF2 := Lib.hid h2
          clear h2 HSTEP
          go_wp2
          go_roundg gk
          case measure => omega
          case rel => exact ⟨k + 1, rA, rm, rc, rs, fA, fn, fc, _, rfl, by omega, by first | rfl | go_num, rfl, HLS5.out, HBF2.out, HRA.out, hfn, by omega⟩
        · subst h1
          have e2 : ((qi : Int) == (-1 : Int)) = false := by rw [beq_eq_false_iff_ne]; omega
          obtain ⟨g, hfA, hcu⟩ := HLS5.out.at_ h2
          have hqn : qi < fn := by rw [← HLS5.out.fl]; exact (List.getElem?_eq_some_iff.1 h2).1
          subst hfA
          have HQN := Lib.hid hqn
          have i3 : (qi : Int) < (fn : Int) := by omega
          have i4 : (0 : Int) ≤ (qi : Int) := by omega
          have hros : ros (rs ++ [q.rd u]) = ros rs ++ [⟨u, q.st⟩] := by unfold ros; rw [List.map_append]; rfl
          rw [← HTA.out, ← hros] at h3
          rw [← hros] at h4
          have HBF2 := Lib.hid h3
          have HFR := Lib.hid h4
          clear h2 h3 h4 hros hqn HSTEP
          have z0 := HLS5.out.pb.cell 0 _ rfl
          have z0a : (W5.alloc (.cells #[.int .i64 u, .slice q.A q.m q.c] 58)).cell? ⟨hp, 0, none⟩ = some (.slice rA rm rc) := (HLS5.out.pb.below (below_alloc W5 (.cells #[.int .i64 u, .slice q.A q.m q.c] 58))).cell 0 _ rfl
          have hcua : (W5.alloc (.cells #[.int .i64 u, .slice q.A q.m q.c] 58)).cell? ⟨g, qi, none⟩ = some (.int .i64 u) := by rw [(below_alloc W5 (.cells #[.int .i64 u, .slice q.A q.m q.c] 58)).cell (lt_of_cell hcu)]; exact hcu
          have HAP : Hid (∃ v' w', (Builtin.append_ #[38, 38] 38 #[.slice rA rm rc, .slice (some ⟨W5.heap.size, 0, none⟩) 1 1]).run Tryz.prog ((W5.alloc (.cells #[.int .i64 u, .slice q.A q.m q.c] 58)).drew) = .ok v' w' ∧ ∃ A' c', v' = .slice A' (rm + 1) c' ∧ (∃ z, w'.cell? ⟨hp, 0, none⟩ = some z) ∧ w'.frozen? ⟨hp, 0, none⟩ = false ∧ Hid (LS V2 hp B A' (rm + 1) c' (rs ++ [q.rd u]) (some ⟨g, 0, none⟩) fn fc (Sv.fr (x.ts.map Ld.T.id) (ros rs)) (w'.setCell ⟨hp, 0, none⟩ (.slice A' (rm + 1) c')))) := by
            obtain ⟨v', w', h1, A', c', rfl, h2⟩ := ownq_one HLS5.out.own HLS5.out.rl HLS5.out.sz (q.rd u) (by omega)
            have hpb := HLS5.out.pb.old h2.out.2 HLS5.out.hi
            exact ⟨_, w', h1, A', c', rfl, ⟨_, hpb.cell 0 _ rfl⟩, hpb.fz 0, HLS5.out.store h2.out.2 h2.out.1 (by rw [List.length_append, HLS5.out.rl]; rfl)⟩
          have wr : IntKind.i64.wrap ((qi : Int) + 1) = (qi : Int) + 1 := by rw [IntKind.wrap_i64]; omega
          clear HLS5
          go_wp2
          go_region_law (first
            | (refine step_append_w ((W5.alloc (.cells #[.int .i64 u, .slice q.A q.m q.c] 58)).drew) (by with_reducible rfl) (by rfl) (.tmp 35) (.tmp 42) 38 38 38 (by rfl) (by rfl) (.slice rA rm rc) (.slice (some ⟨W5.heap.size, 0, none⟩) 1 1) (by rfl) (by rfl) _ HAP.out ?_
               rintro v2 w6 ⟨A6, c6, rfl, ⟨zz, u1⟩, u2, u3⟩))
          all_goals
            clear z0 z0a hcu hcua u1 u2 HAP
            go_wp2_with fail
            generalize w6.setCell ⟨hp, 0, none⟩ (.slice A6 (rm + 1) c6) = W7 at *
            have HD := Lib.hid (deli2_b g fn fc qi (Sv.fr (x.ts.map Ld.T.id) (ros rs)) W7 (hp + 1) u3.out.fl (by omega) HQN.out u3.out.free.1)
            with_reducible refine HD.out.mono ?_
            rintro e W8 ⟨rfl, h8⟩
            have HLS8 : Hid (LS V2 hp B A6 (rm + 1) c6 (rs ++ [q.rd u]) (some ⟨g, 0, none⟩) (fn - 1) fc (Sv.fr (x.ts.map Ld.T.id) (ros (rs ++ [q.rd u]))) W8) := by
              rw [HFR.out]
              exact u3.out.del h8.out.1 h8.out.2.1 h8.out.2.2 (by rw [List.length_eraseIdx, u3.out.fl, if_pos HQN.out])
            have HRA2 : Hid (∀ r ∈ rs ++ [q.rd u], ∃ (q : Rw) (u : Int), r = q.rd u ∧ RwOk V2 q) := fun r hr => by
              rcases List.mem_append.1 hr with hr | hr
              · exact HRA.out r hr
              · exact ⟨q, u, List.mem_singleton.1 hr, HQ2.out⟩
            clear h8 HD u3
            go_wp2
            go_roundg gk
            case measure => omega
            case rel => exact ⟨k + 1, A6, rm + 1, c6, rs ++ [q.rd u], _, fn - 1, fc, _, rfl, by omega, by first | rfl | go_num, rfl, HLS8.out, HBF2.out, HRA2.out, by omega, by omega⟩
      · have hk : k = n := by omega
        subst hk
        have HIP : Hid (Sv.IsPlan x.N x.D x.T x.os x.ts (ros rs)) := by
          have hbf := HBF.out
          rw [List.take_of_length_le (by rw [sts_len, HLN.out]; exact Nat.le_refl _)] at hbf
          exact ⟨sts L, HIR.out, hbf⟩
        have HMY := Lib.hid (HIP.out.may HF.out)
        have HTOT : Hid ((Pl.stops (ros rs)).length ≤ 12 ∧ (Pl.restS x.os (ros rs)).length ≤ 12) := by
          have h1 := HMY.out.all_len
          rw [List.length_append] at h1
          have h2 := (Rt.ok_of HF.out).ol
          exact ⟨by omega, by omega⟩
        have HROW : Hid (∀ W', OwnQ W' B (.slice rA rm rc) rs → RowsR W' rA rs) := fun W' h => by
          obtain ⟨A', c', e, _, _, h2, _⟩ := h.row
          injection e with e1 _ _
          rw [e1]
          exact h2
        have HP0 : Hid (PAt W ⟨rA, rm, rc, rs, none, 0, 0, []⟩) := by
          refine ⟨HLS.out.rl, by show rm ≤ 1000; omega, HROW.out W HLS.out.own, fun r hr => ?_, by have := HTOT.out.1; show (Pl.stops (ros rs)).length ≤ 10000; omega, rfl, by show 0 ≤ 1000; omega, IntsAt.nil _ _⟩
          obtain ⟨q, u, rfl, hq⟩ := HRA.out r hr
          exact (hq.below HLS.out.bel).rat u
        have HR := Lib.hid (rest_b x ⟨rA, rm, rc, rs, none, 0, 0, []⟩ W HXW.out.w.at_ HP0.out)
        have z0 := HLS.out.pb.cell 0 _ rfl
        have z1 := HLS.out.pb.cell 1 _ rfl
        have x0 := HXW.out.w.c0
        have x1 := HXW.out.w.c1
        have x2 := HXW.out.w.c2
        have x3 := HXW.out.w.c3
        have x4 := HXW.out.w.c4
        go_wp2_with fail
        clear x0 x1 x2 x3 x4 z0 z1
        with_reducible refine HR.out.mono ?_
        rintro e W9 ⟨uA, uc, rfl, huc, h9⟩
        have HLS9 := Lib.hid (HLS.out.below h9.out.1)
        have HX9 := Lib.hid (HXW.out.below h9.out.1)
        have HU := Lib.hid h9.out.2.1
        have HUB : Hid (∀ ad, uA = some ad → hp < ad.block) := fun ad e => by
          have h1 := (h9.out.2.2 ad e).1
          have h2 := HLS.out.pb.lt
          omega
        have HNE : Hid (b1 + 1 < hp) := by unfold Hid; rw [← HHP.out]; exact HX2.out.r.lt
        have HB9 : Hid (RowKit.Below w.heap.size w W9) := below_next HB2.out HLS9.out.bel
        obtain ⟨un, hun⟩ : ∃ n, (Pl.restS x.os (ros rs)).length = n := ⟨_, rfl⟩
        have HUN := Lib.hid hun
        rw [show (Pl.restS x.os (ros (Pd.rs ⟨rA, rm, rc, rs, none, 0, 0, []⟩))).length = un from hun]
        have HB10 : Hid (Box (W9.setCell ⟨hp, 1, none⟩ (.slice uA un uc)) hp #[.slice rA rm rc, .slice uA un uc] 40) := HLS9.out.pb.set 1 _ _ rfl
        have HR10 : Hid (Box (W9.setCell ⟨hp, 1, none⟩ (.slice uA un uc)) (b1 + 1) #[.slice none 0 0, .slice none 0 0] 40) := (Go.Deep.blk_setCell_other _ _ _ _ (by have := HNE.out; show b1 + 1 ≠ hp; omega)).trans HX9.out.r
        have HK10 : Hid (KeepI W9 (W9.setCell ⟨hp, 1, none⟩ (.slice uA un uc))) := keepI_set HLS9.out.pb _
        have HB11 : Hid (RowKit.Below w.heap.size w (W9.setCell ⟨hp, 1, none⟩ (.slice uA un uc))) := HB9.out.setCell (p := ⟨hp, 1, none⟩) (by have h1 := HNE.out; have h2 := HLE.out; have h3 := HBE.out; show w.heap.size ≤ hp; omega) _
        have y1 := HLS9.out.pb.cell 1 _ rfl
        have y2 := HLS9.out.pb.fz 1
        have z0 := HB10.out.cell 0 _ rfl
        have z1 := HB10.out.cell 1 _ rfl
        have r0 := HR10.out.cell 0 _ rfl
        have r1 := HR10.out.cell 1 _ rfl
        have q0 := HR10.out.fz 0
        have q1 := HR10.out.fz 1
        clear hun h9 HR HXW HX9 huc
        go_wp2
        refine bodyPost_ret (results_plan2 rfl _ (plan_set2 HR10.out _ _) rfl rfl rfl) rfl (HPO.out _ _ ⟨rA, rm, rc, rs, uA, un, uc, Pl.restS x.os (ros rs)⟩ rfl (below_two HB11.out _ (by rw [HBE.out]; exact HLE.out) _ _) ?_ (fun _ => ⟨HIP.out, rfl⟩) (fun h => absurd trivial h))
        have hk11 : KeepI W9 (((W9.setCell ⟨hp, 1, none⟩ (.slice uA un uc)).setCell ⟨b1 + 1, 0, none⟩ (.slice rA rm rc)).setCell ⟨b1 + 1, 1, none⟩ (.slice uA un uc)) :=
          (HK10.out.trans (keepI_set HR10.out _)).trans (keepI_set (HR10.out.set 0 _ _ rfl) _)
        have hbk : ∀ j, hp < j → (((W9.setCell ⟨hp, 1, none⟩ (.slice uA un uc)).setCell ⟨b1 + 1, 0, none⟩ (.slice rA rm rc)).setCell ⟨b1 + 1, 1, none⟩ (.slice uA un uc)).heap[j]? = W9.heap[j]? := fun j hj => by
          have h1 := HNE.out
          exact ((Go.Deep.blk_setCell_other _ _ _ _ (by show j ≠ b1 + 1; omega)).trans (Go.Deep.blk_setCell_other _ _ _ _ (by show j ≠ b1 + 1; omega))).trans (Go.Deep.blk_setCell_other _ _ _ _ (by show j ≠ hp; omega))
        refine ⟨HLS9.out.rl, by show rm ≤ 1000; omega, HROW.out _ (HLS9.out.own.put fun j hj _ => hbk j (by have := HLS9.out.hi; omega)), fun r hr => ?_, by have := HTOT.out.1; show (Pl.stops (ros rs)).length ≤ 10000; omega, HUN.out, by have h1 := HTOT.out.2; have h2 := HUN.out; show un ≤ 1000; omega, ints_keep HU.out fun ad e => hbk _ (HUB.out ad e)⟩
        obtain ⟨q, u, rfl, hq⟩ := HRA.out r hr
        exact ((hq.below HLS9.out.bel).keep hk11).rat u
  · have e1 : (f != (0 : Int)) = true := bne_iff_ne.2 hf0
    have r0 := HX2.out.r.cell 0 _ rfl
    have r1 := HX2.out.r.cell 1 _ rfl
    have q0 := HX2.out.r.fz 0
    have q1 := HX2.out.r.fz 1
    have HLE2 : Hid (w.heap.size ≤ b1 + 1) := by rw [HBE.out]; exact HLE.out
    go_wp2
    exact bodyPost_ret (results_plan2 rfl _ (plan_set2 HX2.out.r _ _) rfl rfl rfl) rfl (HPO.out _ _ ⟨none, 0, 0, [], none, 0, 0, []⟩ rfl (below_two HB2.out _ HLE2.out _ _) (PAt.zero _) (fun h => absurd h hf0) (fun _ => ⟨rfl, rfl, rfl⟩))
end Go.Proofs.YtjidelfpmlnhkaaGreat
