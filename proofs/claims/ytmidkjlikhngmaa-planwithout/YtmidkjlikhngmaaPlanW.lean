/- A plan that a law puts together: rows of routes cut and joined, the box that holds them. -/
import Derived.Test.YtmidkjlikhngmaaPlanLaw
import Derived.Test.YtmidkjlikhngmaaPlanMath2
import Derived.Maps.AppendAt
namespace Go.Proofs.Ytmidkjlikhngmaa
open Go.RowKit
set_option linter.unusedVariables false
set_option maxRecDepth 100000

theorem sizeRs (W : World) : (sizeOf (Try.prog.elem 29)).run Try.prog W = .ok 2 W := by kernel_rfl
theorem front_rs (A : Option Addr) (n c k : Nat) (hnc : n ≤ c) (hk : k ≤ n) :
    ∀ W : World, (Instr.slice 29 (.slice A n c) none (some (.int .i64 (k : Int))) none).run Try.prog W = .ok (.slice A k c) W := by
  intro W
  rw [run_slice_h W 29 A n c (by kernel_rfl) .i64 _ (by omega) (by omega), sizeRs W]
  simp [sliced, Result.andThen]
  intro _
  cases A <;> rfl
theorem back_rs (A : Option Addr) (n c k : Nat) (hnc : n ≤ c) (hk : k ≤ n) :
    ∃ A' c', (∀ W : World, (Instr.slice 29 (.slice A n c) (some (.int .i64 (k : Int))) none none).run Try.prog W = .ok (.slice A' (n - k) c') W) ∧
      ∀ (W : World) (l : List Rd), l.length = n → RowsR W A l → RowsR W A' (l.drop k) := by
  refine ⟨if c = k then A else A.map (·.add (k * 2)), c - k, fun W => ?_, fun W l hl h => ?_⟩
  · rw [run_slice_l W 29 A n c (by kernel_rfl) .i64 _ (by omega) (by omega), sizeRs W]
    simp [sliced, Result.andThen]
  · by_cases e : k = n
    · rw [List.drop_eq_nil_of_le (by omega)]
      exact RowsR.nil _ _
    · rw [if_neg (by omega)]
      cases A with
      | none =>
        have : l = [] := by
          cases l with
          | nil => rfl
          | cons z l =>
            obtain ⟨ad, h1, _⟩ := h 0 z rfl
            cases h1
        subst this
        simp only [List.drop_nil]
        exact RowsR.nil _ _
      | some ad => exact h.drop k

/-- an append to a row of routes of one's own, and where that lies -/
theorem ownq_app_at {W : World} {base : Nat} {v : Value} {l : List Rd} (h : OwnQ W base v l) (hb : base ≤ W.heap.size) (A : Option Addr) (m c : Nat) (b : List Rd) (hm : b.length = m) (hby : RowsR W A b) (hs : l.length + m ≤ 100000) (M : Nat) (hM : (l ++ b).length = M) :
    ∃ v' w', (Builtin.append_ #[29, 29] 29 #[v, .slice A m c]).run Try.prog W = .ok v' w' ∧ (∃ A' c', v' = .slice A' M c') ∧ Hid (OwnQ w' base v' (l ++ b) ∧ Below base W w' ∧ (∀ k, k < W.heap.size → v.ownBlock ≠ some k → w'.heap[k]? = W.heap[k]?) ∧ W.heap.size ≤ w'.heap.size ∧ (v'.ownBlock = v.ownBlock ∨ v'.ownBlock = some W.heap.size)) := by
  obtain ⟨i0, hi0, hz0, hz1, hz2⟩ := info_parts4 route_info
  have hM' : l.length + m = M := by rw [← hM, List.length_append, hm]
  cases A with
  | none =>
    have hl0 : b = [] := by
      cases b with
      | nil => rfl
      | cons z b =>
        obtain ⟨ad, h1, _⟩ := hby 0 z rfl
        cases h1
    subst hl0
    obtain rfl : m = 0 := by simpa using hm.symm
    obtain rfl : l.length = M := by simpa using hM
    rw [List.append_nil]
    obtain ⟨A', c', e, _⟩ := h.row
    refine ⟨v, W, ?_, ⟨A', c', e⟩, h, Below.refl _ _, fun _ _ _ => rfl, Nat.le_refl _, .inl rfl⟩
    rcases h.2 with ⟨rfl, h0⟩ | ⟨g, cap, cur, rfl, _, _, hnc, _⟩
    · simp [Builtin.append_, run_underlying Try.underlying29, sizeOf, typeInfo, hi0, Builtin.lenOf, Builtin.firstCells]
    · simp [Builtin.append_, run_underlying Try.underlying29, sizeOf, typeInfo, hi0, Builtin.lenOf, Builtin.firstCells, hnc, storeCells]
  | some ad =>
    obtain ⟨v', w', h1, h2, h3, _, h5⟩ := run_append_own_at (P := Try.prog) W base 29 29 44 i0 _ 2 32 Try.underlying29 hi0 hz0 hz1 hz2 rfl (by omega) v l.length (rCells l) h ad m c (rCells b) (by rw [rc_len, hm])
      (fun j u hu => hby.cells hu) rc_one (by unfold maxLen; omega) (by omega) hb
    have ho : OwnQ w' base v' (l ++ b) := by unfold OwnQ; rw [List.length_append, hm, rc_app]; exact h2
    obtain ⟨A', c', e, _⟩ := ho.row
    rw [hM] at e
    refine ⟨v', w', h1, ⟨A', c', e⟩, ho, ?_, fun k hk hv => h3.block k hk (fun e => hv e.symm), h3.size, h5⟩
    exact ⟨h3.os, h3.tape, h3.output, h3.size, fun k hk => h3.block k (Nat.lt_of_lt_of_le hk hb) (fun e => by have := (h.lt k e.symm).1; omega)⟩

/-- routes while they are joined, beside a box that waits for them, or none yet -/
structure Q1 (V : World) (xb : Option Nat) (l : List Rd) (v : Value) (w : World) : Prop where
  own : OwnQ w V.heap.size v l
  bel : Below V.heap.size V w
  box : ∀ g, xb = some g → V.heap.size ≤ g ∧ Box w g #[.slice none 0 0, .slice none 0 0] 32 ∧ v.ownBlock ≠ some g
theorem Q1.a (V : World) : Q1 V none [] (.slice (some ⟨V.heap.size, 0, none⟩) 0 0) (V.alloc (.cells #[] 44)).drew :=
  ⟨ownQ_none V V.heap.size (Nat.le_refl _), (below_alloc V _).drew, fun g e => by cases e⟩
theorem Q1.b (V : World) : Q1 V (some (V.heap.size + 1)) [] (.slice (some ⟨V.heap.size, 0, none⟩) 0 0) ((V.alloc (.cells #[] 44)).alloc (.cells #[.slice none 0 0, .slice none 0 0] 32)).drew := by
  refine ⟨(ownQ_none V V.heap.size (Nat.le_refl _)).below (below_alloc _ _).drew, (below_more (below_alloc V _) _).drew, fun g e => ?_⟩
  obtain rfl := Option.some.inj e
  refine ⟨by omega, ?_, by simp [Value.ownBlock]⟩
  rw [size_one V (.cells #[] 44)]
  exact Box.new (V.alloc (.cells #[] 44)) _ _
theorem Q1.c (V : World) : Q1 V (some V.heap.size) [] (.slice (some ⟨V.heap.size + 1, 0, none⟩) 0 0) ((V.alloc (.cells #[.slice none 0 0, .slice none 0 0] 32)).alloc (.cells #[] 44)).drew := by
  refine ⟨?_, (below_more (below_alloc V _) _).drew, fun g e => ?_⟩
  · rw [size_one V (.cells #[.slice none 0 0, .slice none 0 0] 32)]
    exact ownQ_none (V.alloc (.cells #[.slice none 0 0, .slice none 0 0] 32)) V.heap.size (below_alloc V _).size
  · obtain rfl := Option.some.inj e
    exact ⟨Nat.le_refl _, (Box.new V _ _).below (below_alloc _ _).drew, by simp [Value.ownBlock]⟩
theorem Q1.app {V w : World} {xb : Option Nat} {l : List Rd} {v : Value} (h : Q1 V xb l v w) (A : Option Addr) (m c : Nat) (b : List Rd) (hm : b.length = m) (hby : RowsR V A b) (hs : l.length + m ≤ 100000) (M : Nat) (hM : (l ++ b).length = M) :
    ∃ v' w', (Builtin.append_ #[29, 29] 29 #[v, .slice A m c]).run Try.prog w = .ok v' w' ∧ ∃ A' c', v' = .slice A' M c' ∧ Hid (Q1 V xb (l ++ b) v' w') := by
  obtain ⟨v', w', h1, ⟨A', c', e⟩, h2⟩ := ownq_app_at h.own h.bel.size A m c b hm (hby.below h.bel) hs M hM
  obtain ⟨o1, o2, o3, o4, o5⟩ := h2.out
  refine ⟨v', w', h1, A', c', e, o1, h.bel.trans o2, fun g hg => ?_⟩
  obtain ⟨g1, g2, g3⟩ := h.box g hg
  refine ⟨g1, (o3 g g2.lt g3).trans g2, fun hv => ?_⟩
  rcases o5 with o5 | o5
  · rw [o5] at hv; exact g3 hv
  · rw [o5] at hv
    have := g2.lt
    injection hv with hv
    omega
theorem Q1.late {V w : World} {l : List Rd} {v : Value} (h : Q1 V none l v w) : Q1 V (some w.heap.size) l v (w.alloc (.cells #[.slice none 0 0, .slice none 0 0] 32)) := by
  refine ⟨h.own.below (below_alloc _ _), h.bel.alloc h.bel.size _, fun g e => ?_⟩
  obtain rfl := Option.some.inj e
  refine ⟨h.bel.size, Box.new _ _ _, fun hv => ?_⟩
  have := (h.own.lt _ hv).2
  omega
/-- the box that holds them -/
def XBox (V : World) (l : List Rd) (m : Nat) (s : Value) (W : World) : Prop := ∃ g A c, s = .pointer (some ⟨g, 0, none⟩) ∧ Hid (V.heap.size ≤ g ∧ Box W g #[.slice A m c, .slice none 0 0] 32 ∧ Below V.heap.size V W ∧ RowsR W A l ∧ ∀ ad, A = some ad → ad.block ≠ g)
theorem RowsR.blocks {W W' : World} {A : Option Addr} {l : List Rd} (h : RowsR W A l) (hb : ∀ ad, A = some ad → W'.heap[ad.block]? = W.heap[ad.block]?) : RowsR W' A l := fun k r hr => by
  obtain ⟨ad, e, h1, h2⟩ := h k r hr
  have hblk : (ad.add (k * 2)).block = ad.block := by unfold Addr.add; split <;> rfl
  exact ⟨ad, e, by rw [World.cell?_of_block (w := W) (w' := W') (by rw [hblk]; exact hb ad e)]; exact h1, by rw [World.cell?_of_block (w := W) (w' := W') (by show W'.heap[(ad.add (k * 2)).block]? = W.heap[(ad.add (k * 2)).block]?; rw [hblk]; exact hb ad e)]; exact h2⟩
theorem Q1.put {V w : World} {g m c : Nat} {l : List Rd} {A : Option Addr} (h : Q1 V (some g) l (.slice A m c) w) : XBox V l m (.pointer (some ⟨g, 0, none⟩)) ((w.setCell ⟨g, 0, none⟩ (.slice A m c)).setCell ⟨g, 1, none⟩ (.slice none 0 0)) := by
  obtain ⟨g1, g2, g3⟩ := h.box g rfl
  refine ⟨g, A, c, rfl, g1, plan_set g2 _ _, below_set2 h.bel _ g1 _ _, ?_⟩
  have ho : OwnQ ((w.setCell ⟨g, 0, none⟩ (.slice A m c)).setCell ⟨g, 1, none⟩ (.slice none 0 0)) V.heap.size (.slice A m c) l := by
    obtain ⟨h1, h2⟩ := h.own
    refine ⟨h1, ?_⟩
    rcases h2 with h2 | ⟨g', cap, cur, hv, hg, hh, r⟩
    · exact .inl h2
    · refine .inr ⟨g', cap, cur, hv, hg, (but_set2 w g _ _ g' (fun e => g3 ?_)).trans hh, r⟩
      rw [hv, e]; rfl
  exact ⟨ho.len.2.2.1, fun ad e hg => g3 (by rw [e, ← hg]; rfl)⟩
theorem Q1.new {V w : World} {m c : Nat} {l : List Rd} {A : Option Addr} (h : Q1 V none l (.slice A m c) w) : XBox V l m (.pointer (some ⟨w.heap.size, 0, none⟩)) (w.alloc (.cells #[.slice A m c, .slice none 0 0] 32)) :=
  ⟨w.heap.size, A, c, rfl, h.bel.size, Box.new _ _ _, h.bel.alloc h.bel.size _, (h.own.below (below_alloc _ _)).len.2.2.1, fun ad e hg => by have := (h.own.len.2.2.2 ad e).2.1; omega⟩

/-- a trip in a box -/
def TBox (V : World) (r : Rt.R) (n : Nat) (s : Value) (W : World) : Prop := ∃ q A c, s = .pointer (some ⟨q, 0, none⟩) ∧ Hid (Box W q #[.slice A n c, .int .i64 r.back, .int .i64 r.dist, .int .i64 r.cost] 40 ∧ Below V.heap.size V W)
theorem tbox_new {V w : World} {r : Rt.R} {n : Nat} {A : Option Addr} {c : Nat} (hb : Below V.heap.size V w) :
    TBox V r n (.pointer (some ⟨w.heap.size, 0, none⟩)) (w.alloc (.cells #[.slice A n c, .int .i64 r.back, .int .i64 r.dist, .int .i64 r.cost] 40)) :=
  ⟨_, A, c, rfl, Box.new _ _ _, below_more hb _⟩
theorem tbox_set {V w : World} {r : Rt.R} {n : Nat} {A : Option Addr} {c : Nat} (hU : Below (V.alloc (.cells #[.slice none 0 0, .int .i64 0, .int .i64 0, .int .i64 0] 40)).drew.heap.size (V.alloc (.cells #[.slice none 0 0, .int .i64 0, .int .i64 0, .int .i64 0] 40)).drew w) :
    TBox V r n (.pointer (some ⟨V.heap.size, 0, none⟩)) ((((w.setCell ⟨V.heap.size, 0, none⟩ (.slice A n c)).setCell ⟨V.heap.size, 1, none⟩ (.int .i64 r.back)).setCell ⟨V.heap.size, 2, none⟩ (.int .i64 r.dist)).setCell ⟨V.heap.size, 3, none⟩ (.int .i64 r.cost)) := by
  have hbx : Box (V.alloc (.cells #[.slice none 0 0, .int .i64 0, .int .i64 0, .int .i64 0] 40)).drew V.heap.size #[.slice none 0 0, .int .i64 0, .int .i64 0, .int .i64 0] 40 := Box.new V _ _
  exact ⟨_, A, c, rfl, trip_set (hbx.below hU) _ _ _ _, below_set4 (below_next (below_alloc V (.cells #[.slice none 0 0, .int .i64 0, .int .i64 0, .int .i64 0] 40)).drew hU) _ (Nat.le_refl _) _ _ _ _⟩

/-- a plan turned about, while it is made: its box, its routes so far -/
structure YB (V : World) (g : Nat) (A : Option Addr) (m c : Nat) (u : Value) (l : List Rd) (W : World) : Prop where
  bel : Below V.heap.size V W
  hg : V.heap.size ≤ g
  box : Box W g #[.slice A m c, u] 32
  own : OwnQ W (g + 1) (.slice A m c) l
theorem YB.start (V : World) (u : Value) : YB V V.heap.size none 0 0 u [] (V.alloc (.cells #[.slice none 0 0, u] 32)) := ⟨below_alloc _ _, Nat.le_refl _, Box.new _ _ _, ownQ_nil _ _⟩
def PutY (V : World) (g m' : Nat) (u : Value) (l' : List Rd) (v' : Value) (w5 : World) : Prop := ∃ A' c', v' = .slice A' m' c' ∧ (∃ z, w5.cell? ⟨g, 0, none⟩ = some z) ∧ w5.frozen? ⟨g, 0, none⟩ = false ∧ Hid (YB V g A' m' c' u l' (w5.setCell ⟨g, 0, none⟩ (.slice A' m' c')))
theorem YB.put {V W : World} {g m c : Nat} {A : Option Addr} {u : Value} {l : List Rd} (h : YB V g A m c u l W) (r : Rd) (l' : List Rd) (m' : Nat) (hl : l ++ [r] = l') (hm : l'.length = m') (hs : l.length ≤ 1000) :
    ∃ v' w', (Builtin.append_ #[29, 29] 29 #[.slice A m c, .slice (some ⟨W.heap.size, 0, none⟩) 1 1]).run Try.prog (W.alloc (.cells #[.int .i64 r.tr, .slice r.sA r.sm r.sc] 44)).drew = .ok v' w' ∧ PutY V g m' u l' v' w' := by
  have hbx : Box (W.alloc (.cells #[.int .i64 r.tr, .slice r.sA r.sm r.sc] 44)).drew W.heap.size #[.int .i64 r.tr, .slice r.sA r.sm r.sc] 44 := Box.new W _ _
  have hrow : RowsR (W.alloc (.cells #[.int .i64 r.tr, .slice r.sA r.sm r.sc] 44)).drew (some ⟨W.heap.size, 0, none⟩) [r] := RowsR.of fun j z hz => by
    rw [add_flat, Nat.zero_add]
    exact hbx.cell j z (by simpa [rCells] using hz)
  have hgl : g < W.heap.size := h.box.lt
  obtain ⟨v', w', h1, A', c', e, h2⟩ := ownq_app (W := (W.alloc (.cells #[.int .i64 r.tr, .slice r.sA r.sm r.sc] 44)).drew) (base := g + 1) (h.own.below (below_alloc W (.cells #[.int .i64 r.tr, .slice r.sA r.sm r.sc] 44)).drew) (by show g + 1 ≤ (W.alloc (.cells #[.int .i64 r.tr, .slice r.sA r.sm r.sc] 44)).heap.size; simp; omega) (some ⟨W.heap.size, 0, none⟩) 1 1 [r] rfl hrow (by omega) m' (by rw [hl]; exact hm)
  subst e
  have hb5 : Below (g + 1) W w' := (((below_alloc W (.cells #[.int .i64 r.tr, .slice r.sA r.sm r.sc] 44)).drew).mono (by omega)).trans h2.out.2
  have hbx5 : Box w' g #[.slice A m c, u] 32 := h.box.old hb5 (Nat.lt_succ_self g)
  have ho := h2.out.1
  rw [hl] at ho
  have hgg := h.hg
  refine ⟨_, w', h1, A', c', rfl, ⟨_, hbx5.cell 0 _ rfl⟩, hbx5.fz 0, ⟨?_, h.hg, hbx5.set 0 _ _ rfl, ho.put fun k hk _ => Go.Deep.blk_setCell_other _ _ _ _ (by show k ≠ g; omega)⟩⟩
  exact (h.bel.trans (hb5.mono (by omega))).setCell (p := ⟨g, 0, none⟩) h.hg _
theorem YB.below {V W W' : World} {g m c : Nat} {A : Option Addr} {u : Value} {l : List Rd} (h : YB V g A m c u l W) (hb : Below W.heap.size W W') : YB V g A m c u l W' := ⟨below_next h.bel hb, h.hg, h.box.below hb, h.own.below hb⟩
theorem rd_rev (rs : List Rd) (k j : Nat) (r : Rd) (h : rs.length = k + 1 + j) (hr : rs[k]? = some r) : rs.reverse.take j ++ [r] = rs.reverse.take (j + 1) := by
  rw [List.take_add_one, List.getElem?_reverse (by omega), show rs.length - 1 - j = k by omega, hr]
  rfl
theorem ros_rev (rs : List Rd) : ros rs.reverse = (ros rs).reverse := List.map_reverse
end Go.Proofs.Ytmidkjlikhngmaa
